import PyProof.Rows.All
import Wide.All
import OpenK.AllK
import Wide.FinOn
import Lean
import PyProof.EqAt
import PyProof.EqKinds
import PyProof.TupleCall
import PyProof.P3Eq
import PyProof.NeData
import PyProof.ListRange
import PyProof.Rows.CallKwBuiltin
import PyProof.Rows.Range3
import PyProof.DictWalks
import PyProof.MinMaxWalk
import PyProof.WalkInts
import PyProof.Walk
import PyProof.WalkLemmas
import PyProof.RulesTry
import PyProof.Rows.SortShell
import PyProof.Rows.SortWalk
import PyProof.Rows.SortRuns
import PyProof.Rows.SetFrom
import PyProof.SetKind
import PyProof.SetScanFacts
import PyProof.FactsAll.subtypes_4
import PyProof.FactsAll.set_1
import PyProof.DictDisplay
import PyProof.DictUpdate
import KE.KDictOf
import PyProof.ZipIter
import PyProof.FactsAll.zip
import PyProof.AttrMissHeap
import PyProof.DictItems
import KE.KItemsList
import KE.KSortTup
import PyProof.CallStr
import PyProof.TableCode
import PySem.Challenge.RW_bentrows_k11_papers_looked_at
set_option tactic.hygienic false
set_option genSizeOf false
set_option compiler.extract_closed false
set_option Elab.async false
noncomputable section
local macro_rules|`(#[$a,*])=>`(⟨$a,*⟩)
local macro_rules|`(#v[$a])=>`(some ($a,.z))
set_option linter.all false
set_option maxRecDepth 100000
set_option maxHeartbeats 4000000
section
abbrev FG:=PySem.W.Frag
open PySem PySem.Spec PyProof.Rows
abbrev GC:=@wpAny_bind
abbrev GD:=@wpAny_pure
abbrev GF:=@wpAny_holding
abbrev GG:=@List.mem_cons_self
abbrev GH:=@List.mem_cons_of_mem
abbrev GI:=@Heap.get?_push_of_some
abbrev GJ:=@Option.map_eq_some_iff
abbrev GK:=@List.mem_append_left
abbrev GL:=@List.mem_append_right
abbrev GN:=@List.mem_cons
abbrev GO:=@List.getElem?_eq_getElem
abbrev GP:=@Heap.lt_size
abbrev GQ:=@List.mem_append
abbrev GR:=@Heap.get?_push_size
abbrev GS:=@List.length_map
abbrev GU:=@List.getElem?_eq_some_iff
abbrev GV:=@List.mem_of_getElem?
abbrev GW:=@List.sublist_append_right
abbrev GX:=@List.mem_map
abbrev GY:=@List.getElem?_map
abbrev GZ:=@Nat.le_refl
abbrev G3:=@Bool.false_ne_true
abbrev G4:=@Nat.ne_of_lt
abbrev G5:=@List.size_toArray
abbrev G6:=@List.map_cons
abbrev G7:=@decide_eq_true
abbrev G8:=@decide_eq_false
abbrev G9:=@Nat.lt_of_lt_of_le
abbrev Ha:=@Nat.zero_add
abbrev Hb:=@Heap.get?_update_self
abbrev Hc:=@List.length_append
abbrev Hd:=@List.length_cons
abbrev He:=@List.length_take
abbrev Hf:=@Option.map_some
abbrev Hg:=@Option.bind_eq_some_iff
abbrev Hh:=@List.mem_singleton
abbrev Hi:=@Bool.false_eq_true
abbrev Hj:=@List.mem_filter
abbrev Hk:=@List.getElem?_append_left
abbrev Hl:=@Heap.get?_update_other
abbrev Hm:=@Heap.size_push
abbrev Hn:=@wpAny_truthy_bool
abbrev Ho:=@Nat.le_trans
abbrev Hq:=@List.filter_eq_self
abbrev Hr:=@List.mem_flatMap
abbrev Hs:=@List.map_map
abbrev Ht:=@List.map_congr_left
abbrev Hu:=@Option.some.inj
abbrev Hv:=@List.length_eq_zero_iff
end
section
namespace L2
open PySem
def aX (s:Stmt):Arguments:=match s with
 | .FunctionDef _ a _ _ _ _ _ _ _ _=>a
 | _=>{ posonlyargs:=[],args:=[],vararg:=none,kwonlyargs:=[],kw_defaults:=[],kwarg:=none,defaults:=[] }
def aR (s:Stmt):List Stmt:=match s with
 | .FunctionDef _ _ b _ _ _ _ _ _ _=>b
 | _=>[]
def aj (s:Stmt):Scope:=match s with
 | .FunctionDef _ _ _ _ _ _ sc _ _ _=>sc
 | _=>{ kind:=.function,names:=[],isGenerator:=false,isCoroutine:=false }
def qF (p:Nat×Obj):Option (Nat×Obj):=match p.2 with
 | #[_,_,.freed,_]=>none
 | o=>some (p.1,o)
def zS (h:Heap):FG:=((List.range h.objs.size).zip h.objs.toList).filterMap qF
def refIn (K:FG) (n:Str):Addr:=match PySem.W.nsIn K mainGlobals n with
 | some (some (.ref f))=>f
 | _=>0
abbrev pE:=Str×Str×Arguments×FuncBody×Scope×Addr×List (Str×Addr)×Value×Addr×Bool
def qX (K:FG) (n:Str):Option pE:=match PySem.W.nsIn K mainGlobals n with
 | some (some (.ref f))=>(match K.lookup f with
  | some #[_,_,.func fd,_]=>some (fd.name,fd.qualname,fd.params,fd.body,fd.scope,fd.globals,fd.closure,fd.defaults,fd.builtins,PySem.W.codeIn K fd.code n)
  | _=>none)
 | _=>none
def mw (n:Str) (st:Stmt):Option pE:=some (n,n,aX st,.stmts (aR st),aj st,mainGlobals,[],.none,builtinsNs,true)
def oZ (K:FG) (n:Str):Option Int:=match PySem.W.nsIn K mainGlobals n with
 | some (some (.int v _))=>some v
 | _=>none
def xP (K:FG) (n:Str):Option Str:=match PySem.W.nsIn K mainGlobals n with
 | some (some (.str v _))=>some v
 | _=>none
open PySem.W PyProof.Rows in
theorem wI {p q:Program} {loose:List Str} {c:Shared → Bool} {α:Type} {d:Shared → α} {g:World → α} {N m:Nat} {ann:Option Value}
  (e:opening p=plainProg p.main.scope.names) (o:Nat.ble 600 N=true) (f:∀ s,fenceModules? p s=some s)
  (sz:∀ w:World,((boot_heap w.params).isNs mainGlobals && (Array.mk []:Array GenState).size == 0,(boot_heap w.params).objs.size,(boot_heap w.params).nsMap mainGlobals "__annotations__")=(true,m,ann))
  (go:∀ (w:World) (os:OsState),(PySem.W.Fast.tw14082659384304107361 PySem.W.Fast.tw14364793385576792824 p w m ann N #[boot_heap w.params,Array.mk [],boot_drawn,boot_toks,os] (topStub p)).map (λs=>((staticsOk (importedModules p.main.body) (boot_heap w.params) s.heap && namesBound p s.heap && gensDone s && laidKept (boot_heap w.params) s.heap),PySem.W.Fast.tw4187177175401517315 q loose (importedModules p.main.body) c true s,d s))=some (true,openGood q loose,g w)):LeftO p q loose c d g N:=λw=>by
 obtain ⟨⟨k,l,n,tk,os⟩,j,h⟩:=GJ.mp (boot_open e o f w)
 obtain ⟨rfl,rfl,rfl,rfl⟩:k=boot_heap w.params ∧ l=Array.mk [] ∧ n=boot_drawn ∧ tk=boot_toks:=by simpa using h
 have sw:=sz w
 have a:=go w os
 rw[← PySem.W.Fast.te14082659384304107361,← PySem.W.Fast.te14364793385576792824,← PySem.W.Fast.te4187177175401517315] at a
 simp only[Prod.mk.injEq] at sw
 obtain ⟨s,i,b⟩:=GJ.mp a
 simp only[Prod.mk.injEq] at b
 have tt:topFrom treeTable p w N #[boot_heap w.params,Array.mk [],boot_drawn,boot_toks,os]=some s:=by
  unfold topFrom
  dsimp only
  rw[sw.1,sw.2.1,sw.2.2,i]
  change (match staticsOk (importedModules p.main.body) (boot_heap w.params) s.heap && namesBound p s.heap && gensDone s && laidKept (boot_heap w.params) s.heap with | true=>some s | false=>none)=some s
  rw[b.1]
 unfold openEnds
 rw[j]
 change Option.map _ (topFrom treeTable p w N _)=_
 rw[tt]
 exact congrArg some (Prod.ext b.2.1 b.2.2)
theorem vZ (h:PySem.W.Fast.tw9446332074065402090 l=true):l.wellSaid=true:=by rw[← PySem.W.Fast.te9446332074065402090] at h; exact h
end L2
namespace L3
open PySem L2
def oe (K:FG):Bool:=match K.lookup sysModules with
 | some #[_,_,.dict _ _,_]=>true
 | _=>false
end L3
namespace Bn
open PySem L2 L3
def top (i:Nat):Stmt:=PySem.Challenge.pw_bentrows_k11_papers_looked_at.main.body.getD i (.Pass ⟨0,0,0,0⟩)
abbrev fH:Stmt:=top 4
abbrev fJ:Stmt:=top 5
abbrev fK:Stmt:=top 6
abbrev bz:Stmt:=top 7
abbrev dG:Stmt:=top 10
abbrev cv:Stmt:=top 11
abbrev oq:Stmt:=top 12
abbrev jd:Stmt:=top 13
abbrev ce:Stmt:=top 14
abbrev fI:Stmt:=top 15
abbrev c7:Stmt:=top 16
abbrev iy:Stmt:=top 17
abbrev eM:Stmt:=top 18
abbrev bO:Stmt:=top 22
abbrev fL:Stmt:=top 23
abbrev cq:Stmt:=top 24
abbrev cr:Stmt:=top 25
abbrev jg:Stmt:=top 27
abbrev k4:Stmt:=top 28
abbrev k9:Stmt:=top 29
abbrev je:Stmt:=top 30
abbrev iz:Stmt:=top 31
abbrev iA:Stmt:=top 32
abbrev ji:Stmt:=top 33
abbrev jf:Stmt:=top 34
abbrev iC:Stmt:=top 35
abbrev kZ:Stmt:=top 36
abbrev om:Stmt:=top 37
abbrev iE:Stmt:=top 38
abbrev iB:Stmt:=top 39
abbrev iD:Stmt:=top 40
abbrev jh:Stmt:=top 41
abbrev gl:Stmt:=top 42
abbrev dsL:List (Str×Stmt):=[(("is_whole":Str),fH),(("is_point":Str),fJ),(("is_place":Str),fK),(("are_rising_places":Str),bz),(("are_points":Str),dG),(("has_rising_x":Str),cv),(("bend":Str),oq),(("threes":Str),jd),(("first_on_line":Str),ce),(("is_sheet":Str),fI),(("check_sheet":Str),c7),(("turn_at":Str),iy),(("all_turns":Str),eM),(("has_paper_form":Str),bO),(("is_paper":Str),fL),(("is_cup_paper":Str),cq),(("is_cap_paper":Str),cr),(("_law_cell":Str),jg),(("_law_mix":Str),k4),(("_law_box":Str),k9),(("_law_take":Str),je),(("_law_whole":Str),iz),(("_law_truth":Str),iA),(("_law_bend":Str),ji),(("_law_free":Str),jf),(("_law_sheet":Str),iC),(("_law_odd":Str),kZ),(("_law_up":Str),om),(("_law_pairs":Str),iE),(("_law_table":Str),iB),(("_law_paper":Str),iD),(("_law_bent":Str),jh),(("law":Str),gl)]
abbrev blL:List Str:=[("len":Str),("range":Str),("abs":Str),("divmod":Str),("enumerate":Str),("tuple":Str),("isinstance":Str),("int":Str),("bool":Str),("all":Str),("str":Str),("max":Str),("min":Str),("list":Str),("dict":Str),("repr":Str),("sorted":Str),("set":Str),("zip":Str),("reversed":Str),("sum":Str)]
abbrev ciL:List (Str×Int):=[(("MOST_POINTS":Str),(24:Int)),(("UP":Str),(1:Int)),(("DOWN":Str),(-1:Int))]
abbrev csL:List (Str×Str):=[]
def A6 (K:FG):List (Option pE)×List (Option (Option Value))×List (Option Int)×List (Option Str)×Bool:=(dsL.map (λp=>qX K p.1),blL.map (PySem.W.nsIn K mainGlobals),ciL.map (λp=>oZ K p.1),csL.map (λp=>xP K p.1),oe K)
def vf:List (Option pE)×List (Option (Option Value))×List (Option Int)×List (Option Str)×Bool:=(dsL.map (λp=>mw p.1 p.2),blL.map (λ_=>some none),ciL.map (λp=>some p.2),csL.map (λp=>some p.2),true)
theorem okL:PySem.Challenge.rw_bentrows_k11_papers_looked_at.wellSaid=true:=vZ (by kernel_rfl)
abbrev loL:List Str:=[("BentError":Str),("NoSheet":Str),("is_whole":Str),("is_point":Str),("is_place":Str),("are_rising_places":Str),("MOST_POINTS":Str),("are_points":Str),("has_rising_x":Str),("bend":Str),("threes":Str),("first_on_line":Str),("is_sheet":Str),("check_sheet":Str),("turn_at":Str),("all_turns":Str),("UP":Str),("DOWN":Str),("has_paper_form":Str),("is_paper":Str),("is_cup_paper":Str),("is_cap_paper":Str),("_law_cell":Str),("_law_mix":Str),("_law_box":Str),("_law_take":Str),("_law_whole":Str),("_law_truth":Str),("_law_bend":Str),("_law_free":Str),("_law_sheet":Str),("_law_odd":Str),("_law_up":Str),("_law_pairs":Str),("_law_table":Str),("_law_paper":Str),("_law_bent":Str)]
abbrev viL:Program:=PySem.W.view PySem.Challenge.rw_bentrows_k11_papers_looked_at.row.prog [42]
theorem leftL:PySem.W.LeftO PySem.Challenge.rw_bentrows_k11_papers_looked_at.row.prog viL loL (λs=>PySem.W.recOk (PySem.W.RowW.records PySem.Challenge.rw_bentrows_k11_papers_looked_at.row.toRowW) s) (λs=>A6 (zS s.heap)) (λ_=>vf) 40000 :=
 wI (m:=11) (ann:=some (.ref 6)) (by kernel_rfl) rfl (λ_=>rfl) (λw=>by kernel_rfl) (λw os=>by kernel_rfl)
end Bn
end
section
namespace L2
open PySem PySem.Spec PyProof.Rows
abbrev Key:=Sum Int Str
def nJ:Key->Value->Bool
 | .inl k,v=>Value.isInt k v
 | .inr x,v=>Value.isStrOf x v
def keyH (w:World):Key->Int
 | .inl k=>hashInt k
 | .inr x=>hashStr w x
theorem aZ:∀ {k:Key} {v:Value},nJ k v=true->(∃ i t,k=Sum.inl i/\v=Value.int i t)\/(∃ x t,k=Sum.inr x/\v=Value.str x t)
 | .inl i,v,h=>by
  obtain ⟨t,e⟩:=Value.isInt_shape (k:=i) (v:=v) h
  exact .inl #[i,t,rfl,e]
 | .inr x,v,h=>by
  obtain ⟨t,e⟩:=Value.isStrOf_shape (x:=x) (v:=v) h
  exact .inr #[x,t,rfl,e]
theorem wO (i:Int) (t:Tok):nJ (.inl i) (.int i t)=true:=by simp[nJ,Value.isInt]
theorem wN (x:Str) (t:Tok):nJ (.inr x) (.str x t)=true:=by simp[nJ,Value.isStrOf]
theorem FV (a b:Int):decide ((Sum.inl a:Key)=Sum.inl b)=(a == b):=by
 by_cases e:a=b
 .subst e;simp
 .have h:¬ (Sum.inl a:Key)=Sum.inl b:=λq=>e (Sum.inl.inj q)
  rw[G8 h]
  exact (beq_eq_false_iff_ne.mpr e).symm
theorem FS (a b:Str):decide ((Sum.inr a:Key)=Sum.inr b)=decide (a=b):=by
 by_cases e:a=b
 .subst e;simp
 .have h:¬ (Sum.inr a:Key)=Sum.inr b:=λq=>e (Sum.inr.inj q)
  rw[G8 h,G8 e]
theorem FU (a:Int) (b:Str):decide ((Sum.inl a:Key)=Sum.inr b)=false:=G8 (λq=>nomatch q)
theorem FT (a:Str) (b:Int):decide ((Sum.inr a:Key)=Sum.inl b)=false:=G8 (λq=>nomatch q)
def aG (prog:Program) (w:World):PySem.KeyKind prog w Key where
 is:=nJ
 hash:=keyH w
 inj:=λv a b f d=>by
  rcases aZ f with ⟨i,t,rfl,rfl⟩ | ⟨x,t,rfl,rfl⟩
  .rcases aZ d with ⟨j,u,rfl,e⟩ | ⟨y,u,rfl,e⟩
   .injection e with e1 _;rw[e1]
   .exact nomatch e
  .rcases aZ d with ⟨j,u,rfl,e⟩ | ⟨y,u,rfl,e⟩
   .exact nomatch e
   .injection e with e1 _;rw[e1]
 byValue:=λk v h=>by
  rcases aZ h with ⟨i,t,rfl,rfl⟩ | ⟨x,t,rfl,rfl⟩ <;> rfl
 pyHash:=λc h=>by
  rcases aZ c with ⟨i,t,rfl,rfl⟩ | ⟨x,t,rfl,rfl⟩
  .exact wpAny_pyHash_int h
  .exact wpAny_pyHash_str h
 eqBool:=λhu c h=>by
  rcases aZ hu with ⟨i,t,rfl,rfl⟩ | ⟨x,t,rfl,rfl⟩
  .rcases aZ c with ⟨j,u,rfl,rfl⟩ | ⟨y,u,rfl,rfl⟩
   .rw[FV] at h;exact wpAny_eqBool_int h
   .rw[FU] at h;exact SeqAt.EqAt.int_str i t y u _ _ _ _ h
  .rcases aZ c with ⟨j,u,rfl,rfl⟩ | ⟨y,u,rfl,rfl⟩
   .rw[FT] at h;exact SeqAt.EqAt.str_int x t j u _ _ _ _ h
   .rw[FS] at h;exact wpAny_eqBool_str h
 «strs»:=λk x t v h=>by
  rcases aZ h with ⟨i,u,rfl,e⟩ | ⟨y,u,rfl,e⟩
  .exact nomatch e
  .injection e with e1 _
   subst e1
   cases v <;> rfl
theorem qp (prog:Program) (w:World) (i:Int) (t:Tok):(aG prog w).is (.inl i) (.int i t)=true:=wO i t
theorem qo (prog:Program) (w:World) (x:Str) (t:Tok):(aG prog w).is (.inr x) (.str x t)=true:=wN x t
end L2
namespace L2
open PySem PySem.Spec PyProof.Rows
inductive V where
 | non | bl (b:Bool) | int (i:Int) | str (x:Str) | byt (b:Array UInt8) | flt (b:UInt64) | ref (a:Addr) | ty (n:String)
 deriving DecidableEq
def RelV:V->Value->Prop
 | .non,u=>u=Value.none
 | .bl b,u=>u=Value.bool b
 | .int i,u=>∃ t,u=Value.int i t
 | .str x,u=>∃ t,u=Value.str x t
 | .byt b,u=>∃ t,u=Value.bytes b t
 | .flt b,u=>∃ t,u=Value.float b t
 | .ref a,u=>u=Value.ref a
 | .ty n,u=>u=Value.type n
abbrev Vals:List V->List Value->Prop:=Paired RelV
theorem Vals.length {xs:List V} {us:List Value} (r:Vals xs us):xs.length=us.length:=Paired.length r
theorem Vals.get:∀ {xs:List V} {us:List Value} {i:Nat} {x:V},Vals xs us->xs[i]?=some x->∃ u,us[i]?=some u/\RelV x u
 | _,_,_,_,.nil,e=>by simp at e
 | _,_,0,_,.cons r _,e=>by simp at e;subst e;exact #[_,rfl,r]
 | _,_,i+1,x,.cons _ t,e=>by
  obtain ⟨u,h1,h2⟩:=Vals.get (i:=i) (x:=x) t (by simpa using e)
  exact #[u,by simpa using h1,h2]
theorem Vals.set {x:V} {u:Value} (r:RelV x u):∀ {xs:List V} {us:List Value} (i:Nat),Vals xs us->Vals (xs.set i x) (us.set i u)
 | _,_,_,.nil=>.nil
 | _,_,0,.cons _ t=>.cons r t
 | _,_,i+1,.cons q t=>.cons q (Vals.set r i t)
theorem Vals.append:∀ {xs ys:List V} {us ws:List Value},Vals xs us->Vals ys ws->Vals (xs++ys) (us++ws)
 | _,_,_,_,.nil,s=>s
 | _,_,_,_,.cons r t,s=>.cons r (Vals.append t s)
theorem Vals.take:∀ {xs:List V} {us:List Value} (n:Nat),Vals xs us->Vals (xs.take n) (us.take n)
 | _,_,0,_=>.nil
 | _,_,_+1,.nil=>.nil
 | _,_,n+1,.cons r t=>.cons r (Vals.take n t)
theorem Vals.drop:∀ {xs:List V} {us:List Value} (n:Nat),Vals xs us->Vals (xs.drop n) (us.drop n)
 | _,_,0,r=>r
 | _,_,_+1,.nil=>.nil
 | _,_,n+1,.cons _ t=>Vals.drop n t
def RelO:Option V->Option Value->Prop
 | some v,some u=>RelV v u
 | none,none=>True
 | _,_=>False
def KV {κ:Type}:List (κ×V)->List (κ×Value)->Prop:=Paired λ(p:κ×V) (q:κ×Value)=>p.1=q.1/\RelV p.2 q.2
def kV:Key->V
 | .inl i=>.int i
 | .inr x=>.str x
inductive HO where
 | lst (xs:List V)
 | tup (xs:List V)
 | dK (kvs:List (Key×V)) | dT (kvs:List (List Key×V)) (n:Int)
 | set (S:Int->Bool) (n:Nat)
 | ins (C dx:Addr) (fs:List (Str×V))
 | dsk (C dx e:Addr) (vp:V) (vs:List V)
 | own (x:Addr)
 | xd (fs:List (Str×V))
 | met (f x:Addr)
 | rng (lo hi:Int)
 | frz (o:Obj) (u:HO)
 | tbl (ps:Array Value)
 | ext (U:Heap->Prop)
abbrev Hp:=Addr->Option HO
def upd (H:Hp) (a:Addr) (o:HO):Hp:=λb=>if b=a then some o else H b
theorem aD {H:Hp} {a:Addr} {o:HO}:upd H a o a=some o:=by unfold upd;rw[if_pos rfl]
theorem ay {H:Hp} {a b:Addr} {o:HO} (h:b≠a):upd H a o b=H b:=by unfold upd;rw[if_neg h]
abbrev dskF (e:Addr) (a:V):List (Str×V):=[(("points":Str),a),(("earlier":Str),V.ref e)]
theorem zm {H:Hp} {a b:Addr} {o u:HO} (h:H a=some o) (h':H b=some u) (d:o≠u):a≠b:=by
 intro e;subst e;rw[h] at h';exact d (Hu h')
theorem aT {H:Hp} {a b:Addr} {o:HO} (h:H a=some o) (h':H b=none):a≠b:=by
 intro e;subst e;rw[h] at h';cases h'
def DictOfE {prog:Program} {w:World} {κ:Type} [DecidableEq κ] (knd:KeyKind prog w κ) (h:Heap) (a:Addr) (kvs:List (κ×Value)):Prop :=
 ∃ o es ep,h.get? a=some o/\o.ExactDict/\o.data=.dict es ep/\KeysOf knd es/\Pairs knd es.toList kvs/\(kvs.map (·.1)).Nodup/\ep=es.size
theorem DictOfE.of {prog:Program} {w:World} {κ:Type} [DecidableEq κ] {knd:KeyKind prog w κ} {h:Heap} {a:Addr} {kvs:List (κ×Value)} (x:DictOfE knd h a kvs):h.DictOf knd a kvs:=let #[o,es,ep,h1,h2,h3,c,b,d,_]:=x;#[o,es,ep,h1,h2,h3,c,b,d]
def IsTupD (h:Heap) (a:Addr) (items:Array Value):Prop:=∃ o,h.get? a=some o/\o.cls=.type "tuple"/\∃ n,(o.data,o.dict)=(Data.seq items n,none)
theorem IsTupD.tup {h:Heap} {a:Addr} {items:Array Value} (x:IsTupD h a items):IsTup h a items:=let #[o,e,c,n,d]:=x;#[o,e,c,n,congrArg Prod.fst d]
theorem IsTupD.lt {h:Heap} {a:Addr} {items:Array Value} (x:IsTupD h a items):a < h.objs.size:=x.tup.lt
theorem IsTupD.new (h:Heap) (items:Array Value):IsTupD (h.push { cls:=.type "tuple",data:=.seq items }) h.objs.size items:=#[_,GR h rfl,rfl,_,rfl]
section
variable (P:Program) (w:World)
def ObjOk (H:Hp) (h:Heap) (a:Addr):HO->Prop
 | .lst xs=>xs.length<=sizeLine/\∃ (its:List Value) (n:Nat),Vals xs its/\h.get? a=some { cls:=.type "list",data:=.seq its.toArray n }
 | .tup xs=>xs.length<=sizeLine/\∃ its:List Value,Vals xs its/\IsTupD h a its.toArray
 | .dK kvs=>kvs.length<=sizeLine/\(a == sysModules)=false/\∃ c,KV kvs c/\DictOfE (aG P w) h a c
 | .dT kvs n=>kvs.length<=sizeLine/\(a == sysModules)=false/\∃ xs:List (List Key×Addr×Value),
   Paired (λ(p:List Key×V) (q:List Key×Addr×Value)=>p.1=q.1/\H q.2.1=some (.tup (p.1.map kV))/\RelV p.2 q.2.2) kvs xs /\
   ∃ o es ep,h.get? a=some o/\o.ExactDict/\o.data=.dict es ep/\es.toList=xs.map (entryOfKey (tupleKind (aG P w)))/\(xs.map (·.1)).Nodup/\(es.size:Int)=ep+n
 | .set S n=>h.SetOf (intKind P w) a S n
 | .ins C dx fs=>H dx=some (.own a)/\fs.length<=1000/\dx≠a/\h.get? a=some (PySem.W.instObj C dx) /\
   ∃ b,h.Ns1 dx b/\(∀ f,RelO (fs.lookup f) (b f))/\PySem.Within b (fs.map (·.1))
 | .dsk C dx e vp c=>H dx=some (.own a)/\H e=some (.own a)/\dx≠a/\e≠a/\e≠dx/\h.get? a=some (PySem.W.instObj C dx)/\c.length<=sizeLine /\
   (∃ (its:List Value) (n:Nat),Vals c its/\h.get? e=some { cls:=.type "list",data:=.seq its.toArray n })/\∃ b,h.Ns1 dx b/\(∀ f,RelO ((dskF e vp).lookup f) (b f))/\PySem.Within b ((dskF e vp).map (·.1))
 | .own _=>∃ o,h.get? a=some o
 | .xd fs=>∃ b,h.Ns1 a b/\∀ f,RelO (fs.lookup f) (b f)
 | .rng lo hi=>∃ t u v,h.get? a=some { cls:=.type "range",data:=.fields (List.toArray [.int lo t,.int hi u,.int 1 v]) }
 | .frz o u=>h.get? a=some o/\ObjOk H h a u
 | .tbl ps=>h.get? a=some { cls:=.none,data:=.fields ps }
 | .met f x=>h.get? a=some (PySem.W.methodObj (.ref f) (.ref x))
 | .ext U=>U h/\(∃ o,h.get? a=some o)/\∀ h1 h2:Heap,U h1->(∀ o,h1.get? a=some o->h2.get? a=some o)->U h2
def HOk (H:Hp) (h:Heap):Prop:=∀ a o,H a=some o->ObjOk P w H h a o
end
section
variable {P:Program} {w:World} {H H':Hp} {h h':Heap} {a:Addr} {o:HO}
theorem ObjOk.lt (x:ObjOk P w H h a o):a < h.objs.size:=by
 cases o with
 | lst xs=>obtain ⟨_,_,_,_,e⟩:=x;exact GP e
 | tup xs=>obtain ⟨_,_,_,p⟩:=x;exact p.lt
 | dK kvs=>obtain ⟨_,_,_,_,o,_,_,e,_⟩:=x;exact GP e
 | dT kvs n=>obtain ⟨_,_,_,_,o,_,_,e,_⟩:=x;exact GP e
 | set S n=>obtain ⟨o,_,_,_,e,_⟩:=x;exact GP e
 | ins C dx fs=>obtain ⟨_,_,_,e,_⟩:=x;exact GP e
 | dsk C dx b vp vs=>obtain ⟨_,_,_,_,_,e,_⟩:=x;exact GP e
 | own y=>obtain ⟨_,e⟩:=x;exact GP e
 | xd fs=>obtain ⟨_,⟨_,_,_,e,_⟩,_⟩:=x;exact GP e
 | rng lo hi=>obtain ⟨_,_,_,e⟩:=x;exact GP e
 | frz ob u=>obtain ⟨e,_⟩:=x;exact GP e
 | tbl ps=>exact GP (show h.get? a=some _ from x)
 | met f y=>exact GP (show h.get? a=some _ from x)
 | ext U=>obtain ⟨_,⟨_,e⟩,_⟩:=x;exact GP e
theorem Paired.mapP {α β:Type} {F G:α->β->Prop}:∀ {d:List α} {c:List β},Paired F d c->(∀ a b,F a b->G a b)->Paired G d c
 | _,_,.nil,_=>.nil
 | _,_,.cons r t,f=>.cons (f _ _ r) (Paired.mapP t f)
theorem ObjOk.stay (x:ObjOk P w H h a o) (k:∀ b u,(b=a\/H b=some (.own a))->h.get? b=some u->h'.get? b=some u)
  (l:∀ b,H b=some (.own a)->H' b=some (.own a)) (F:∀ b xs,H b=some (.tup xs)->H' b=some (.tup xs)):ObjOk P w H' h' a o:=by
 induction o with
 | lst xs=>obtain ⟨z,its,n,r,e⟩:=x;exact #[z,its,n,r,k _ _ (.inl rfl) e]
 | tup xs=>obtain ⟨z,its,r,ob,e,c⟩:=x;exact #[z,its,r,ob,k _ _ (.inl rfl) e,c]
 | dK kvs=>obtain ⟨z,y,s,r,ob,es,ep,e,c⟩:=x;exact #[z,y,s,r,ob,es,ep,k _ _ (.inl rfl) e,c]
 | dT kvs n =>
  obtain ⟨z,y,xs,r,ob,es,ep,e,c⟩:=x
  exact #[z,y,xs,Paired.mapP r λp q z=>#[z.1,F _ _ z.2.1,z.2.2],ob,es,ep,k _ _ (.inl rfl) e,c]
 | set S n=>obtain ⟨ob,es,ep,t,e,c⟩:=x;exact #[ob,es,ep,t,k _ _ (.inl rfl) e,c]
 | ins C dx fs =>
  obtain ⟨d,z,ne,e,i,⟨g,es,ep,j,c⟩,r⟩:=x
  exact #[l _ d,z,ne,k _ _ (.inl rfl) e,i,#[g,es,ep,k _ _ (.inr d) j,c],r]
 | dsk C dx b vp s =>
  obtain ⟨d,A,E,B,G,e,z,⟨its,m,D,e1⟩,i,⟨g,es,ep,j,c⟩,r⟩:=x
  exact #[l _ d,l _ A,E,B,G,k _ _ (.inl rfl) e,z,#[its,m,D,k _ _ (.inr A) e1],i,#[g,es,ep,k _ _ (.inr d) j,c],r]
 | own y=>obtain ⟨ob,e⟩:=x;exact #[ob,k _ _ (.inl rfl) e]
 | xd fs=>obtain ⟨i,⟨g,es,ep,e,c⟩,r⟩:=x;exact #[i,#[g,es,ep,k _ _ (.inl rfl) e,c],r]
 | rng lo hi=>obtain ⟨t,u,v,e⟩:=x;exact #[t,u,v,k _ _ (.inl rfl) e]
 | frz ob u ih=>obtain ⟨e,q⟩:=x;exact #[k _ _ (.inl rfl) e,ih q]
 | tbl ps =>
  have e:h.get? a=some { cls:=.none,data:=.fields ps }:=x
  show h'.get? a=some { cls:=.none,data:=.fields ps }
  exact k a _ (.inl rfl) e
 | met f y =>
  have e:h.get? a=some (PySem.W.methodObj (.ref f) (.ref y)):=x
  show h'.get? a=some (PySem.W.methodObj (.ref f) (.ref y))
  exact k a _ (.inl rfl) e
 | ext U=>obtain ⟨p,⟨o,e⟩,st⟩:=x;exact #[st _ _ p λo q=>k _ _ (.inl rfl) q,#[o,k _ _ (.inl rfl) e],st]
theorem HOk.lt (x:HOk P w H h) (e:H a=some o):a < h.objs.size:=(x a o e).lt
theorem HOk.fresh (x:HOk P w H h) (e:h.objs.size<=a):H a=none:=by
 cases q:H a with
 | none=>rfl
 | some u=>exact absurd (G9 (x.lt q) e) (Nat.lt_irrefl _)
theorem HOk.kept (x:HOk P w H h) (k:∀ b u,h.get? b=some u->h'.get? b=some u):HOk P w H h':=λa o e =>
 (x a o e).stay (λb u _ q=>k b u q) (λ_ q=>q) λ_ _ q=>q
theorem HOk.laid (x:HOk P w H h) (k:∀ b u,h.get? b=some u->h'.get? b=some u) (g:h.objs.size<=a) (new:ObjOk P w (upd H a o) h' a o):HOk P w (upd H a o) h':=λb u e=>by
 have f:=x.fresh g
 by_cases d:b=a
 .subst d;rw[aD] at e;cases e;exact new
 .rw[ay d] at e
  exact (x b u e).stay (λc v _ q=>k c v q) (λc q=>by rw[ay (aT q f)];exact q) λc xs q=>by rw[ay (aT q f)];exact q
end
def Rd (H:Hp) (a:Addr) (u:HO):Prop:=H a=some u\/∃ o,H a=some (.frz o u)
theorem Rd.ok {P:Program} {w:World} {H:Hp} {h:Heap} {a:Addr} {u:HO} (r:Rd H a u) (x:HOk P w H h):ObjOk P w H h a u:=by
 rcases r with r | ⟨o,r⟩
 .exact x a u r
 .obtain ⟨_,q⟩:=x a _ r
  exact q
def Mut:Option HO->Prop
 | some (.lst _)=>True
 | some (.dK _)=>True
 | some (.dT _ _)=>True
 | some (.set _ _)=>True
 | some (.ins _ _ _)=>True
 | some (.dsk _ _ _ _ _)=>True
 | some (.ext _)=>True
 | _=>False
section
variable {P:Program} {w:World} {H:Hp} {h h':Heap} {x e:Addr} {o':HO}
theorem HOk.write (ok:HOk P w H h) (i:Mut (H x)) (he:e=x\/H e=some (.own x)) (k:∀ b u,b≠e->h.get? b=some u->h'.get? b=some u) (l:∃ u,h'.get? e=some u)
  (new:ObjOk P w (upd H x o') h' x o'):HOk P w (upd H x o') h':=λb u q=>by
 have d:∀ c y,H c=some (.own y)->c≠x:=λc y r z=>by subst z;rw[r] at i;exact i
 have f:∀ c xs,H c=some (.tup xs)->c≠x:=λc xs r z=>by subst z;rw[r] at i;exact i
 by_cases g:b=x
 .subst g;rw[aD] at q;cases q;exact new
 .rw[ay g] at q
  by_cases a:b=e
  .have m:H b=some (.own x):=by
    rcases he with z | z
    .exact absurd (a.trans z) g
    .rw[a];exact z
   rw[q] at m;cases m
   obtain ⟨v,n⟩:=l
   exact #[v,by rw[a];exact n]
  .refine (ok b u q).stay (λc v j r=>k c v ?_ r) (λc r=>by rw[ay (d c b r)];exact r) λc xs r=>by rw[ay (f c xs r)];exact r
   rcases j with rfl | j
   .exact a
   .rintro rfl
    rcases he with z | z
    .exact d c b j z
    .rw[j] at z;cases z;exact g rfl
end
structure Un (fs ex:List Addr) (H H':Hp) (h h':Heap):Prop where
 keep:∀ b o,h.get? b=some o->H b=none->b ∉ fs->b ∉ ex->h'.get? b=some o
 slot:∀ b o,h.get? b=some o->H b=none->b∈fs->b ∉ ex->∃ sl,h'.get? b=some { o with slots:=sl }
 free:∀ b o,h.get? b=some o->H b=none->b ∉ ex->H' b=none
 there:∀ b o,h.get? b=some o->b ∉ ex->∃ o',h'.get? b=some o'
 tups:∀ b xs,H b=some (.tup xs)->H' b=some (.tup xs)
 frzs:∀ b o u,H b=some (.frz o u)->H' b=some (.frz o u)
 tbls:∀ b ps,H b=some (.tbl ps)->∃ more,H' b=some (.tbl (ps++more))
section
variable {fs fs' ex ex':List Addr} {H H1 H2:Hp} {h h1 h2 h':Heap} {a x e:Addr} {o:HO}
theorem Un.any (u:Un fs ex H H1 h h1) {b:Addr} {ob:Obj} (q:h.get? b=some ob) (n:H b=none) (c:b ∉ ex):∃ sl,h1.get? b=some { ob with slots:=sl }:=by
 by_cases a:b∈fs
 .exact u.slot b ob q n a c
 .exact #[ob.slots,u.keep b ob q n a c]
theorem Un.trans (a:Un fs ex H H1 h h1) (b:Un fs ex H1 H2 h1 h2):Un fs ex H H2 h h2 where
 keep:=λc ob q n e d=>b.keep c ob (a.keep c ob q n e d) (a.free c ob q n d) e d
 slot:=λc ob q n e d=>by
  obtain ⟨sl,e1⟩:=a.slot c ob q n e d
  obtain ⟨f,g⟩:=b.slot c _ e1 (a.free c ob q n d) e d
  exact #[f,g]
 free:=λc ob q n d=>by
  obtain ⟨o',e1⟩:=a.there c ob q d
  exact b.free c o' e1 (a.free c ob q n d) d
 there:=λc ob q d=>by
  obtain ⟨o',e1⟩:=a.there c ob q d
  exact b.there c o' e1 d
 tups:=λc xs q=>b.tups c xs (a.tups c xs q)
 frzs:=λc ob xs q=>b.frzs c ob xs (a.frzs c ob xs q)
 tbls:=λc ps q=>by
  obtain ⟨j,e1⟩:=a.tbls c ps q
  obtain ⟨i,g⟩:=b.tbls c _ e1
  exact #[j++i,by rw[g,Array.append_assoc]]
theorem Un.kept (k:∀ b u,h.get? b=some u->h'.get? b=some u):Un fs ex H H h h' :=
 #[λb ob q _ _ _=>k b ob q,λb ob q _ _ _=>#[ob.slots,k b ob q],λ_ _ _ n _=>n,λb ob q _=>#[ob,k b ob q],λ_ _ q=>q,λ_ _ _ q=>q,λ_ ps q=>#[(List.toArray []),by rw[q];simp]]
theorem Un.refl:Un fs ex H H h h:=Un.kept λ_ _ q=>q
theorem Un.laid (k:∀ b u,h.get? b=some u->h'.get? b=some u) (d:h.objs.size<=a) (c:H a=none):Un fs ex H (upd H a o) h h' where
 keep:=λb u q _ _ _=>k b u q
 slot:=λb u q _ _ _=>#[u.slots,k b u q]
 free:=λb u q n _=>by rw[ay (G4 (G9 (GP q) d))];exact n
 there:=λb u q _=>#[u,k b u q]
 tups:=λb xs q=>by rw[ay (aT q c)];exact q
 frzs:=λb u xs q=>by rw[ay (aT q c)];exact q
 tbls:=λb ps q=>#[(List.toArray []),by rw[ay (aT q c),q];simp]
theorem Un.write (c:Mut (H x)) (he:e=x\/H e=some (.own x)) (k:∀ b u,b≠e->h.get? b=some u->h'.get? b=some u) (d:∃ u,h'.get? e=some u):Un fs ex H (upd H x o) h h':=by
 have g:∀ b,H b=none->b≠x:=λb n z=>by subst z;rw[n] at c;exact c
 have f:∀ b,H b=none->b≠e:=λb n z=>by
  subst z
  rcases he with r | r
  .exact g b n r
  .rw[n] at r;cases r
 have hm:∀ b u,H b=some u->¬ Mut (some u)->b≠x:=λb u q nm z=>by subst z;rw[q] at c;exact nm c
 refine ⟨λb u q n _ _=>k b u (f b n) q,λb u q n _ _=>⟨u.slots,k b u (f b n) q⟩,λb u q n _=>by rw[ay (g b n)];exact n,λb u q _=>?_,
  λb xs q=>by rw[ay (hm b _ q λz=>z)];exact q,λb u xs q=>by rw[ay (hm b _ q λz=>z)];exact q,λb ps q=>⟨(List.toArray []),by rw[ay (hm b _ q λz=>z),q];simp⟩⟩
 by_cases a:b=e
 .subst a;exact d
 .exact #[u,k b u a q]
end
def trk (h:Heap) (H:Hp):List Addr:=(List.range h.objs.size).filter λa=>(H a).isSome
def o5 (h:Heap) (H:Hp):Heap:=PySem.W.hideAll h (trk h H)
theorem wT (h:Heap) (H:Hp):(o5 h H).objs.size=h.objs.size:=PySem.W.hideAll_size _ _
theorem zM {h:Heap} {H:Hp} {b:Addr} {o:Obj} (e:h.get? b=some o) (n:H b=none):(o5 h H).get? b=some o :=
 PySem.W.hideAll_get _ e λhm=>by
  have q:(H b).isSome=true:=(Hj.mp hm).2
  rw[n] at q;simp at q
theorem BZ {h:Heap} {H:Hp} {b:Addr} {o:Obj} (e:(o5 h H).get? b=some o):h.get? b=some o/\H b=none:=by
 have a:h.get? b=some o:=PySem.W.of_hideAll (trk h H) e
 refine #[a,?_]
 cases q:H b with
 | none=>rfl
 | some x =>
  have hm:b∈trk h H:=Hj.mpr #[List.mem_range.mpr (GP a),by simp[q]]
  have z:(o5 h H).get? b=none:=PySem.W.hideAll_none (trk h H) hm
  rw[z] at e;cases e
def CY (g h:Heap) (L:Addr):List (Addr×Obj):=(List.range h.objs.size).filterMap λa=>if a=L\/(g.get? a).isSome=true then none else (h.get? a).map λo=>(a,o)
def dq (g h:Heap) (L d:Addr):List (Addr×Obj):=(CY g h L).filter λp=>decide (p.1≠d)
end L2
namespace L2
open PySem PySem.Spec PyProof.Rows
structure Mod (K:FG) (mg:Str->Option Value) (base:Heap):Prop where
 kin:K.In base
 glob:base.Ns mainGlobals mg
 blt:∃ mb,base.Ns builtinsNs mb/\∀ x:Str,x≠"__name__"->mb x=bootBuiltins x
 nolimit:base.NoLimit
structure Cx where
 prog:Program
 w:World
 K:FG
 mg:Str->Option Value
 base:Heap
 A:Around
 N:List Str
 s₀:Shared
 H₀:Hp
 env:Env
 outer:List Env
 stack:List Env
 ex:List Addr
 fn:Str->Bool
 calm:Bool
 pn:List (Addr×Obj)
 xe:Value->Shared->Prop
def frs (l:List Env):List Addr:=l.filterMap (·.frame)
abbrev Cx.fs (X:Cx):List Addr:=frs X.outer
def Vis (sc:Scope) (x:Str):Prop:=sc.names.lookup x=some .local\/sc.names.lookup x=some .cell\/sc.names.lookup x=some .free
def Loc (sc:Scope) (x:Str):Prop:=sc.names.lookup x=some .local\/sc.names.lookup x=some .cell
def Look (env:Env) (h:Heap) (m:Str->Option Value) (x:Str) (u:Value):Prop :=
 (env.kindOf x=some .local/\m x=some u)\/((env.kindOf x=some .cell\/env.kindOf x=some .free)/\∃ c,env.cells.lookup x=some c/\h.IsCell c (some u))
structure Cx.Ok (X:Cx):Prop where
 mod:Mod X.K X.mg X.base
 kind:X.env.scope.kind=.function
 glob:X.env.globals=mainGlobals
 blt:X.env.builtins=builtinsNs
 above:X.s₀.heap.objs.size<=X.env.locals
 inj:∀ x y c,X.env.cells.lookup x=some c->X.env.cells.lookup y=some c->x=y
 has:∀ x,(X.env.kindOf x=some .cell\/X.env.kindOf x=some .free)->∃ c,X.env.cells.lookup x=some c
 cab:∀ x c,X.fn x=true->X.env.cells.lookup x=some c->X.s₀.heap.objs.size<=c
 hd:X.calm=true->X.A.handled=none
 frames:X.A.frames=some X.stack
 stk:X.stack=X.outer\/(X.stack=X.env::X.outer/\X.env.frame=some X.env.locals)
 exf:∀ b∈X.ex,b≠X.env.locals/\∀ x c,X.env.cells.lookup x=some c->c≠b
 bs:∀ b o,X.base.get? b=some o->X.s₀.heap.get? b=some o/\X.H₀ b=none
 bsz:X.base.objs.size<=X.s₀.heap.objs.size
 noex:∀ b o,X.base.get? b=some o->b ∉ X.ex
 exfs:∀ b∈X.ex,b ∉ X.fs
 funs:X.s₀.heap.FunFrames X.base X.outer
 frf:∀ b∈X.fs,X.H₀ b=none
structure Inv (X:Cx) (pins:List (Addr×Obj)) (Y:List (Option V)) (H:Hp) (s:Shared):Prop where
 ok:X.Ok
 os:s.os=X.s₀.os
 bare:AllBare s.gens
 base:Un X.fs X.ex X.H₀ H X.s₀.heap s.heap
 loc:∃ m,s.heap.Ns X.env.locals m/\∀ (i:Nat) (x:Str) (v:V),X.N[i]?=some x->Y[i]?=some (some v)->Vis X.env.scope x->∃ u,RelV v u/\Look X.env s.heap m x u
 cell:∀ x c,X.env.cells.lookup x=some c->∃ v,s.heap.IsCell c v
 free:H X.env.locals=none
 freeC:∀ x c,X.env.cells.lookup x=some c->H c=none
 pin:∀ p∈X.pn++pins,s.heap.get? p.1=some p.2/\H p.1=none/\p.1≠X.env.locals/\p.1 ∉ X.fs/\∀ v,p.2.data≠.cell v
 hok:HOk X.prog X.w H s.heap
 len:Y.length=X.N.length
section
variable {X:Cx} {pins:List (Addr×Obj)} {Y:List (Option V)} {H H':Hp} {s:Shared} {h':Heap}
theorem Cx.Ok.nofr (ok:X.Ok) {b:Addr} {o:Obj} (e:X.base.get? b=some o):b ∉ X.fs:=λa=>by
 have:=(ok.funs.mem a).1
 rw[e] at this;cases this
theorem Inv.bs (I:Inv X pins Y H s):∀ b o,X.base.get? b=some o->s.heap.get? b=some o/\H b=none:=λb o e =>
 #[I.base.keep b o (I.ok.bs b o e).1 (I.ok.bs b o e).2 (I.ok.nofr e) (I.ok.noex b o e),I.base.free b o (I.ok.bs b o e).1 (I.ok.bs b o e).2 (I.ok.noex b o e)]
theorem Inv.bk (I:Inv X pins Y H s):∀ b o,X.base.get? b=some o->s.heap.get? b=some o:=λb o e=>(I.bs b o e).1
theorem Inv.mod (I:Inv X pins Y H s):Mod X.K X.mg X.base:=I.ok.mod
theorem Inv.kIn (I:Inv X pins Y H s):X.K.In s.heap:=I.ok.mod.kin.keeps I.bk
theorem Inv.lt (I:Inv X pins Y H s):X.env.locals < s.heap.objs.size:=let #[_,a,_]:=I.loc;a.lt
theorem Inv.sz (I:Inv X pins Y H s):X.s₀.heap.objs.size<=s.heap.objs.size:=Ho I.ok.above (Nat.le_of_lt I.lt)
theorem Inv.nofs (I:Inv X pins Y H s) {a:Addr} (h:s.heap.objs.size<=a):a ∉ X.fs:=λc=>by
 obtain ⟨_,o,b,_⟩:=I.ok.funs.mem c
 exact absurd (G9 (GP b) (Ho I.sz h)) (Nat.lt_irrefl _)
theorem Inv.cne (I:Inv X pins Y H s):∀ x c,X.env.cells.lookup x=some c->c≠X.env.locals:=λx c e z=>by
 obtain ⟨v,o,d,hd⟩:=I.cell x c e
 obtain ⟨m,⟨o',es,ep,b,a,_⟩,_⟩:=I.loc
 rw[z,b] at d;cases d;rw[a] at hd;cases hd
theorem Inv.funs (I:Inv X pins Y H s):s.heap.FunFrames X.base X.outer:=by
 have all:∀ (l:List Env),(∀ b∈frs l,b∈X.fs)->X.s₀.heap.FunFrames X.base l->s.heap.FunFrames X.base l:=by
  intro l
  induction l with
  | nil=>intro _ _;trivial
  | cons env r ih =>
   intro d i
   obtain ⟨g,⟨L,o,hf,h,j,hd⟩,f⟩:=i
   have c:L∈X.fs:=d L (by unfold frs;rw[List.filterMap_cons,hf];exact GG)
   obtain ⟨sl,e⟩:=I.base.slot L o j (I.ok.frf L c) c λz=>I.ok.exfs L z c
   exact #[g,#[L,_,hf,h,e,hd],ih (λb a=>d b (by unfold frs;rw[List.filterMap_cons,hf];exact GH _ a)) f]
 exact all X.outer (λ_ a=>a) I.ok.funs
theorem Inv.stack (I:Inv X pins Y H s):s.heap.FunFrames X.base X.stack:=by
 rcases I.ok.stk with e | ⟨e,hf⟩
 .rw[e];exact I.funs
 .rw[e]
  obtain ⟨m,a,_⟩:=I.loc
  refine .cons (by rw[I.ok.kind];decide) hf a ?_ I.funs
  exact Heap.get?_none_of_le (Ho I.ok.bsz I.ok.above)
theorem Inv.stkSub (I:Inv X pins Y H s):∀ b∈frs X.stack,b∈X.env.locals::X.fs:=λb a=>by
 rcases I.ok.stk with e | ⟨e,hf⟩
 .rw[e] at a;exact GH _ a
 .rw[e] at a
  unfold frs at a
  rw[List.filterMap_cons,hf] at a
  exact a
theorem Inv.stkFree (I:Inv X pins Y H s):∀ b∈frs X.stack,H b=none:=λb a=>by
 rcases GN.mp (I.stkSub b a) with e | a
 .rw[e];exact I.free
 .obtain ⟨_,o,c,_⟩:=I.ok.funs.mem a
  exact I.base.free b o c (I.ok.frf b a) λz=>I.ok.exfs b z a
theorem Inv.step {g':Array GenState} {t':Nat} {d':Drawn} {ch:List Addr} (I:Inv X pins Y H s)
  (f:∀ b∈ch,(b∈X.ex\/X.s₀.heap.objs.size<=b)/\b≠X.env.locals/\(∀ x c,X.env.cells.lookup x=some c->c≠b)/\∀ p∈X.pn++pins,p.1≠b)
  (keep:∀ b o,b≠X.env.locals->b ∉ X.fs->b ∉ ch->s.heap.get? b=some o->H b=none->h'.get? b=some o)
  (slot:∀ b o,b≠X.env.locals->b∈X.fs->b ∉ ch->s.heap.get? b=some o->H b=none->∃ sl,h'.get? b=some { o with slots:=sl }) (free:∀ b o,b ∉ ch->s.heap.get? b=some o->H b=none->H' b=none)
  (there:∀ b o,b ∉ ch->s.heap.get? b=some o->∃ o',h'.get? b=some o')
  (tups:∀ b xs,H b=some (.tup xs)->H' b=some (.tup xs)) (frzs:∀ b o u,H b=some (.frz o u)->H' b=some (.frz o u)) (tbls:∀ b ps,H b=some (.tbl ps)->∃ more,H' b=some (.tbl (ps++more)))
  (ns:∀ m,s.heap.Ns X.env.locals m->h'.Ns X.env.locals m) (hok:HOk X.prog X.w H' h') (L:AllBare g') :
  Inv X pins Y H' { s with heap:=h',gens:=g',drawn:=d',toks:=t' }:=by
 have A:∀ b o,X.s₀.heap.get? b=some o->b≠X.env.locals:=λb o e=>G4 (G9 (GP e) I.ok.above)
 have h:∀ b o,X.s₀.heap.get? b=some o->b ∉ X.ex->b ∉ ch:=λb o e a j=>by
  rcases (f b j).1 with z | z
  .exact a z
  .exact absurd (G9 (GP e) z) (Nat.lt_irrefl _)
 have cellK:∀ x c,X.env.cells.lookup x=some c->∀ v,s.heap.IsCell c v->h'.IsCell c v:=λx c e v #[o,t,hd]=>by
  have g:c ∉ ch:=λz=>(f c z).2.2.1 x c e rfl
  by_cases C:c∈X.fs
  .obtain ⟨sl,q⟩:=slot c o (I.cne x c e) C g t (I.freeC x c e)
   exact #[_,q,hd]
  .exact #[o,keep c o (I.cne x c e) C g t (I.freeC x c e),hd]
 refine #[I.ok,I.os,L,#[λb o e n j a=>?_,λb o e n j a=>?_,λb o e n a=>?_,λb o e a=>?_,λb xs e=>tups b xs (I.base.tups b xs e),λb o xs e=>frzs b o xs (I.base.frzs b o xs e),λb ps e=>?_],?_,λx c e=>?_,?_,λx c e=>?_,λp E=>?_,hok,I.len]
 .exact keep b o (A b o e) j (h b o e a) (I.base.keep b o e n j a) (I.base.free b o e n a)
 .obtain ⟨sl,e1⟩:=I.base.slot b o e n j a
  obtain ⟨B,y⟩:=slot b _ (A b o e) j (h b o e a) e1 (I.base.free b o e n a)
  exact #[B,y]
 .obtain ⟨o',e1⟩:=I.base.there b o e a
  exact free b o' (h b o e a) e1 (I.base.free b o e n a)
 .obtain ⟨o',e1⟩:=I.base.there b o e a
  exact there b o' (h b o e a) e1
 .obtain ⟨M,e1⟩:=I.base.tbls b ps e
  obtain ⟨J,y⟩:=tbls b _ e1
  exact #[M++J,by rw[y,Array.append_assoc]]
 .obtain ⟨m,G,K⟩:=I.loc
  refine #[m,ns m G,λi x v e1 y F=>?_]
  obtain ⟨u,r,l⟩:=K i x v e1 y F
  refine #[u,r,?_]
  rcases l with l | ⟨k,c,e,z⟩
  .exact .inl l
  .exact .inr #[k,c,e,cellK x c e _ z]
 .obtain ⟨v,z⟩:=I.cell x c e
  exact #[v,cellK x c e v z]
 .obtain ⟨m,⟨o,_,_,t,_⟩,_⟩:=I.loc
  exact free _ o (λz=>(f _ z).2.1 rfl) t I.free
 .obtain ⟨v,o,t,hd⟩:=I.cell x c e
  exact free c o (λz=>(f c z).2.2.1 x c e rfl) t (I.freeC x c e)
 .obtain ⟨e,n,ne,D,d⟩:=I.pin p E
  have g:p.1 ∉ ch:=λz=>(f p.1 z).2.2.2 p E rfl
  exact #[keep p.1 p.2 ne D g e n,free p.1 p.2 g e n,ne,D,d]
theorem Inv.un {t':Nat} (I:Inv X pins Y H s) (u:Un X.fs [] H H' s.heap h') (hok:HOk X.prog X.w H' h'):Inv X pins Y H' { s with heap:=h',toks:=t' }:=by
 obtain ⟨m,⟨o,es,ep,g,r⟩,_⟩:=id I.loc
 obtain ⟨sl,i⟩:=u.any g I.free (by simp)
 exact I.step (g':=s.gens) (d':=s.drawn) (ch:=[]) (λ_ z=>nomatch z) (λb o _ d _ e n=>u.keep b o e n d (by simp)) (λb o _ d _ e n=>u.slot b o e n d (by simp)) (λb o _ e n=>u.free b o e n (by simp)) (λb o _ e=>u.there b o e (by simp)) u.tups u.frzs u.tbls (λj hm=>by
  obtain ⟨o',c,f,a,h⟩:=hm
  rw[g] at a;cases a
  exact #[_,c,f,i,h]) hok I.bare
theorem Inv.call {g':Array GenState} {t':Nat} {d':Drawn} {ch:List Addr} (I:Inv X pins Y H s) (u:Un (frs X.stack) ch H H' s.heap h') (hok:HOk X.prog X.w H' h') (q:AllBare g')
  (d:∀ b∈ch,(b∈X.ex\/X.s₀.heap.objs.size<=b)/\b≠X.env.locals/\(∀ x c,X.env.cells.lookup x=some c->c≠b)/\∀ p∈X.pn++pins,p.1≠b) :
  Inv X pins Y H' { s with heap:=h',gens:=g',drawn:=d',toks:=t' }:=by
 obtain ⟨m,⟨o,es,ep,j,r⟩,_⟩:=id I.loc
 obtain ⟨sl,i⟩:=u.any j I.free λz=>(d _ z).2.1 rfl
 exact I.step (ch:=ch) d (λb o i k a e n=>u.keep b o e n (λz=>(GN.mp (I.stkSub b z)).elim i k) a) (λb o _ _ a e n=>u.any e n a) (λb o a e n=>u.free b o e n a) (λb o a e=>u.there b o e a) u.tups u.frzs u.tbls (λt hm=>by
  obtain ⟨o',g,h,f,l⟩:=hm
  rw[j] at f;cases f
  exact #[_,g,h,i,l]) hok q
theorem Inv.turned {t':Nat} {it:Addr} (I:Inv X pins Y H s) (k:∀ b o,b≠it->s.heap.get? b=some o->h'.get? b=some o) (h:H it=none) (f:it≠X.env.locals)
  (h1:it∈X.ex\/X.s₀.heap.objs.size<=it) (h2:∀ x c,X.env.cells.lookup x=some c->c≠it) (h3:∀ p∈X.pn++pins,p.1≠it):Inv X pins Y H { s with heap:=h',toks:=t' }:=by
 have d:∀ b u,H b=some u->b≠it:=λb u e z=>by rw[z,h] at e;cases e
 refine I.step (g':=s.gens) (d':=s.drawn) (ch:=[it]) (λb g=>?_) (λb o _ _ a e _=>k b o (λz=>a (by simp[z])) e) (λb o _ _ a e _=>#[o.slots,k b o (λz=>a (by simp[z])) e]) (λ_ _ _ _ n=>n)
  (λb o a e=>#[o,k b o (λz=>a (by simp[z])) e]) (λ_ _ e=>e) (λ_ _ _ e=>e) (λb ps e=>#[(List.toArray []),by rw[e];simp]) (λm hm=>?_) (λb u e=>?_) I.bare
 .have e:b=it:=by simpa using g
  subst e
  exact #[h1,f,h2,h3]
 .obtain ⟨o,es,ep,i,r⟩:=hm
  exact #[o,es,ep,k _ o (Ne.symm f) i,r]
 .refine (I.hok b u e).stay (λc v a q=>k c v ?_ q) (λ_ q=>q) λ_ _ q=>q
  rcases a with z | z
  .rw[z];exact d b u e
  .exact d c _ z
theorem Inv.tok (I:Inv X pins Y H s) (t:Nat):Inv X pins Y H { s with toks:=t }:=I.un (h':=s.heap) (t':=t) Un.refl I.hok
theorem Inv.kept {t':Nat} (I:Inv X pins Y H s) (k:∀ b u,s.heap.get? b=some u->h'.get? b=some u):Inv X pins Y H { s with heap:=h',toks:=t' }:=I.un (Un.kept k) (I.hok.kept k)
theorem Inv.laid {a:Addr} {o:HO} {t':Nat} (I:Inv X pins Y H s) (k:∀ b u,s.heap.get? b=some u->h'.get? b=some u) (c:s.heap.objs.size<=a) (new:ObjOk X.prog X.w (upd H a o) h' a o) :
  Inv X pins Y (upd H a o) { s with heap:=h',toks:=t' }:=I.un (Un.laid k c (I.hok.fresh c)) (I.hok.laid k c new)
theorem Inv.write {x e:Addr} {o:HO} {t':Nat} (I:Inv X pins Y H s) (c:Mut (H x)) (he:e=x\/H e=some (.own x)) (k:∀ b u,b≠e->s.heap.get? b=some u->h'.get? b=some u) (a:∃ u,h'.get? e=some u)
  (new:ObjOk X.prog X.w (upd H x o) h' x o):Inv X pins Y (upd H x o) { s with heap:=h',toks:=t' }:=I.un (Un.write c he k a) (I.hok.write c he k a new)
theorem Inv.pins_of {pins':List (Addr×Obj)} (I:Inv X pins Y H s) (h:∀ p∈pins',s.heap.get? p.1=some p.2/\H p.1=none/\p.1≠X.env.locals/\p.1 ∉ X.fs/\∀ v,p.2.data≠.cell v):Inv X pins' Y H s :=
 #[I.ok,I.os,I.bare,I.base,I.loc,I.cell,I.free,I.freeC,λp a=>(GQ.mp a).elim (λz=>I.pin p (GK _ z)) (h p),I.hok,I.len]
theorem ql {N:List Str} (c:N.Nodup) {i j:Nat} {x:Str} (a:N[i]?=some x) (b:N[j]?=some x):i=j:=by
 obtain ⟨h1,e1⟩:=GU.mp a
 obtain ⟨h2,d⟩:=GU.mp b
 exact (List.getElem_inj c).mp (e1.trans d.symm)
theorem m8 {M:Model} {A:Around} {E:Value->Shared->Prop} {i:Nat} {x:Str} {v:V} {u:Value} {Q:Unit->Shared->Prop} (I:Inv X pins Y H s) (hN:X.N.Nodup) (hi:X.N[i]?=some x) (t:Loc X.env.scope x) (r:RelV v u)
  (h:∀ s',Inv X pins (Y.set i (some v)) H s'->(∃ a,Heap.SameBut a s.heap s'.heap/\(a=X.env.locals\/X.env.cells.lookup x=some a))->Q () s') (hf:X.fn x=true\/X.env.scope.names.lookup x=some .local:=by first | exact .inl rfl | exact .inr rfl | assumption):wpAny M A (storeName X.env x u) Q E s:=by
 obtain ⟨m,W,hl⟩:=id I.loc
 have O:(X.env.scope.kind == .class || (X.env.scope.kind == .module && X.env.locals != X.env.globals))=false:=by rw[I.ok.kind];rfl
 have hiσ:i < Y.length:=by rw[I.len];exact (GU.mp hi).1
 have cne:=I.cne
 have g:∀ {a:Addr} {h':Heap},(∃ o,s.heap.get? a=some o/\H a=none)->Heap.SameBut a s.heap h'->HOk X.prog X.w H h':=λ{a h'} ha f b ob e=>by
  obtain ⟨_,_,B⟩:=ha
  refine (I.hok b ob e).stay (λc S l q=>(f.2 c ?_).trans q) (λ_ q=>q) λ_ _ q=>q
  rintro rfl
  rcases l with rfl | l
  .rw[B] at e;cases e
  .rw[B] at l;cases l
 rcases t with D | D
 .refine wpAny_storeName_local D W (λh' ab f=>?_) O
  obtain ⟨oL,_,_,σ,_⟩:=id W
  refine h _ #[I.ok,I.os,I.bare,#[λb o e n G t=>?_,λb o e n G t=>?_,I.base.free,λb o e t=>?_,I.base.tups,I.base.frzs,I.base.tbls],#[_,ab,λj y φ e1 C e3=>?_],λy c e=>?_,I.free,I.freeC,λp hp=>?_,g #[oL,σ,I.free] f,by simpa using I.len] #[_,f,.inl rfl]
  .exact (f.2 b (G4 (G9 (GP e) I.ok.above))).trans (I.base.keep b o e n G t)
  .obtain ⟨sl,e1⟩:=I.base.slot b o e n G t
   exact #[sl,(f.2 b (G4 (G9 (GP e) I.ok.above))).trans e1]
  .obtain ⟨o',e1⟩:=I.base.there b o e t
   exact #[o',(f.2 b (G4 (G9 (GP e) I.ok.above))).trans e1]
  .by_cases F:j=i
   .subst F
    rw[hi] at e1;cases e1
    rw[List.getElem?_set_self hiσ] at C
    cases C
    exact #[u,r,.inl #[D,by simp]]
   .rw[List.getElem?_set_ne (Ne.symm F)] at C
    obtain ⟨u',r',q⟩:=hl j y φ e1 C e3
    refine #[u',r',?_]
    rcases q with ⟨k,e⟩ | ⟨k,c,e,z⟩
    .refine .inl #[k,?_]
     have:y≠x:=λe=>F (ql hN e1 (e ▸ hi))
     simp[this,e]
    .exact .inr #[k,c,e,z.sameBut f (cne y c e)]
  .obtain ⟨S,z⟩:=I.cell y c e
   exact #[S,z.sameBut f (cne y c e)]
  .obtain ⟨e,n,ne,ρ,d⟩:=I.pin p hp
   exact #[(f.2 p.1 ne).trans e,n,ne,ρ,d]
 .have J:X.fn x=true:=by
   rcases hf with z | z
   .exact z
   .rw[z] at D;cases D
  obtain ⟨c,l⟩:=I.ok.has x (.inl D)
  obtain ⟨S,z⟩:=I.cell x c l
  refine wpAny_storeName_cell I.ok.kind D l z (λh' R f=>?_)
  obtain ⟨oc,P,K⟩:=id z
  refine h { s with heap:=h' } #[I.ok,I.os,I.bare,#[λb o e n G t=>?_,λb o e n G t=>?_,I.base.free,λb o e t=>?_,I.base.tups,I.base.frzs,I.base.tbls],#[m,W.sameBut f (Ne.symm (cne x c l)),λj y φ e1 C e3=>?_],λy T e=>?_,I.free,I.freeC,λp hp=>?_,g #[oc,P,I.freeC x c l] f,by simpa using I.len] #[c,f,.inr l]
  .exact (f.2 b (G4 (G9 (GP e) (I.ok.cab x c J l)))).trans (I.base.keep b o e n G t)
  .obtain ⟨sl,e1⟩:=I.base.slot b o e n G t
   exact #[sl,(f.2 b (G4 (G9 (GP e) (I.ok.cab x c J l)))).trans e1]
  .obtain ⟨o',e1⟩:=I.base.there b o e t
   exact #[o',(f.2 b (G4 (G9 (GP e) (I.ok.cab x c J l)))).trans e1]
  .by_cases F:j=i
   .subst F
    rw[hi] at e1;cases e1
    rw[List.getElem?_set_self hiσ] at C
    cases C
    exact #[u,r,.inr #[.inl D,c,l,R]]
   .rw[List.getElem?_set_ne (Ne.symm F)] at C
    obtain ⟨u',r',q⟩:=hl j y φ e1 C e3
    refine #[u',r',?_]
    rcases q with q | ⟨k,T,e,z'⟩
    .exact .inl q
    .refine .inr #[k,T,e,z'.sameBut f ?_]
     rintro rfl
     exact F (ql hN e1 (I.ok.inj _ _ _ e l ▸ hi))
  .by_cases L:T=c
   .subst L;exact #[_,R]
   .obtain ⟨w2,z2⟩:=I.cell y T e
    exact #[w2,z2.sameBut f L]
  .obtain ⟨e,n,ne,ρ,d⟩:=I.pin p hp
   refine #[(f.2 p.1 ?_).trans e,n,ne,ρ,d]
   intro q
   rw[q,P] at e
   have q':oc=p.2:=Hu e
   exact d S (by rw[<- q'];exact K)
theorem pO {M:Model} {A:Around} {E:Value->Shared->Prop} {i:Nat} {x:Str} {v:V} {u:Value} {Q:Unit->Shared->Prop} (I:Inv X pins Y H s) (c:X.N.Nodup) (hi:X.N[i]?=some x) (a:Loc X.env.scope x) (r:RelV v u)
  (h:∀ s',Inv X pins (Y.set i (some v)) H s'->Q () s') (hf:X.fn x=true\/X.env.scope.names.lookup x=some .local:=by first | exact .inl rfl | exact .inr rfl | assumption):wpAny M A (storeName X.env x u) Q E s :=
 m8 I c hi a r (λs' b _=>h s' b) hf
theorem Inv.call' {s':Shared} {ch:List Addr} (I:Inv X pins Y H s) (f:s'.os=s.os) (u:Un (frs X.stack) ch H H' s.heap s'.heap) (hok:HOk X.prog X.w H' s'.heap) (d:AllBare s'.gens)
  (a:∀ b∈ch,(b∈X.ex\/X.s₀.heap.objs.size<=b)/\b≠X.env.locals/\(∀ x c,X.env.cells.lookup x=some c->c≠b)/\∀ p∈X.pn++pins,p.1≠b):Inv X pins Y H' s':=by
 obtain ⟨h',g',d',t',o'⟩:=s'
 have e:o'=s.os:=f
 subst e
 exact I.call (g':=g') (t':=t') (d':=d') u hok d a
end
abbrev XK:=Value->Option Addr->Hp->Prop
abbrev St:=List (Option V)
abbrev VK:=V->Hp->Prop
abbrev TE:=St->Hp->VK->Prop
abbrev TT:=St->Hp->(Bool->Hp->Prop)->Prop
abbrev TA:=St->Hp->(List V->Hp->Prop)->Prop
structure Ends where
 nx:St->Hp->Prop
 rt:VK
 bk:St->Hp->Prop:=λ_ _=>False
 ct:St->Hp->Prop:=λ_ _=>False
abbrev TS:=Ends->St->Hp->Prop
def EP (X:Cx) (pins:List (Addr×Obj)) (Y:St) (Q:VK) (u:Value) (s':Shared):Prop:=∃ v H',Inv X pins Y H' s'/\RelV v u/\Q v H'
def TP (X:Cx) (pins:List (Addr×Obj)) (Y:St) (Q:Bool->Hp->Prop) (b:Bool) (s':Shared):Prop:=∃ H',Inv X pins Y H' s'/\Q b H'
def AP (X:Cx) (pins:List (Addr×Obj)) (Y:St) (Q:List V->Hp->Prop) (us:List Value) (s':Shared):Prop:=∃ a H',Inv X pins Y H' s'/\Vals a us/\Q a H'
set_option tactic.hygienic true in
def SP (X:Cx) (pins:List (Addr×Obj)) (D:Ends) (f:Flow) (s':Shared):Prop :=
 match f with
 | .next=>∃ Y' H',Inv X pins Y' H' s'/\D.nx Y' H'
 | .brk=>∃ Y' H',Inv X pins Y' H' s'/\D.bk Y' H'
 | .cont=>∃ Y' H',Inv X pins Y' H' s'/\D.ct Y' H'
 | .ret u=>∃ v Y' H',Inv X pins Y' H' s'/\RelV v u/\D.rt v H'
def PE (X:Cx) (e:Expr) (t:TE):Prop :=
 ∀ (pins:List (Addr×Obj)) (s:Shared) (Y:St) (H:Hp) (Q:VK),Inv X pins Y H s->t Y H Q->wpAny (model X.prog X.w) X.A (eval e X.env) (EP X pins Y Q) X.xe s
def PT (X:Cx) (e:Expr) (t:TT):Prop :=
 ∀ (pins:List (Addr×Obj)) (s:Shared) (Y:St) (H:Hp) (Q:Bool->Hp->Prop),Inv X pins Y H s->t Y H Q->wpAny (model X.prog X.w) X.A (isTrue e X.env (eval e X.env)) (TP X pins Y Q) X.xe s
def PW (X:Cx) (e:Expr) (t:TT):Prop :=
 ∀ (whole:Sem Value) (pins:List (Addr×Obj)) (s:Shared) (Y:St) (H:Hp) (Q:Bool->Hp->Prop),Inv X pins Y H s->t Y H Q->wpAny (model X.prog X.w) X.A (isTrue e X.env whole) (TP X pins Y Q) X.xe s
theorem PW.pt {X:Cx} {e:Expr} {t:TT} (h:PW X e t):PT X e t:=h _
def PA (X:Cx) (es:List Expr) (t:TA):Prop :=
 ∀ (pos:Pos) (pins:List (Addr×Obj)) (s:Shared) (Y:St) (H:Hp) (Q:List V->Hp->Prop),Inv X pins Y H s->t Y H Q->wpAny (model X.prog X.w) X.A (spliced (backTo pos (starEach es X.env))) (AP X pins Y Q) X.xe s
def PS (X:Cx) (st:Stmt) (t:TS):Prop :=
 ∀ (pins:List (Addr×Obj)) (s:Shared) (Y:St) (H:Hp) (D:Ends),Inv X pins Y H s->t D Y H->wpAny (model X.prog X.w) X.A (exec st X.env) (SP X pins D) X.xe s
def PSs (X:Cx) (st:List Stmt) (t:TS):Prop :=
 ∀ (pins:List (Addr×Obj)) (s:Shared) (Y:St) (H:Hp) (D:Ends),Inv X pins Y H s->t D Y H->wpAny (model X.prog X.w) X.A (execs st X.env) (SP X pins D) X.xe s
theorem thn {α:Type} {t:Sem α} {Q b:α->Shared->Prop} {M:Model} {A:Around} {E:Value->Shared->Prop} {s:Shared} (h:wpAny M A t Q E s) (c:∀ a s,Q a s->b a s):wpAny M A t b E s:=wpAny_mono h c λ_ _ x=>x
end L2
namespace L2
open PySem PySem.Spec PyProof.Rows
section
variable {X:Cx}
theorem bin {a b:Expr} {ta tb:TE} (e:PE X a ta) (i:PE X b tb) {pins:List (Addr×Obj)} {s:Shared} {Y:St} {H:Hp} {R:V->V->Hp->Prop} (I:Inv X pins Y H s) (h:ta Y H λx H1=>tb Y H1 λy H2=>R x y H2)
  {α:Type} {Q:α->Shared->Prop} {f:Value->Value->Sem α}
  (hf:∀ v u s2 x y H2,Inv X pins Y H2 s2->RelV x v->RelV y u->R x y H2->wpAny (model X.prog X.w) X.A (f v u) Q X.xe s2) :
  wpAny (model X.prog X.w) X.A (eval a X.env) (λv D=>wpAny (model X.prog X.w) X.A (eval b X.env) (λu F=>wpAny (model X.prog X.w) X.A (f v u) Q X.xe F) X.xe D) X.xe s:=by
 refine thn (e pins s Y H _ I h) λv s1 #[x,H1,l,k,g]=>?_
 refine thn (i pins s1 Y H1 _ l g) λu s2 #[y,H2,j,d,c]=>?_
 exact hf v u s2 x y H2 j k d c
def vR (i:Nat):TE:=λY H Q=>∃ v,Y[i]?=some (some v)/\Q v H
def tC (v:V):TE:=λ_ H Q=>Q v H
theorem lV {i:Nat} {x:Str} {pos:Pos} (k:X.N[i]?=some x) (n:Vis X.env.scope x) (hd:(x == ("__debug__":Str))=false:=by decide) (d:(x == ("__classdict__":Str))=false:=by decide):PE X (.Name x pos) (vR i):=by
 intro pins s Y H Q I h
 obtain ⟨v,e,h⟩:=h
 obtain ⟨m,g,j⟩:=I.loc
 obtain ⟨u,r,l⟩:=j i x v k e n
 have fin:EP X pins Y Q u s:=#[v,H,I,r,h]
 rcases l with ⟨b,hm⟩ | ⟨b,c,f,a⟩
 .exact wpAny_Name (wpAny_loadName_local I.ok.kind b g hm fin) hd
 .rcases b with b | b
  .exact wpAny_Name (wpAny_loadName_cell I.ok.kind b f a fin) hd
  .exact wpAny_Name (wpAny_loadName_free I.ok.kind b f a fin d) hd
theorem oJ {i j pos}:PE X (.Constant (.int i) j pos) (tC (.int i)):=λ_ _ _ H _ I h=>wpAny_Constant_int #[.int i,H,I.tok _,#[_,rfl],h]
theorem pe_bl {b j pos}:PE X (.Constant (.bool b) j pos) (tC (.bl b)):=λ_ _ _ H _ I h=>Constant_bool #[.bl b,H,I,rfl,h]
theorem E8 {j pos}:PE X (.Constant .none j pos) (tC .non):=λ_ _ _ H _ I h=>Constant_none #[.non,H,I,rfl,h]
theorem yZ {x j pos}:PE X (.Constant (.str x) j pos) (tC (.str x)):=λ_ _ _ H _ I h=>Calls.Constant_str #[.str x,H,I.tok _,#[_,rfl],h]
def Gl (X:Cx) (x:Str):Prop:=X.env.kindOf x=some .globalImplicit
theorem u7 {E:Value->Shared->Prop} {pins:List (Addr×Obj)} {s:Shared} {Y:St} {H:Hp} {x:Str} {u:Value} {pos:Pos} {Q:Value->Shared->Prop} (I:Inv X pins Y H s) (a:Gl X x) (hm:X.mg x=some u) (h:Q u s)
  (hd:(x == ("__debug__":Str))=false:=by decide):wpAny (model X.prog X.w) X.A (eval (.Name x pos) X.env) Q E s :=
 Calls.Name_function_global I.ok.kind a (Calls.loadGlobal_global (by rw[I.ok.glob];exact I.mod.glob.keeps I.bk) hm h) hd
theorem j9 {E:Value->Shared->Prop} {pins:List (Addr×Obj)} {s:Shared} {Y:St} {H:Hp} {x:Str} {u:Value} {pos:Pos} {Q:Value->Shared->Prop} (I:Inv X pins Y H s) (b:Gl X x) (hm:X.mg x=none) (c:bootBuiltins x=some u) (h:Q u s)
  (a:x≠"__name__":=by decide) (hd:(x == ("__debug__":Str))=false:=by decide):wpAny (model X.prog X.w) X.A (eval (.Name x pos) X.env) Q E s:=by
 obtain ⟨mb,h1,h2⟩:=I.mod.blt
 exact Calls.Name_function_global I.ok.kind b (Calls.loadGlobal_builtin (by rw[I.ok.glob];exact I.mod.glob.keeps I.bk) hm (by rw[I.ok.blt];exact h1.keeps I.bk) ((h2 x a).trans c) h) hd
theorem BO {x:Str} {v:V} {u:Value} {pos:Pos} (a:Gl X x) (hm:X.mg x=some u) (r:RelV v u) (hd:(x == ("__debug__":Str))=false:=by decide):PE X (.Name x pos) (tC v) :=
 λ_ _ _ H _ I h=>u7 I a hm #[v,H,I,r,h] hd
theorem ld {x:Str} {v:V} {u:Value} {pos:Pos} (b:Gl X x) (hm:X.mg x=none) (c:bootBuiltins x=some u) (r:RelV v u) (a:x≠"__name__":=by decide) (hd:(x == ("__debug__":Str))=false:=by decide):PE X (.Name x pos) (tC v) :=
 λ_ _ _ H _ I h=>j9 I b hm c #[v,H,I,r,h] a hd
variable {a b:Expr} {ta tb:TE} {pos:Pos}
def PC (X:Cx) (op:CmpOp) (a b:Expr) (t:TE):Prop :=
 ∀ (pins:List (Addr×Obj)) (s:Shared) (Y:St) (H:Hp) (Q:VK),Inv X pins Y H s->t Y H Q ->
  wpAny (model X.prog X.w) X.A (eval a X.env) (λv c=>wpAny (model X.prog X.w) X.A (eval b X.env) (λu d=>wpAny (model X.prog X.w) X.A (compareOp op v u) (EP X pins Y Q) X.xe d) X.xe c) X.xe s
def tB (t:TE):TT:=λY H Q=>t Y H λx H1=>∃ c,x=.bl c/\Q c H1
theorem EV {e:Expr} {t:TE} (h:PE X e t) (he:∀ whole,isTrue e X.env whole=(do let v <- whole;standAt e.pos;holding [v] (truthy v)):=by intro _;rfl):PT X e (tB t):=by
 intro pins s Y H Q I hw
 refine isTrue_plain (thn (h pins s Y H _ I hw) λv s1 #[x,H1,c,b,a]=>?_) (he _)
 obtain ⟨d,rfl,q⟩:=a
 cases b
 exact Hn #[H1,c,q]
variable {tA tB':TT} {dq:List Expr}
def tAnd (t u:TT):TT:=λY H Q=>t Y H λc H1=>if c=true then u Y H1 Q else Q false H1
def tOr (t u:TT):TT:=λY H Q=>t Y H λc H1=>if c=true then Q true H1 else u Y H1 Q
def tNot (t:TT):TT:=λY H Q=>t Y H λc H1=>Q (!c) H1
theorem BA (b:PT X a tA):PW X (.BoolOp .And [a] pos) tA:=by
 intro d pins s Y H Q I h
 refine isTrue_and (thn (b pins s Y H Q I h) λc s1 e=>?_)
 cases c with
 | true=>exact isTrue_and_nil e
 | false=>exact e
theorem ES (b:PT X a tA):PW X (.BoolOp .Or [a] pos) tA:=by
 intro d pins s Y H Q I h
 refine isTrue_or (thn (b pins s Y H Q I h) λc s1 e=>?_)
 cases c with
 | false=>exact isTrue_or_nil e
 | true=>exact e
theorem ET (i:PT X a tA) (g:PW X (.BoolOp .And (b::dq) pos) tB'):PW X (.BoolOp .And (a::b::dq) pos) (tAnd tA tB'):=by
 intro f pins s Y H Q I h
 refine isTrue_and (thn (i pins s Y H _ I h) λc s1 #[H1,d,e]=>?_)
 cases c with
 | true=>exact g f pins s1 Y H1 Q d e
 | false=>exact #[H1,d,e]
theorem pw_or (i:PT X a tA) (g:PW X (.BoolOp .Or (b::dq) pos) tB'):PW X (.BoolOp .Or (a::b::dq) pos) (tOr tA tB'):=by
 intro f pins s Y H Q I h
 refine isTrue_or (thn (i pins s Y H _ I h) λc s1 #[H1,d,e]=>?_)
 cases c with
 | true=>exact #[H1,d,e]
 | false=>exact g f pins s1 Y H1 Q d e
theorem EW (b:PT X a tA):PT X (.UnaryOp .Not a pos) (tNot tA):=by
 intro pins s Y H Q I h
 exact isTrue_not (b pins s Y H (λc H1=>Q (!c) H1) I h)
def C7 (ta tb:TE):TE:=λY H Q=>ta Y H λx H1=>∃ c,x=.bl c/\if c=true then tb Y H1 Q else Q (.bl false) H1
def C2 (ta:TE):TE:=λY H Q=>ta Y H λx H1=>∃ c,x=.bl c/\Q (.bl (!c)) H1
theorem E6 {op} {t:TE} (h:PE X a t):PE X (.BoolOp op [a] pos) t:=λpins s Y H Q I hw=>BoolOp_one (h pins s Y H Q I hw)
theorem Fd (f:PE X a ta) (g:PE X (.BoolOp .And (b::dq) pos) tb):PE X (.BoolOp .And (a::b::dq) pos) (C7 ta tb):=by
 intro pins s Y H Q I h
 refine BoolOp_and (thn (f pins s Y H _ I h) λv s1 #[x,H1,e,i,d]=>?_)
 obtain ⟨c,rfl,d⟩:=d
 cases i
 refine Hn ?_
 cases c with
 | true=>exact g pins s1 Y H1 Q e d
 | false=>exact #[.bl false,H1,e,rfl,d]
theorem E7 (d:PE X a ta):PE X (.UnaryOp .Not a pos) (C2 ta):=by
 intro pins s Y H Q I h
 refine UnaryOp_ (thn (d pins s Y H _ I h) λv s1 #[x,H1,f,e,b]=>?_)
 obtain ⟨c,rfl,b⟩:=b
 cases e
 exact not_of (Hn #[.bl (!c),H1,f,rfl,b])
def tIf (t:TT) (ta tb:TE):TE:=λY H Q=>t Y H λc H1=>if c=true then ta Y H1 Q else tb Y H1 Q
theorem y7 {c:Expr} (i:PT X c tA) (j:PE X a ta) (g:PE X b tb):PE X (.IfExp c a b pos) (tIf tA ta tb):=by
 intro pins s Y H Q I h
 refine wpAny_IfExp (thn (i pins s Y H _ I h) λd s1 #[H1,e,f]=>?_)
 cases d with
 | true=>exact j pins s1 Y H1 Q e f
 | false=>exact g pins s1 Y H1 Q e f
end
end L2
namespace L2
open PySem PySem.Spec PyProof.Rows
def SqL (K:FG) (H:Hp) (a:Addr) (xs:List V):Prop :=
 Rd H a (.lst xs) \/
  ∃ (o:Obj) (its:Array Value) (n:Nat),K.lookup a=some o/\o.cls=.type "list"/\o.dict=none/\o.data=.seq its n/\its.size<=sizeLine/\Vals xs its.toList
def SqT (K:FG) (H:Hp) (a:Addr) (xs:List V):Prop :=
 Rd H a (.tup xs) \/
  ∃ (o:Obj) (its:Array Value) (n:Nat),K.lookup a=some o/\o.cls=.type "tuple"/\o.data=.seq its n/\its.size<=sizeLine/\Vals xs its.toList
def absV:Value->Option V
 | .none=>some .non
 | .bool b=>some (.bl b)
 | .int i _=>some (.int i)
 | .str x _=>some (.str x)
 | .bytes b _=>some (.byt b)
 | .float b _=>some (.flt b)
 | .ref a=>some (.ref a)
 | .type n=>some (.ty n)
 | _=>none
theorem RelV.abs {x:V} {u:Value} (r:RelV x u):absV u=some x:=by
 cases x with
 | non=>cases r;rfl
 | bl _=>cases r;rfl
 | int _=>obtain ⟨t,rfl⟩:=r;rfl
 | str _=>obtain ⟨t,rfl⟩:=r;rfl
 | byt _=>obtain ⟨t,rfl⟩:=r;rfl
 | flt _=>obtain ⟨t,rfl⟩:=r;rfl
 | ref _=>cases r;rfl
 | ty _=>cases r;rfl
theorem RelV.inj {x y:V} {u:Value} (r:RelV x u) (q:RelV y u):x=y:=Hu (r.abs.symm.trans q.abs)
theorem Vals.inj:∀ {xs ys:List V} {us:List Value},Vals xs us->Vals ys us->xs=ys
 | _,_,_,.nil,.nil=>rfl
 | _,_,_,.cons r t,.cons r' t'=>by rw[r.inj r',Vals.inj t t']
section
variable {X:Cx} {pins:List (Addr×Obj)} {Y:St} {H:Hp} {s:Shared} {a:Addr} {xs ys:List V}
theorem SqL.of {K:FG} (h:H a=some (.lst xs)):SqL K H a xs:=.inl (.inl h)
theorem SqT.of {K:FG} (h:H a=some (.tup xs)):SqT K H a xs:=.inl (.inl h)
theorem Inv.list (I:Inv X pins Y H s) (h:SqL X.K H a xs):∃ its:List Value,Vals xs its/\PlainL s.heap a its.toArray/\xs.length<=sizeLine:=by
 rcases h with h | ⟨o,its,n,c,d,hd,b,hz,r⟩
 .obtain ⟨z,its,n,r,e⟩:=h.ok I.hok
  exact #[its,r,#[_,n,e,rfl,rfl,rfl],z]
 .refine #[its.toList,r,#[o,n,I.kIn a o c,d,hd,by simpa using b],?_]
  have e:=r.length
  simp only[Array.length_toList] at e
  lia
theorem Inv.tuple (I:Inv X pins Y H s) (h:SqT X.K H a xs):∃ its:List Value,Vals xs its/\IsTup s.heap a its.toArray/\xs.length<=sizeLine:=by
 rcases h with h | ⟨o,its,n,c,d,b,hz,r⟩
 .obtain ⟨z,its,r,p⟩:=h.ok I.hok
  exact #[its,r,p.tup,z]
 .refine #[its.toList,r,#[o,I.kIn a o c,d,n,by simpa using b],?_]
  have e:=r.length
  simp only[Array.length_toList] at e
  lia
theorem Inv.list_inj (I:Inv X pins Y H s) (h:SqL X.K H a xs) (h':SqL X.K H a ys):xs=ys:=by
 obtain ⟨its,r,⟨o,n,e,_,_,d⟩,_⟩:=I.list h
 obtain ⟨its',c,⟨o',f,b,_,_,d'⟩,_⟩:=I.list h'
 rw[e] at b;cases b
 rw[d] at d'
 injection d' with d1 _
 have:its=its':=by simpa using congrArg Array.toList d1
 subst this
 exact r.inj c
theorem Inv.tuple_inj (I:Inv X pins Y H s) (h:SqT X.K H a xs) (h':SqT X.K H a ys):xs=ys:=by
 obtain ⟨its,r,⟨o,e,_,n,d⟩,_⟩:=I.tuple h
 obtain ⟨its',c,⟨o',b,_,f,d'⟩,_⟩:=I.tuple h'
 rw[e] at b;cases b
 rw[d] at d'
 injection d' with d1 _
 have:its=its':=by simpa using congrArg Array.toList d1
 subst this
 exact r.inj c
end
abbrev Cx.wish (X:Cx) (E:Value->Shared->Prop):Cx:={ X with xe:=E }
abbrev Cx.nox (X:Cx):Cx:=X.wish λ_ _=>False
theorem Cx.Ok.wish {X:Cx} (ok:X.Ok) (E:Value->Shared->Prop):(X.wish E).Ok :=
 #[ok.mod,ok.kind,ok.glob,ok.blt,ok.above,ok.inj,ok.has,ok.cab,ok.hd,ok.frames,ok.stk,ok.exf,ok.bs,ok.bsz,ok.noex,ok.exfs,ok.funs,ok.frf]
theorem Cx.Ok.unwish {X:Cx} {E:Value->Shared->Prop} (ok:(X.wish E).Ok):X.Ok :=
 #[ok.mod,ok.kind,ok.glob,ok.blt,ok.above,ok.inj,ok.has,ok.cab,ok.hd,ok.frames,ok.stk,ok.exf,ok.bs,ok.bsz,ok.noex,ok.exfs,ok.funs,ok.frf]
section
variable {X:Cx} {pins:List (Addr×Obj)} {Y:St} {H:Hp} {s:Shared} {E:Value->Shared->Prop}
theorem Inv.wish (I:Inv X pins Y H s) (E:Value->Shared->Prop):Inv (X.wish E) pins Y H s:=#[I.ok.wish E,I.os,I.bare,I.base,I.loc,I.cell,I.free,I.freeC,I.pin,I.hok,I.len]
theorem Inv.unwish (I:Inv (X.wish E) pins Y H s):Inv X pins Y H s:=#[I.ok.unwish,I.os,I.bare,I.base,I.loc,I.cell,I.free,I.freeC,I.pin,I.hok,I.len]
set_option tactic.hygienic true in
theorem SP.unwish {D:Ends} {f:Flow} {s':Shared} (h:SP (X.wish E) pins D f s'):SP X pins D f s':=by
 cases f with
 | next=>obtain ⟨Y',H',I,q⟩:=h;exact #[Y',H',I.unwish,q]
 | brk=>obtain ⟨Y',H',I,q⟩:=h;exact #[Y',H',I.unwish,q]
 | cont=>obtain ⟨Y',H',I,q⟩:=h;exact #[Y',H',I.unwish,q]
 | ret u=>obtain ⟨v,Y',H',I,r,q⟩:=h;exact #[v,Y',H',I.unwish,r,q]
theorem PSs.nox {st:List Stmt} {t:TS} (h:PSs X.nox st t):PSs X st t:=λpins s Y H D I hw =>
 wpAny_mono (h pins s Y H D (I.wish _) hw) (λ_ _ q=>q.unwish) λ_ _ z=>False.elim z
end
section
variable {X:Cx} {st:Stmt} {dq:List Stmt} {t u:TS} {e:Expr} {te:TE} {pos:Pos}
def C3:TS:=λD Y H=>D.nx Y H
def tSeq (t u:TS):TS:=λD Y H=>t { D with nx:=u D } Y H
theorem BG:PSs X [] C3:=λ_ _ Y H _ I h=>wpAny_execs_nil #[Y,H,I,h]
set_option tactic.hygienic true in
theorem yP (h1:PS X st t) (h2:PSs X dq u):PSs X (st::dq) (tSeq t u):=by
 intro pins s Y H D I h
 refine wpAny_execs_cons (thn (h1 pins s Y H { D with nx:=u D } I h) λf s1 q=>?_)
 cases f with
 | next =>
  obtain ⟨Y',H',a,q⟩:=q
  exact h2 pins s1 Y' H' D a q
 | ret v=>exact q
 | brk=>exact q
 | cont=>exact q
set_option tactic.hygienic true in
theorem BF (h1:PS X st t):PSs X [st] t:=by
 intro pins s Y H D I h
 refine wpAny_execs_cons (thn (h1 pins s Y H D I h) λf s1 q=>?_)
 cases f with
 | next=>exact wpAny_execs_nil q
 | ret v=>exact q
 | brk=>exact q
 | cont=>exact q
theorem Inv.quiet {pins:List (Addr×Obj)} {Y:St} {H:Hp} {s:Shared} (I:Inv X pins Y H s):interactive X.env=false:=by simp[interactive,I.ok.kind]
def C5 (te:TE):TS:=λD Y H=>te Y H λ_ H1=>D.nx Y H1
theorem BH (he:PE X e te) (a:swapsWith e none pos.line X.env=pure false:=by rfl):PS X (.Expr e pos) (C5 te):=by
 intro pins s Y H D I h
 exact wpAny_Expr_any (thn (he pins s Y H _ I h) λv s1 #[x,H1,b,d,c]=>#[Y,H1,b,c]) I.quiet a
def tRet (te:TE):TS:=λD Y H=>te Y H D.rt
theorem EY (he:PE X e te):PS X (.Return (some e) pos) (tRet te):=by
 intro pins s Y H D I h
 exact wpAny_Return_some (thn (he pins s Y H _ I h) λv s1 #[x,H1,b,a,c]=>#[x,Y,H1,b,a,c])
def tIfS (c:TT) (t u:TS):TS:=λD Y H=>c Y H λb H1=>if b=true then t D Y H1 else u D Y H1
theorem ps_if {c:Expr} {a b:List Stmt} {tc:TT} (i:PT X c tc) (j:PSs X a t) (g:PSs X b u):PS X (.If c a b pos) (tIfS tc t u):=by
 intro pins s Y H D I h
 refine wpAny_If (thn (i pins s Y H _ I h) λd s1 #[H1,e,f]=>?_)
 cases d with
 | true=>exact j pins s1 Y H1 D e f
 | false=>exact g pins s1 Y H1 D e f
def DS:TS:=λ_ _ _=>False
theorem yR:PS X st DS:=λ_ _ _ _ _ _ h=>h.elim
end
abbrev TG:=V->St->Hp->(St->Hp->Prop)->Prop
abbrev TGs:=List V->St->Hp->(St->Hp->Prop)->Prop
def PG (X:Cx) (target:Expr) (t:TG):Prop :=
 ∀ (pins:List (Addr×Obj)) (s:Shared) (Y:St) (H:Hp) (v:V) (u:Value) (Q:St->Hp->Prop),Inv X pins Y H s->RelV v u->t v Y H Q ->
  wpAny (model X.prog X.w) X.A (assign target X.env u) (λ_ s'=>∃ Y' H',Inv X pins Y' H' s'/\Q Y' H') X.xe s
def PGs (X:Cx) (ts:List Expr) (t:TGs):Prop :=
 ∀ (pins:List (Addr×Obj)) (s:Shared) (Y:St) (H:Hp) (a:List V) (us:List Value) (Q:St->Hp->Prop),Inv X pins Y H s->Vals a us->t a Y H Q ->
  wpAny (model X.prog X.w) X.A (assignInOrder ((assignEach ts X.env).map (·.2)) us) (λ_ s'=>∃ Y' H',Inv X pins Y' H' s'/\Q Y' H') X.xe s
abbrev CZ:=V->V->V->Hp->(Hp->Prop)->Prop
def AD (X:Cx) (t:CZ):Prop :=
 ∀ (pins:List (Addr×Obj)) (s:Shared) (Y:St) (H:Hp) (o i v:V) (ov a u:Value) (Q:Hp->Prop),Inv X pins Y H s->RelV o ov->RelV i a->RelV v u->t o i v H Q ->
  wpAny (model X.prog X.w) X.A (setItem ov a u) (λ_ s'=>∃ H',Inv X pins Y H' s'/\Q H') X.xe s
section
variable {X:Cx} {pos:Pos}
def vi (i:Nat):TG:=λv Y H Q=>Q (Y.set i (some v)) H
theorem jq {i:Nat} {x:Str} (c:X.N.Nodup) (hi:X.N[i]?=some x) (a:Loc X.env.scope x) (hf:X.fn x=true\/X.env.scope.names.lookup x=some .local:=by first | exact .inl rfl | exact .inr rfl | assumption):PG X (.Name x pos) (vi i):=by
 intro pins s Y H v u Q I r h
 exact wpAny_assign_Name (pO I c hi a r (λs' b=>#[_,H,b,h]) hf)
def gNil:TGs:=λa Y H Q=>a=[]/\Q Y H
def Dv (t:TG) (u:TGs):TGs:=λa Y H Q=>∃ v r,a=v::r/\t v Y H λY' H'=>u r Y' H' Q
theorem uP:PGs X [] gNil:=by
 intro pins s Y H a us Q I r h
 obtain ⟨e,h⟩:=h
 subst e
 cases r
 exact assignInOrder_nil #[Y,H,I,h]
theorem lU {e:Expr} {es:List Expr} {t:TG} {u:TGs} (h1:PG X e t) (h2:PGs X es u)
  (a:(assignEach (e::es) X.env).map (·.2)=assign e X.env::(assignEach es X.env).map (·.2):=by rfl):PGs X (e::es) (Dv t u):=by
 intro pins s Y H f us Q I r h
 obtain ⟨v,d,e1,h⟩:=h
 subst e1
 cases r with
 | cons r rr =>
  rw[a]
  refine assignInOrder_cons (thn (h1 pins s Y H _ _ _ I r h) λ_ s1 #[Y1,H1,c,b]=>?_)
  exact h2 pins s1 Y1 H1 _ _ Q c rr b
def gTup (K:FG) (n:Nat) (t:TGs):TG:=λv Y H Q=>∃ a xs,v=.ref a/\SqT K H a xs/\xs.length=n/\t xs Y H Q
theorem yX {es:List Expr} {k:Nat} {t:TGs} {n:Nat} (m:X.calm=true) (h:PGs X es t)
  (j:(assignEach es X.env).length=n:=by rfl) (c:(assignEach es X.env).findIdx? (·.1)=none:=by rfl):PG X (.Tuple es k pos) (gTup X.K n t):=by
 intro pins s Y H v u Q I r hw
 obtain ⟨a,xs,e1,g,l,hw⟩:=hw
 subst e1
 cases r
 obtain ⟨its,d,f,hz⟩:=I.tuple g
 refine assign_Tuple_tuple (I.ok.hd m) f (by simp[j,<- l,d.length]) c λh' i=>?_
 have p:Inv X pins Y H { s with heap:=h' }:=I.kept (t':=s.toks) λb o e=>i b o (G4 (GP e)) e
 exact h pins _ Y H xs _ Q p (by simpa using d) hw
def gSub (to b:TE) (t:CZ):TG:=λv Y H Q=>to Y H λo H1=>b Y H1 λi H2=>t o i v H2 λa=>Q Y a
theorem E5 {o i:Expr} {to a:TE} {t:CZ} (n:PE X o to) (hi:PE X i a) (d:AD X t)
  (l:∀ v,assign (.Subscript o i pos) X.env v=(do
   let ov <- holding [v] (eval o X.env)
   let D <- holding [v,ov] (eval i X.env)
   standAt pos
   holding [v,ov,D] (setItem ov D v)
   release [v,ov,D] []):=by intro _;rfl):PG X (.Subscript o i pos) (gSub to a t):=by
 intro pins s Y H v u Q I r h
 rw[l]
 refine GC (GF (thn (n pins s Y H _ I h) λov s1 #[x,H1,p,j,e]=>?_))
 refine GC (GF (thn (hi pins s1 Y H1 _ p e) λD s2 #[y,H2,f,c,b]=>?_))
 refine GC (wpAny_standAt (GC (GF (thn (d pins s2 Y H2 x y v ov D u _ f j c r b) λ_ s3 #[k,m,g]=>?_))))
 exact wpAny_release #[Y,k,m,g]
def xM (te:TE) (g:TG):TS:=λD Y H=>te Y H λx H1=>g x Y H1 D.nx
theorem yS {tg e:Expr} {te:TE} {g:TG} (he:PE X e te) (b:PG X tg g) (a:swapsWithSole [tg] e pos.line X.env=pure false:=by rfl) (hw:swappedStores [tg] e X.env=pure none:=by rfl)
  (h1:(assignEach [tg] X.env).map (·.2)=[assign tg X.env]:=by rfl):PS X (.Assign [tg] e pos) (xM te g):=by
 intro pins s Y H D I h
 refine wpAny_Assign_stores (thn (he pins s Y H _ I h) λv s1 #[x,H1,f,d,c]=>?_) a hw
 rw[h1]
 exact thn (b pins s1 Y H1 x v _ f d c) λ_ s2 q=>q
theorem EX {i:Nat} {x:Str} {e:Expr} {te:TE} {pos':Pos} (j:X.N.Nodup) (hi:X.N[i]?=some x) (d:Loc X.env.scope x) (he:PE X e te) (a:swapsWith e (some (.Name x pos')) pos.line X.env=pure false:=by rfl) (hf:X.fn x=true\/X.env.scope.names.lookup x=some .local:=by first | exact .inl rfl | exact .inr rfl | assumption) :
  PS X (.Assign [.Name x pos'] e pos) (xM te (vi i)):=by
 intro pins s Y H D I h
 refine wpAny_Assign_Name (thn (he pins s Y H _ I h) λv s1 #[y,H1,f,g,b]=>?_) a
 exact pO f j hi d g (λs2 c=>#[_,H1,c,b]) hf
end
section
variable {X:Cx} {pos:Pos}
def xG (c:TT) (tb:TS):TS:=λD Y H=>∃ W:Nat->St->Hp->Prop,(∃ m,W m Y H)/\∀ m Y H,W m Y H ->
 c Y H λb H1=>if b=true then ∃ N:St->Hp->Prop,(∀ Y' H',N Y' H'->∃ a,a < m/\W a Y' H')/\tb { D with nx:=N,ct:=N,bk:=D.nx } Y H1 else D.nx Y H1
set_option tactic.hygienic true in
theorem yQ {c:Expr} {body:List Stmt} {tc:TT} {tb:TS} (m:PassesOwn (model X.prog X.w) X.A X.env X.xe) (r:PT X c tc) (q:PSs X body tb):PS X (.While c body [] pos) (xG tc tb):=by
 intro pins s Y H D I h
 obtain ⟨W,⟨m0,p⟩,turn⟩:=h
 refine wpAny_While (codeAny_whileLoop (λn s'=>∃ Y' H',Inv X pins Y' H' s'/\W n Y' H') ?_ m0 #[Y,H,I,p])
 rintro n s1 ⟨Y1,H1,u,t⟩
 refine wpAny_passesOwn m (thn (r pins s1 Y1 H1 _ u (turn n Y1 H1 t)) λb s2 #[H2,l,d]=>?_)
 cases b with
 | true =>
  obtain ⟨N,o,d⟩:=d
  rw[if_pos rfl]
  refine wpAny_passesOwn m (thn (q pins s2 Y1 H2 _ l d) λf s3 e=>?_)
  cases f with
  | next =>
   obtain ⟨Y3,a,k,j⟩:=e
   obtain ⟨g,hm,i⟩:=o Y3 a j
   exact #[g,hm,Y3,a,k,i]
  | cont =>
   obtain ⟨Y3,a,k,j⟩:=e
   obtain ⟨g,hm,i⟩:=o Y3 a j
   exact #[g,hm,Y3,a,k,i]
  | brk=>exact e
  | ret v=>exact e
 | false =>
  rw[if_neg G3]
  exact wpAny_execs_nil #[Y1,H2,l,d]
end
structure It where
 go:Nat->Hp->Prop
 yld:Nat->Hp->V->Hp->Prop
 stop:Nat->Hp->Prop
def FpOk (X:Cx) (pins:List (Addr×Obj)) (H:Hp) (b:Addr):Prop :=
 H b=none/\b≠X.env.locals/\b ∉ X.fs/\(b∈X.ex\/X.s₀.heap.objs.size<=b)/\(∀ x c,X.env.cells.lookup x=some c->c≠b)/\∀ p∈X.pn++pins,p.1≠b
theorem Inv.fpOk {X:Cx} {pins:List (Addr×Obj)} {Y:St} {H H':Hp} {s:Shared} {b:Addr} (I:Inv X pins Y H s) (a:s.heap.objs.size<=b) (f:H' b=none):FpOk X pins H' b:=by
 refine #[f,Nat.ne_of_gt (G9 I.lt a),I.nofs a,.inr (Ho I.sz a),λx c e z=>?_,λp d z=>?_]
 .obtain ⟨v,q⟩:=I.cell x c e
  exact absurd (G9 q.lt (by rw[z];exact a)) (Nat.lt_irrefl _)
 .exact absurd (G9 (GP (I.pin p d).1) (by rw[z];exact a)) (Nat.lt_irrefl _)
structure Turn (P:Program) (w:World) (K:FG) (tg:Expr) (J:It) (fp:List Addr) (it:Addr) (tn:Nat->Heap->Prop):Prop where
 mem:it∈fp
 obj:∀ i h,tn i h->∀ b∈fp,∃ o,h.get? b=some o/\∀ v,o.data≠.cell v
 keep:∀ i h h',tn i h->(∀ b∈fp,∀ o,h.get? b=some o->h'.get? b=some o)->tn i h'
 item:∀ (X:Cx),X.prog=P->X.w=w->X.K=K->X.calm=true->∀ (i:Nat) (pins:List (Addr×Obj)) (s:Shared) (Y:St) (H:Hp) (E:Value->Shared->Prop),Inv X pins Y H s->(∀ b∈fp,FpOk X pins H b)->tn i s.heap->J.go i H ->
  wpAny (model P w) X.A (pyNext (.ref it)) (λr s1=>∃ u,r=some u /\
   wpAny (model P w) X.A (letOwnedTupleGo tg (.ref it) u) (λ_ s2=>∃ x H',Inv X pins Y H' s2/\RelV x u/\J.yld i H x H'/\tn (i+1) s2.heap/\∀ b∈fp,H' b=none) E s1) E s
 done:∀ (X:Cx),X.prog=P->X.w=w->X.K=K->X.calm=true->∀ (i:Nat) (pins:List (Addr×Obj)) (s:Shared) (Y:St) (H:Hp) (E:Value->Shared->Prop),Inv X pins Y H s->(∀ b∈fp,FpOk X pins H b)->tn i s.heap->J.stop i H ->
  wpAny (model P w) X.A (pyNext (.ref it)) (λr s1=>r=none/\Inv X pins Y H s1) E s
 self:∀ (A:Around) (i:Nat) (s:Shared) (Q:Value->Shared->Prop) (E:Value->Shared->Prop),tn i s.heap->Q (.ref it) s->wpAny (model P w) A (pyIter (.ref it)) Q E s
abbrev TI:=St->Hp->(It->Hp->Prop)->Prop
def PIE (X:Cx) (pins:List (Addr×Obj)) (Y:St) (tg:Expr) (R:It->Hp->Prop) (a:Value) (s2:Shared):Prop :=
 ∃ (it:Addr) (fp:List Addr) (c:Nat->Heap->Prop) (J:It) (H':Hp),a=.ref it/\Inv X pins Y H' s2/\Turn X.prog X.w X.K tg J fp it c/\c 0 s2.heap/\(∀ b∈fp,FpOk X pins H' b)/\R J H'
def PI (X:Cx) (tg iter:Expr) (a:TI):Prop :=
 ∀ (pins:List (Addr×Obj)) (s:Shared) (Y:St) (H:Hp) (R:It->Hp->Prop),Inv X pins Y H s->a Y H R ->
  wpAny (model X.prog X.w) X.A (eval iter X.env) (λv s1=>wpAny (model X.prog X.w) X.A (pyIter v) (PIE X pins Y tg R) X.xe s1) X.xe s
theorem qT {M:Model} {A:Around} {E:Value -> Shared -> Prop} {s:Shared} {tg:Expr} {it:Addr} {u:Value} {o:Obj} {n:String} {b:Array Value} {Q:Unit -> Shared -> Prop} (d:s.heap.get? it=some o) (e:o.cls=.type n) (hd:o.data=.fields b)
    (c:["enumerate","zip","dict_itemiterator","dict_reverseitemiterator","odict_iterator","itertools.zip_longest","itertools.pairwise"].contains n=false) (a:Q () s):wpAny M A (letOwnedTupleGo tg (.ref it) u) Q E s:=by
  unfold letOwnedTupleGo
  cases tg <;> first
    | exact GD a
    | (cases u <;> first
        | exact GD a
        | (refine GC (wpAny_load d ?_)
           rw[e,hd]
           show wpAny M A (if (["enumerate","zip","dict_itemiterator","dict_reverseitemiterator","odict_iterator","itertools.zip_longest","itertools.pairwise"].contains n && b[0]? == some (rawInt _))=true then _ else _) Q E s
           rw[if_neg (by intro h; rw[c,Bool.false_and] at h; cases h)]
           exact GD a))
def Itl (K:FG) (a:Addr):It :=
 #[λi H=>∃ xs x,SqL K H a xs/\xs[i]?=some x,λi H x H'=>H'=H/\∀ xs,SqL K H a xs->xs[i]?=some x,λi H=>∃ xs,SqL K H a xs/\xs.length<=i]
def Itt (K:FG) (a:Addr):It :=
 #[λi H=>∃ xs x,SqT K H a xs/\xs[i]?=some x,λi H x H'=>H'=H/\∀ xs,SqT K H a xs->xs[i]?=some x,λi H=>∃ xs,SqT K H a xs/\xs.length<=i]
def Itr (lo:Int) (n:Nat):It:=#[λi _=>i < n,λi H x H'=>H'=H/\x=.int (lo+i),λi _=>n<=i]
theorem vM {P:Program} {w:World} {K:FG} {tg:Expr} (a it:Addr):Turn P w K tg (Itl K a) [it] it (λi h=>h.IsListIter it a i) where
 mem:=by simp
 obj:=λi h st b f=>by
  have e:b=it:=by simpa using f
  subst e
  obtain ⟨o,e,c,d⟩:=st
  exact #[o,e,λv z=>by rw[d] at z;cases z]
 keep:=λi h h' st k=>st.at λo e=>k it (by simp) o e
 item:=by
  intro X q hw l A i pins s Y H E I hf st r
  subst q hw l
  obtain ⟨xs,x,j,y⟩:=r
  obtain ⟨its,t,p,hz⟩:=I.list j
  obtain ⟨u,hu,D⟩:=t.get y
  obtain ⟨f0,f1,f2,n,f4,m⟩:=hf it (by simp)
  refine wpAny_pyNext_list_item st p.isList (x:=u) (by simpa using hu) λh' g sb=>?_
  have F:Inv X pins Y H { s with heap:=h' }:=I.turned (t':=s.toks) (λb o f e=>(sb.2 b f).trans e) f0 f1 n f4 m
  obtain ⟨o,e,c,d⟩:=id g
  exact #[u,rfl,qT (s:={ s with heap:=h' }) e c d (by decide) #[x,H,F,D,#[rfl,λys C=>by rw[I.list_inj C j];exact y],g,λb f=>(hf b f).1]]
 done:=by
  intro X q hw l A i pins s Y H E I hf st r
  subst q hw l
  obtain ⟨xs,j,y⟩:=r
  obtain ⟨its,t,p,hz⟩:=I.list j
  obtain ⟨f0,f1,f2,n,f4,m⟩:=hf it (by simp)
  have G:=t.length
  exact wpAny_pyNext_list_end (I.ok.hd A) st p.isList (by simp;omega) λh' B=>#[rfl,I.turned (t':=s.toks) (λb o f e=>B b o f e) f0 f1 n f4 m]
 self:=λ_ _ _ _ _ st h=>wpAny_pyIter_listiter st h
theorem rZ {P:Program} {w:World} {K:FG} {tg:Expr} (a it:Addr):Turn P w K tg (Itt K a) [it] it (λi h=>h.IsTupleIter it a i) where
 mem:=by simp
 obj:=λi h st b f=>by
  have e:b=it:=by simpa using f
  subst e
  obtain ⟨o,e,c,d⟩:=st
  exact #[o,e,λv z=>by rw[d] at z;cases z]
 keep:=λi h h' st k=>st.at λo e=>k it (by simp) o e
 item:=by
  intro X q hw l A i pins s Y H E I hf st r
  subst q hw l
  obtain ⟨xs,x,j,y⟩:=r
  obtain ⟨its,t,p,hz⟩:=I.tuple j
  obtain ⟨u,hu,D⟩:=t.get y
  obtain ⟨f0,f1,f2,n,f4,m⟩:=hf it (by simp)
  refine wpAny_pyNext_tuple_item st (show s.heap.IsTuple a its.toArray from p) (x:=u) (by simpa using hu) λh' g sb=>?_
  have F:Inv X pins Y H { s with heap:=h' }:=I.turned (t':=s.toks) (λb o f e=>(sb.2 b f).trans e) f0 f1 n f4 m
  obtain ⟨o,e,c,d⟩:=id g
  exact #[u,rfl,qT (s:={ s with heap:=h' }) e c d (by decide) #[x,H,F,D,#[rfl,λys C=>by rw[I.tuple_inj C j];exact y],g,λb f=>(hf b f).1]]
 done:=by
  intro X q hw l A i pins s Y H E I hf st r
  subst q hw l
  obtain ⟨xs,j,y⟩:=r
  obtain ⟨its,t,p,hz⟩:=I.tuple j
  obtain ⟨f0,f1,f2,n,f4,m⟩:=hf it (by simp)
  have G:=t.length
  exact wpAny_pyNext_tuple_end (I.ok.hd A) st (show s.heap.IsTuple a its.toArray from p) (by simp;omega) λh' B=>#[rfl,I.turned (t':=s.toks) (λb o f e=>B b o f e) f0 f1 n f4 m]
 self:=λ_ _ _ _ _ st h=>wpAny_pyIter_tupleiter st h
theorem r0 {P:Program} {w:World} {K:FG} {tg:Expr} (it:Addr) (lo:Int) (n:Nat):Turn P w K tg (Itr lo n) [it] it (λi h=>IsRangeIter h it (lo+(i:Nat) * 1) ((n:Int) - (i:Nat)) 1) where
 mem:=by simp
 obj:=λi h st b a=>by
  have e:b=it:=by simpa using a
  subst e
  exact ⟨_,st,λv z=>by
   have r:Data.fields _=Data.cell v:=z
   cases r⟩
 keep:=λi h h' st k=>k it (by simp) _ st
 item:=by
  intro X l hw d f i pins s Y H E I hf st m
  subst l hw d
  obtain ⟨f0,f1,f2,j,f4,g⟩:=hf it (by simp)
  have W:=Walks.range (prog:=X.prog) (w:=X.w) (I.ok.hd f) it lo 1 n
  refine W.item i s _ _ m st λv h' tk u c q=>?_
  obtain ⟨t,rfl⟩:=u
  have x:Inv X pins Y H { s with heap:=h',toks:=tk }:=I.turned (λb o a e=>q b o (by simpa using a) e) f0 f1 j f4 g
  refine #[_,rfl,qT (s:={ s with heap:=h',toks:=tk }) (n:="range_iterator") c rfl rfl (by decide) #[.int (lo+i),H,x,#[t,?_],#[rfl,rfl],c,λb a=>(hf b a).1]]
  rw[Int.mul_one]
 done:=by
  intro X l hw d f i pins s Y H E I hf st m
  subst l hw d
  obtain ⟨f0,f1,f2,j,f4,g⟩:=hf it (by simp)
  exact wpAny_pyNext_range_end (I.ok.hd f) st (by have:n<=i:=m;lia) λh' p=>#[rfl,I.turned (t':=s.toks) (λb o a e=>p b o a e) f0 f1 j f4 g]
 self:=λ_ _ _ _ _ st h=>wpAny_pyIter_rangeiter st h
end L2
namespace L2
open PySem PySem.Spec PyProof.Rows
section
variable {X:Cx} {tg:Expr}
theorem qb {pins:List (Addr×Obj)} {Y:St} {H:Hp} {s:Shared} {R:It->Hp->Prop} {E:Value->Shared->Prop} {lo hi:Int} {t u v:Tok} {tk:Nat} (I:Inv X pins Y H s) (h1:-(2 ^ 62)<=lo) (h2:lo < 2 ^ 62) (h3:-(2 ^ 62)<=hi) (f:hi < 2 ^ 62)
  (q:R (Itr lo (hi - lo).toNat) H):wpAny (model X.prog X.w) X.A (pyIter (.ref s.heap.objs.size)) (PIE X pins Y tg R) E { s with heap:=s.heap.push { cls:=.type "range",data:=.fields (List.toArray [.int lo t,.int hi u,.int 1 v]) },toks:=tk }:=by
 refine wpAny_pyIter_range (IsRange.new ..) (small_one h1 h2 h3 f) ?_
 have a:Inv X pins Y H { s with heap:=s.heap.push { cls:=.type "range",data:=.fields (List.toArray [.int lo t,.int hi u,.int 1 v]) },toks:=tk }:=I.kept λb o e=>GI _ e
 refine ⟨(s.heap.push { cls:=.type "range",data:=.fields (List.toArray [.int lo t,.int hi u,.int 1 v]) }).objs.size,[(s.heap.push { cls:=.type "range",data:=.fields (List.toArray [.int lo t,.int hi u,.int 1 v]) }).objs.size],_,_,H,rfl,
  a.kept (t':=tk) λb o e=>GI _ e,r0 _ lo (hi - lo).toNat,?_,λb c=>?_,q⟩
 .have e1:lo+((0:Nat):Int) * 1=lo:=by simp
  have d:(((hi - lo).toNat:Nat):Int) - ((0:Nat):Int)=Builtin.Range.rangeSize lo hi 1:=by rw[rangeSize_one];split <;> omega
  show IsRangeIter _ _ (lo+((0:Nat):Int) * 1) ((((hi - lo).toNat:Nat):Int) - ((0:Nat):Int)) 1
  rw[e1,d]
  exact GR _ rfl
 .have e:b=(s.heap.push { cls:=.type "range",data:=.fields (List.toArray [.int lo t,.int hi u,.int 1 v]) }).objs.size:=by simpa using c
  subst e
  exact a.fpOk (GZ _) (a.hok.fresh (GZ _))
def Dq (ta:TA):TI:=λY H R=>ta Y H λa H1=>∃ j:Int,a=[.int j]/\-(2 ^ 62)<=j/\j < 2 ^ 62/\R (Itr 0 j.toNat) H1
def Dp (ta:TA):TI:=λY H R=>ta Y H λa H1=>∃ i j:Int,a=[.int i,.int j]/\(-(2 ^ 62)<=i/\i < 2 ^ 62/\-(2 ^ 62)<=j/\j < 2 ^ 62)/\R (Itr i (j - i).toNat) H1
theorem wm {a:Expr} {ta:TA} {p pos:Pos} (f:Gl X "range") (hm:X.mg "range"=none) (g:PA X [a] ta) (d:starEach [a] X.env=[(false,eval a X.env)]:=by rfl):PI X tg (.Call (.Name "range" p) [a] [] pos) (Dq ta):=by
 intro pins s Y H R I h
 refine Call_ (j9 I f hm boot_range (PyProof.Rows.callWith_type1 (thn (g pos pins s Y H _ I h) λus s1 #[l,H1,k,i,b]=>?_) d rfl))
 obtain ⟨j,e,b,c,q⟩:=b
 subst e
 cases i with
 | cons r rr =>
  cases rr
  obtain ⟨t,rfl⟩:=r
  exact call_range_1 (qb k (by omega) (by omega) b c (by simpa using q))
theorem wl {a b:Expr} {ta:TA} {p pos:Pos} (k:Gl X "range") (hm:X.mg "range"=none) (m:PA X [a,b] ta) (g:starEach [a,b] X.env=[(false,eval a X.env),(false,eval b X.env)]:=by rfl) (c:starEach [b] X.env=[(false,eval b X.env)]:=by rfl) :
  PI X tg (.Call (.Name "range" p) [a,b] [] pos) (Dp ta):=by
 intro pins s Y H R I h
 refine Call_ (j9 I k hm boot_range (PyProof.Rows.callWith_type1 (thn (m pos pins s Y H _ I h) λus s1 #[v,H1,u,o,d]=>?_) (by rw[g,c]) (by rw[c];rfl)))
 obtain ⟨i,j,e,⟨d,f,n,l⟩,q⟩:=d
 subst e
 cases o with
 | cons r rr =>
  cases rr with
  | cons r' rr =>
   cases rr
   obtain ⟨t,rfl⟩:=r
   obtain ⟨t',rfl⟩:=r'
   exact call_range_2 (qb u d f n l q)
def tFor (b:TI) (g:TG) (tb:TS):TS:=λD Y H=>b Y H λJ H1=>∃ W:Nat->Nat->St->Hp->Prop,(∃ m,W 0 m Y H1)/\∀ i m Y H,W i m Y H ->
 (J.stop i H/\D.nx Y H)\/(J.go i H/\∃ N:St->Hp->Prop,(∀ Y' H',N Y' H'->∃ a,a < m/\W (i+1) a Y' H')/\∀ x H',J.yld i H x H'->g x Y H' λY2 H2=>tb { D with nx:=N,ct:=N,bk:=D.nx } Y2 H2)
def lR (fp:List Addr) (h:Heap):List (Addr×Obj):=fp.filterMap λb=>(h.get? b).map λo=>(b,o)
theorem fO {fp:List Addr} {h:Heap} {b:Addr} {o:Obj} (a:b∈fp) (e:h.get? b=some o):(b,o)∈lR fp h:=List.mem_filterMap.mpr #[b,a,by rw[e];rfl]
theorem wr {fp:List Addr} {h:Heap} {p:Addr×Obj} (c:p∈lR fp h):p.1∈fp/\h.get? p.1=some p.2:=by
 obtain ⟨b,a,e⟩:=List.mem_filterMap.mp c
 cases q:h.get? b with
 | none=>rw[q] at e;cases e
 | some o =>
  rw[q] at e
  have d:(b,o)=p:=Hu e
  subst d
  exact #[a,q]
theorem Inv.pinned {pins:List (Addr×Obj)} {Y:St} {H:Hp} {s:Shared} {fp:List Addr} (I:Inv X pins Y H s) (hf:∀ b∈fp,FpOk X pins H b) (g:∀ b∈fp,∃ o,s.heap.get? b=some o/\∀ v,o.data≠.cell v):Inv X (pins++lR fp s.heap) Y H s :=
 I.pins_of λp f=>(GQ.mp f).elim (λz=>I.pin p (GL _ z)) λz=>by
  obtain ⟨c,e⟩:=wr z
  obtain ⟨f0,f1,f2,_⟩:=hf p.1 c
  obtain ⟨o,a,d⟩:=g p.1 c
  rw[e] at a;cases a
  exact #[e,f0,f1,f2,d]
theorem Inv.unpinned {pins pl:List (Addr×Obj)} {Y:St} {H:Hp} {s:Shared} (I:Inv X (pins++pl) Y H s):Inv X pins Y H s:=I.pins_of λp a=>I.pin p (GL _ (GK _ a))
set_option tactic.hygienic true in
theorem EZ {iter:Expr} {body:List Stmt} {M:TI} {g:TG} {tb:TS} {pos:Pos} (z:PassesOwn (model X.prog X.w) X.A X.env X.xe) (O:X.calm=true) (hi:PI X tg iter M) (hg:PG X tg g) (a:PSs X body tb)
  (S:∀ x,foldedSetIterable iter X.env x=pure x:=by intro _;rfl):PS X (.For tg iter body [] pos) (tFor M g tb):=by
 intro pins s Y H D I h
 refine wpAny_For (thn (hi pins s Y H _ I h) λv s1 h1=>thn h1 λab s2 h2=>?_) S
 obtain ⟨it,fp,L,J,H2,e,I2,T,G,f2,W,⟨m0,w0⟩,turn⟩:=h2
 subst e
 have k:∀ {H':Hp},(∀ b∈fp,H' b=none)->∀ b∈fp,FpOk X pins H' b:=λV b a=>#[V b a,(f2 b a).2]
 refine codeAny_forLoop_any (λn s'=>∃ i Y' H',Inv X pins Y' H' s'/\L i s'.heap/\(∀ b∈fp,H' b=none)/\W i n Y' H') ?_ m0 #[0,Y,H2,I2,G,λb a=>(f2 b a).1,w0]
 rintro n s3 ⟨i,Y3,B,Q,t,y,w3⟩
 rcases turn i n Y3 B w3 with ⟨stop,qn⟩ | ⟨go,N,hN,step⟩
 .refine wpAny_passesOwn z (thn (T.done X rfl rfl rfl O i pins s3 Y3 B X.xe Q (k y) t stop) λr s4 #[E,I4]=>?_)
  subst E
  exact wpAny_execs_nil #[Y3,B,I4,qn]
 .refine wpAny_passesOwn z (thn (T.item X rfl rfl rfl O i pins s3 Y3 B X.xe Q (k y) t go) λr s4 #[u,E,h4]=>?_)
  subst E
  refine wpAny_passesOwn z (thn h4 λ_ s5 #[x,P,I5,σ,y5,p,C]=>?_)
  have K:=I5.pinned (k C) (T.obj _ _ p)
  refine wpAny_passesOwn z (thn (hg _ s5 Y3 P x u _ K σ (step x P y5)) λ_ R #[Y6,H6,φ,q6]=>?_)
  refine wpAny_passesOwn z (thn (a _ R Y6 H6 _ φ q6) λf F l=>?_)
  have again:∀ {Y7:St} {j:Hp},Inv X (pins++lR fp s5.heap) Y7 j F->N Y7 j->∃ m,m < n/\∃ i Y' H',Inv X pins Y' H' F/\L i F.heap/\(∀ b∈fp,H' b=none)/\W i m Y' H':=λ{Y7 j} c q=>by
   obtain ⟨m',hm,ρ⟩:=hN Y7 j q
   refine #[m',hm,i+1,Y7,j,c.unpinned,T.keep _ _ _ p λb a o e=>(c.pin (b,o) (GL _ (GL _ (fO a e)))).1,λb a=>?_,ρ]
   obtain ⟨o,e,d⟩:=T.obj _ _ p b a
   exact (c.pin (b,o) (GL _ (GL _ (fO a e)))).2.1
  cases f with
  | next=>obtain ⟨Y7,j,c,q⟩:=l;exact again c q
  | cont=>obtain ⟨Y7,j,c,q⟩:=l;exact again c q
  | brk=>obtain ⟨Y7,j,c,l⟩:=l;exact #[Y7,j,c.unpinned,l]
  | ret v=>obtain ⟨x7,Y7,j,c,r7,l⟩:=l;exact #[x7,Y7,j,c.unpinned,r7,l]
end
end L2
namespace L2
open PySem PySem.Spec PyProof.Rows
abbrev R2:=V->V->Hp->VK->Prop
def OpR (X:Cx) (f:Value->Value->Sem Value) (r:R2):Prop :=
 ∀ (pins:List (Addr×Obj)) (s:Shared) (Y:St) (H:Hp) (x y:V) (v u:Value) (Q:VK),Inv X pins Y H s->RelV x v->RelV y u->r x y H Q ->
  wpAny (model X.prog X.w) X.A (f v u) (EP X pins Y Q) X.xe s
def UnR (X:Cx) (f:Value->Sem Value) (r:V->Hp->VK->Prop):Prop :=
 ∀ (pins:List (Addr×Obj)) (s:Shared) (Y:St) (H:Hp) (x:V) (v:Value) (Q:VK),Inv X pins Y H s->RelV x v->r x H Q ->
  wpAny (model X.prog X.w) X.A (f v) (EP X pins Y Q) X.xe s
def CallR (X:Cx) (f:Value) (r:List V->Hp->VK->Prop):Prop :=
 ∀ (pins:List (Addr×Obj)) (s:Shared) (Y:St) (H:Hp) (xs:List V) (us:List Value) (Q:VK),Inv X pins Y H s->Vals xs us->r xs H Q ->
  wpAny (model X.prog X.w) X.A (call f us) (EP X pins Y Q) X.xe s
def tOp (r:R2) (ta tb:TE):TE:=λY H Q=>ta Y H λx H1=>tb Y H1 λy H2=>r x y H2 Q
def tUn (r:V->Hp->VK->Prop) (ta:TE):TE:=λY H Q=>ta Y H λx H1=>r x H1 Q
def rI (C:Int->Int->Prop) (g:Int->Int->V):R2:=λx y H Q=>∃ i j,x=.int i/\y=.int j/\C i j/\Q (g i j) H
def rI0 (g:Int->Int->V):R2:=λx y H Q=>∃ i j,x=.int i/\y=.int j/\Q (g i j) H
def rU (g:Int->V):V->Hp->VK->Prop:=λx H Q=>∃ i,x=.int i/\Q (g i) H
section
variable {X:Cx} {a b c:Expr} {ta tb tc:TE} {pos:Pos}
theorem Gs (e:PE X a ta) (i:PE X b tb) {pins:List (Addr×Obj)} {s:Shared} {Y:St} {H:Hp} {R:V->V->Hp->Prop} (I:Inv X pins Y H s)
  (h:ta Y H λx H1=>tb Y H1 λy H2=>R x y H2) {Q:Value->Shared->Prop} {f:Value->Value->Sem Value}
  (hf:∀ v u s2 x y H2,Inv X pins Y H2 s2->RelV x v->RelV y u->R x y H2->wpAny (model X.prog X.w) X.A (f v u) Q X.xe s2) :
  wpAny (model X.prog X.w) X.A (eval a X.env) (λv D=>wpAny (model X.prog X.w) X.A (eval b X.env) (λu F=>wpAny (model X.prog X.w) X.A (f v u) Q X.xe F) X.xe D) X.xe s:=by
 refine thn (e pins s Y H _ I h) λv s1 #[x,H1,l,k,g]=>?_
 refine thn (i pins s1 Y H1 _ l g) λu s2 #[y,H2,j,d,c]=>?_
 exact hf v u s2 x y H2 j k d c
theorem pe_op {op:Operator} {r:R2} (g:OpR X (binaryOp op) r) (c:PE X a ta) (d:PE X b tb):PE X (.BinOp a op b pos) (tOp r ta tb):=by
 intro pins s Y H Q I h
 exact wpAny_BinOp (Gs c d I h λv u s2 x y H2 e i f q=>g pins s2 Y H2 x y v u Q e i f q)
theorem pe_un {op:UnaryOp} {r:V->Hp->VK->Prop} (b:UnR X (unaryOp op) r) (c:PE X a ta):PE X (.UnaryOp op a pos) (tUn r ta):=by
 intro pins s Y H Q I h
 exact UnaryOp_ (thn (c pins s Y H _ I h) λv s1 #[x,H1,e,d,f]=>b pins s1 Y H1 x v Q e d f)
theorem opI {f:Value->Value->Sem Value} {C:Int->Int->Prop} {g:Int->Int->Int}
  (rule:∀ (i j:Int) (t u:Tok) (s:Shared) (Q:Value->Shared->Prop) (E:Value->Shared->Prop),C i j->Q (.int (g i j) s.toks) { s with toks:=s.toks+1 }->wpAny (model X.prog X.w) X.A (f (.int i t) (.int j u)) Q E s) :
  OpR X f (rI C λi j=>.int (g i j)):=by
 intro pins s Y H x y v u Q I b a h
 obtain ⟨i,j,rfl,rfl,c,q⟩:=h
 obtain ⟨t,rfl⟩:=b
 obtain ⟨t',rfl⟩:=a
 exact rule i j t t' s _ _ c #[.int (g i j),H,I.tok _,#[_,rfl],q]
theorem opI0 {f:Value->Value->Sem Value} {g:Int->Int->Int}
  (rule:∀ (i j:Int) (t u:Tok) (s:Shared) (Q:Value->Shared->Prop) (E:Value->Shared->Prop),Q (.int (g i j) s.toks) { s with toks:=s.toks+1 }->wpAny (model X.prog X.w) X.A (f (.int i t) (.int j u)) Q E s) :
  OpR X f (rI0 λi j=>.int (g i j)):=by
 intro pins s Y H x y v u Q I b a h
 obtain ⟨i,j,rfl,rfl,q⟩:=h
 obtain ⟨t,rfl⟩:=b
 obtain ⟨t',rfl⟩:=a
 exact rule i j t t' s _ _ #[.int (g i j),H,I.tok _,#[_,rfl],q]
theorem BW {f:Value->Value->Sem Value} {g:Int->Int->Bool}
  (rule:∀ (i j:Int) (t u:Tok) (s:Shared) (Q:Value->Shared->Prop) (E:Value->Shared->Prop),Q (.bool (g i j)) s->wpAny (model X.prog X.w) X.A (f (.int i t) (.int j u)) Q E s) :
  OpR X f (rI0 λi j=>.bl (g i j)):=by
 intro pins s Y H x y v u Q I b a h
 obtain ⟨i,j,rfl,rfl,q⟩:=h
 obtain ⟨t,rfl⟩:=b
 obtain ⟨t',rfl⟩:=a
 exact rule i j t t' s _ _ #[.bl (g i j),H,I,rfl,q]
def xw (i j:Int):Prop:=0 < j/\j < 1073741824
def AF (i j:Int):Prop:=0<=j/\j<=1000000/\i.natAbs < 2 ^ 64
def CMul (i j:Int):Prop:=(-(2 ^ 64) < i/\i < 2 ^ 64)\/(-(2 ^ 64) < j/\j < 2 ^ 64)
theorem CMul.ok {i j:Int} (h:CMul i j):IntMulOk i j:=by
 rcases h with ⟨h1,h2⟩ | ⟨h1,h2⟩
 .exact .of_left (intBits_le_64 h1 h2)
 .exact .of_right (intBits_le_64 h1 h2)
theorem op_add:OpR X (binaryOp .Add) (rI0 λi j=>.int (i+j)):=opI0 λ_ _ _ _ _ _ _ q=>add_int q
theorem Fi:OpR X (binaryOp .Sub) (rI0 λi j=>.int (i - j)):=opI0 λ_ _ _ _ _ _ _ q=>sub_int q
theorem Fo:OpR X (binaryOp .Mult) (rI CMul λi j=>.int (i * j)):=opI λ_ _ _ _ _ _ _ a q=>mul_int q a.ok
theorem Fp:OpR X (binaryOp .Mod) (rI (λ_ j=>0 < j) λi j=>.int (i % j)):=opI λi j _ _ _ _ _ a q=>by
 have h1:(0:Int) < j:=a
 exact mod_int' (by omega) (by rw[Int.fmod_eq_emod_of_nonneg i (by omega)];exact q)
theorem Fj:OpR X (binaryOp .Pow) (rI AF λi j=>.int (i ^ j.toNat)):=opI λ_ _ _ _ _ _ _ a q=>pow_int_small a.1 a.2.1 a.2.2 q
theorem unI {f:Value->Sem Value} {g:Int->Int}
  (rule:∀ (i:Int) (t:Tok) (s:Shared) (Q:Value->Shared->Prop) (E:Value->Shared->Prop),Q (.int (g i) s.toks) { s with toks:=s.toks+1 }->wpAny (model X.prog X.w) X.A (f (.int i t)) Q E s) :
  UnR X f (rU λi=>.int (g i)):=by
 intro pins s Y H x v Q I a h
 obtain ⟨i,rfl,q⟩:=h
 obtain ⟨t,rfl⟩:=a
 exact rule i t s _ _ #[.int (g i),H,I.tok _,#[_,rfl],q]
theorem DF:UnR X (unaryOp .USub) (rU λi=>.int (-i)):=unI λ_ _ _ _ _ q=>neg_int q
end
def En:V->V->Bool
 | .non,.non=>true | .non,.int _=>true | .int _,.non=>true | .non,.bl _=>true | .bl _,.non=>true | .non,.str _=>true | .str _,.non=>true
 | .int _,.int _=>true | .bl _,.bl _=>true | .str _,.str _=>true | .byt _,.byt _=>true
 | .int _,.str _=>true | .str _,.int _=>true | .bl _,.str _=>true | .str _,.bl _=>true
 | _,_=>false
def rEq:R2:=λx y H Q=>En x y=true/\Q (.bl (decide (x=y))) H
def rNe:R2:=λx y H Q=>En x y=true/\Q (.bl (!decide (x=y))) H
theorem vw {i j:Int}:decide (V.int i=V.int j)=(i == j):=by
 rw[Bool.eq_iff_iff]
 simp
theorem Ac {i j:Bool}:decide (V.bl i=V.bl j)=(i == j):=by
 rw[Bool.eq_iff_iff]
 simp
theorem vv {i j:Str}:decide (V.str i=V.str j)=(i == j):=by
 rw[Bool.eq_iff_iff]
 simp
theorem vz {i j:Array UInt8}:decide (V.byt i=V.byt j)=(i.toList == j.toList):=by
 rw[Bool.eq_iff_iff]
 cases i
 cases j
 simp
section
variable {X:Cx} {a b c:Expr} {ta tb tc:TE} {pos:Pos}
theorem aP {pins:List (Addr×Obj)} {Y:St} {H:Hp} {s:Shared} {Q:VK} {k a:Bool} (I:Inv X pins Y H s) (q:Q (.bl k) H) (e:k=a):EP X pins Y Q (.bool a) s:=by
 subst e
 exact #[.bl k,H,I,rfl,q]
theorem op_eq:OpR X (compareOp .Eq) rEq:=by
 intro pins s Y H x y v u Q I c a h
 obtain ⟨b,q⟩:=h
 cases x with
 | non =>
  cases c
  cases y with
  | non=>cases a;exact PySem.EqNone.eq_none_none (aP I q (by simp))
  | bl j=>cases a;exact PySem.EqNone.eq_none_bool (aP I q (by simp))
  | int j=>obtain ⟨t',rfl⟩:=a;exact PySem.EqNone.eq_none_int (aP I q (by simp))
  | str j=>obtain ⟨t',rfl⟩:=a;exact PySem.EqNone.eq_none_str (aP I q (by simp))
  | _=>exact absurd (show false=true from b) G3
 | bl i =>
  cases c
  cases y with
  | non=>cases a;exact PySem.EqNone.eq_bool_none (aP I q (by simp))
  | bl j=>cases a;exact eq_bool (aP I q Ac)
  | str j=>obtain ⟨t',rfl⟩:=a;exact PySem.EqMixed.eq_bool_str (aP I q (by simp))
  | _=>exact absurd (show false=true from b) G3
 | int i =>
  obtain ⟨t,rfl⟩:=c
  cases y with
  | non=>cases a;exact PySem.EqNone.eq_int_none (aP I q (by simp))
  | int j=>obtain ⟨t',rfl⟩:=a;exact eq_int (aP I q vw)
  | str j=>obtain ⟨t',rfl⟩:=a;exact PySem.EqMixed.eq_int_str (aP I q (by simp))
  | _=>exact absurd (show false=true from b) G3
 | str i =>
  obtain ⟨t,rfl⟩:=c
  cases y with
  | non=>cases a;exact PySem.EqNone.eq_str_none (aP I q (by simp))
  | bl j=>cases a;exact PySem.EqMixed.eq_str_bool (aP I q (by simp))
  | int j=>obtain ⟨t',rfl⟩:=a;exact PySem.EqMixed.eq_str_int (aP I q (by simp))
  | str j=>obtain ⟨t',rfl⟩:=a;exact eq_str (aP I q vv)
  | _=>exact absurd (show false=true from b) G3
 | byt i =>
  obtain ⟨t,rfl⟩:=c
  cases y with
  | byt j=>obtain ⟨t',rfl⟩:=a;exact PySem.W.eq_bytes (aP I q vz)
  | _=>exact absurd (show false=true from b) G3
 | _=>cases y <;> exact absurd (show false=true from b) G3
theorem op_ne:OpR X (compareOp .NotEq) rNe:=by
 intro pins s Y H x y v u Q I c a h
 obtain ⟨b,q⟩:=h
 cases x with
 | non =>
  cases c
  cases y with
  | non=>cases a;exact PySem.EqNone.ne_none_none (aP I q (by simp))
  | bl j=>cases a;exact PySem.EqNone.ne_none_bool (aP I q (by simp))
  | int j=>obtain ⟨t',rfl⟩:=a;exact PySem.EqNone.ne_none_int (aP I q (by simp))
  | str j=>obtain ⟨t',rfl⟩:=a;exact PySem.EqNone.ne_none_str (aP I q (by simp))
  | _=>exact absurd (show false=true from b) G3
 | bl i =>
  cases c
  cases y with
  | non=>cases a;exact PySem.EqNone.ne_bool_none (aP I q (by simp))
  | bl j=>cases a;exact ne_bool (aP I q (congrArg not Ac))
  | str j=>obtain ⟨t',rfl⟩:=a;exact PySem.EqMixed.ne_bool_str (aP I q (by simp))
  | _=>exact absurd (show false=true from b) G3
 | int i =>
  obtain ⟨t,rfl⟩:=c
  cases y with
  | non=>cases a;exact PySem.EqNone.ne_int_none (aP I q (by simp))
  | int j=>obtain ⟨t',rfl⟩:=a;exact ne_int (aP I q (congrArg not vw))
  | str j=>obtain ⟨t',rfl⟩:=a;exact PySem.EqMixed.ne_int_str (aP I q (by simp))
  | _=>exact absurd (show false=true from b) G3
 | str i =>
  obtain ⟨t,rfl⟩:=c
  cases y with
  | non=>cases a;exact PySem.EqNone.ne_str_none (aP I q (by simp))
  | bl j=>cases a;exact PySem.EqMixed.ne_str_bool (aP I q (by simp))
  | int j=>obtain ⟨t',rfl⟩:=a;exact PySem.EqMixed.ne_str_int (aP I q (by simp))
  | str j=>obtain ⟨t',rfl⟩:=a;exact ne_str (aP I q (congrArg not vv))
  | _=>exact absurd (show false=true from b) G3
 | byt i =>
  obtain ⟨t,rfl⟩:=c
  cases y with
  | byt j=>obtain ⟨t',rfl⟩:=a;exact PySem.W.ne_bytes (aP I q (congrArg not vz))
  | _=>exact absurd (show false=true from b) G3
 | _=>cases y <;> exact absurd (show false=true from b) G3
theorem uT:OpR X (compareOp .Lt) (rI0 λi j=>.bl (decide (i < j))):=BW λ_ _ _ _ _ _ _ q=>lt_int q
theorem lX:OpR X (compareOp .LtE) (rI0 λi j=>.bl (decide (i<=j))):=BW λ_ _ _ _ _ _ _ q=>le_int q
theorem Di:OpR X (compareOp .Gt) (rI0 λi j=>.bl (decide (j < i))):=BW λ_ _ _ _ _ _ _ q=>gt_int q
theorem op_ge:OpR X (compareOp .GtE) (rI0 λi j=>.bl (decide (j<=i))):=BW λ_ _ _ _ _ _ _ q=>ge_int q
theorem Fq:OpR X (compareOp .Is) (λx y H Q=>y=.non /\ Q (.bl (decide (x=.non))) H):=by
  intro pins s Y H x y v u Q I a b h
  obtain ⟨rfl,q⟩:=h
  cases b
  refine is_none_gen (aP I q ?_)
  cases x <;> first
    | (cases a; rfl)
    | (obtain ⟨t,rfl⟩:=a; rfl)
theorem OpR.or {f:Value->Value->Sem Value} {r c:R2} (h:OpR X f r) (h':OpR X f c):OpR X f (λx y H Q=>r x y H Q\/c x y H Q):=by
 intro pins s Y H x y v u Q I b a q
 rcases q with q | q
 .exact h pins s Y H x y v u Q I b a q
 .exact h' pins s Y H x y v u Q I b a q
theorem eZ (b:Expr) {op:CmpOp} (h:op≠.In:=by decide) (h2:op≠.NotIn:=by decide):behindInMarks op b=false:=by
  have e1:(op == CmpOp.In)=false:=by cases op <;> first | rfl | exact absurd rfl h
  have a:(op == CmpOp.NotIn)=false:=by cases op <;> first | rfl | exact absurd rfl h2
  cases b <;> simp[behindInMarks,e1,a]
theorem BQ {op:CmpOp} {r:R2} (g:OpR X (compareOp op) r) (c:PE X a ta) (d:PE X b tb) (hm:behindInMarks op b=false):PE X (.Compare a [op] [b] pos) (tOp r ta tb):=by
 intro pins s Y H Q I h
 exact wpAny_Compare1 (Gs c d I h λv u s2 x y H2 e i f q=>g pins s2 Y H2 x y v u Q e i f q) hm
def tTest (t:TE):TT:=λY H Q=>t Y H λx H'=>∃ k,x=.bl k/\Q k H'
theorem BE {op:CmpOp} {r:R2} (q:OpR X (compareOp op) r) (i:PE X a ta) (m:PE X b tb) (hm:behindInMarks op b=false):PT X (.Compare a [op] [b] pos) (tTest (tOp r ta tb)):=by
 intro pins s Y H Q I h
 refine wpAny_isTrue_Compare1 (thn (i pins s Y H _ I h) λv s1 #[x,H1,w,t,j]=>thn (m pins s1 Y H1 _ w j) λu s2 #[y,H2,n,f,d] =>
  thn (q pins s2 Y H2 x y v u _ n t f d) λc s3 #[z,g,o,l,k,e,p]=>?_) hm
 subst e
 cases l
 exact Hn #[g,o,p]
def sy (r c:R2) (ta tb tc:TE):TE:=λY H Q=>ta Y H λx H1=>tb Y H1 λy H2=>r x y H2 λz a=>∃ k,z=.bl k /\
 (if k=true then tc Y a λd b=>c y d b Q else Q (.bl false) a)
theorem qg {op f:CmpOp} {r l:R2} (L:OpR X (compareOp op) r) (g:OpR X (compareOp f) l) (F:PE X a ta) (w:PE X b tb) (D:PE X c tc)
  (hm:lastMarks [op,f] [b,c]=false:=by with_unfolding_all rfl):PE X (.Compare a [op,f] [b,c] pos) (sy r l ta tb tc):=by
 intro pins s Y H Q I h
 refine Compare_chain (thn (F pins s Y H _ I h) λv s1 #[x,H1,M,E,t]=>chain_link (thn (w pins s1 Y H1 _ M t) λu s2 #[y,H2,B,i,o] =>
  thn (L pins s2 Y H2 x y v u _ B E i o) λd s3 #[z,m,n,G,k,e,j]=>?_)) hm
 subst e
 cases G
 refine Hn ?_
 cases k with
 | false=>exact ite_ff #[.bl false,m,n,rfl,j]
 | true=>exact ite_tt (chain_last (thn (D pins s3 Y m _ n j) λq s4 #[K,C,A,J,p]=>g pins s4 Y C y K u q Q A i J p))
theorem j7:(sizeLine:Nat) < 2 ^ 63:=by rw[sizeLine_eq];decide
theorem op_add_str:OpR X (binaryOp .Add) (λx y H Q=>∃ i j,x=.str i/\y=.str j/\i.length+j.length<=sizeLine/\Q (.str (i++j)) H):=by
 intro pins s Y H x y v u Q I b a h
 obtain ⟨i,j,rfl,rfl,hz,q⟩:=h
 obtain ⟨t,rfl⟩:=b
 obtain ⟨t',rfl⟩:=a
 exact add_str (λt' tk=>#[.str (i++j),H,I.tok _,#[_,rfl],q]) hz
theorem eK {x:V} {us:List Value} (r:Vals [x] us):∃ u,us=[u]/\RelV x u:=by
 cases r with
 | cons r1 r2=>cases r2;exact #[_,rfl,r1]
theorem jb {x y:V} {us:List Value} (r:Vals [x,y] us):∃ u D,us=[u,D]/\RelV x u/\RelV y D:=by
 cases r with
 | cons r1 r2 =>
  cases r2 with
  | cons r3 r4=>cases r4;exact #[_,_,rfl,r1,r3]
theorem Aq:CallR X (.builtin "abs") (λxs H Q=>∃ i,xs=[.int i]/\Q (.int (if i < 0 then -i else i)) H):=by
 intro pins s Y H xs us Q I r h
 obtain ⟨i,rfl,q⟩:=h
 obtain ⟨u,rfl,t,rfl⟩:=eK r
 exact call_abs_int λu tk=>#[.int (if i < 0 then -i else i),H,I.tok _,#[_,rfl],q]
theorem xh (b:X.calm=true):CallR X (.builtin "max") (λxs H Q=>∃ i j,xs=[.int i,.int j]/\Q (.int (if j > i then j else i)) H):=by
 intro pins s Y H xs us Q I r h
 obtain ⟨i,j,rfl,q⟩:=h
 obtain ⟨u,c,rfl,⟨t,rfl⟩,⟨t',rfl⟩⟩:=jb r
 refine max_two_ints (I.ok.hd b) λh' tk k=>#[_,H,I.kept k,?_,q]
 by_cases a:j > i
 .rw[if_pos a,if_pos a];exact #[_,rfl]
 .rw[if_neg a,if_neg a];exact #[_,rfl]
theorem xg (b:X.calm=true):CallR X (.builtin "min") (λxs H Q=>∃ i j,xs=[.int i,.int j]/\Q (.int (if j < i then j else i)) H):=by
 intro pins s Y H xs us Q I r h
 obtain ⟨i,j,rfl,q⟩:=h
 obtain ⟨u,c,rfl,⟨t,rfl⟩,⟨t',rfl⟩⟩:=jb r
 refine min_two_ints (I.ok.hd b) λh' tk k=>#[_,H,I.kept k,?_,q]
 by_cases a:j < i
 .rw[if_pos a,if_pos a];exact #[_,rfl]
 .rw[if_neg a,if_neg a];exact #[_,rfl]
theorem rD:CallR X (.builtin "divmod") (λxs H Q=>∃ i j,xs=[.int i,.int j]/\xw i j/\∀ p,H p=none->Q (.ref p) (upd H p (.tup [.int (i / j),.int (i % j)]))):=by
 intro pins s Y H xs us Q I r h
 obtain ⟨i,j,rfl,⟨h1,h2⟩,q⟩:=h
 obtain ⟨u,c,rfl,⟨t,rfl⟩,⟨t',rfl⟩⟩:=jb r
 refine divmod_int (by omega) ?_ (.inl (PyProof.noPylong_small (by omega)))
 rw[Int.fdiv_eq_ediv_of_nonneg i (by omega),Int.fmod_eq_emod_of_nonneg i (by omega)]
 have a:H s.heap.objs.size=none:=I.hok.fresh (GZ _)
 refine #[.ref s.heap.objs.size,_,?_,rfl,q _ a]
 refine I.laid (λb o e=>GI _ e) (GZ _) #[by simp only[Hd,List.length_nil];rw[sizeLine_eq];decide,[.int (i / j) s.toks,.int (i % j) (s.toks+1)],.cons #[_,rfl] (.cons #[_,rfl] .nil),?_]
 exact #[_,GR s.heap rfl,rfl,0,rfl]
end
end L2
namespace L2
open PySem PySem.Spec PyProof.Rows
theorem RelO.some_of {v:V} {o:Option Value} (r:RelO (some v) o):∃ u,o=some u/\RelV v u:=by
 cases o with
 | none=>exact (show False from r).elim
 | some u=>exact #[u,rfl,r]
end L2
namespace L2
open PySem PySem.Spec PyProof.Rows
structure Room (k:Nat) (A:Around):Prop where
 hd:A.handled=none
 dp:A.depth+3 * k+5 < recursionLimit
 un:A.units+16 * k+200 < cLine
 gd:A.guards=some []
theorem Room.mono {j k:Nat} {A:Around} (r:Room k A) (h:j<=k):Room j A:=#[r.hd,by have:=r.dp;omega,by have:=r.un;omega,r.gd]
theorem Room.deeper {k:Nat} {A:Around} (r:Room (k+1) A) (env:Env):Room k (A.deeper env) :=
 #[r.hd,by have:=r.dp;show A.depth+1+3 * k+5 < _;omega,by have:=r.un;show A.units+3+16 * k+200 < _;omega,r.gd]
theorem Room.depth {k:Nat} {A:Around} (r:Room k A):A.depth < recursionLimit:=by have:=r.dp;omega
theorem Room.units {k:Nat} {A:Around} (r:Room k A):A.units+64 < cLine:=by have:=r.un;omega
def DR:TA:=λ_ H Q=>Q [] H
def uq (ta:TE) (a:TA):TA:=λY H Q=>ta Y H λx H1=>a Y H1 λxs H2=>Q (x::xs) H2
section
variable {X:Cx} {e:Expr} {es:List Expr} {te:TE} {t:TA} {pos:Pos}
theorem oN:PA X [] DR:=λ_ _ _ _ H Q I h=>Calls.spliced_nil #[[],H,I,.nil,h]
theorem jr (f:PE X e te) (d:PA X es t) (c:starEach (e::es) X.env=(false,eval e X.env)::starEach es X.env:=by rfl):PA X (e::es) (uq te t):=by
 intro pos pins s Y H Q I h
 rw[c]
 show wpAny _ _ (spliced ((false,eval e X.env)::backTo pos (starEach es X.env))) _ _ s
 refine Calls.spliced_cons (thn (f pins s Y H _ I h) λu s1 #[x,H1,k,j,g]=>?_)
 exact thn (d pos pins s1 Y H1 _ k g) λus s2 #[xs,H2,i,b,a]=>#[x::xs,H2,i,.cons j b,a]
def tTup (t:TA):TE:=λY H Q=>t Y H λxs H1=>xs.length<=sizeLine/\∀ p,H1 p=none->Q (.ref p) (upd H1 p (.tup xs))
def tLst (t:TA):TE:=λY H Q=>t Y H λxs H1=>xs.length<=sizeLine/\∀ p,H1 p=none->Q (.ref p) (upd H1 p (.lst xs))
theorem yY {x1} (h:PA X es t):PE X (.Tuple es x1 pos) (tTup t):=by
 intro pins s Y H Q I c
 refine wpAny_Tuple_spliced (thn (h pos pins s Y H _ I c) λus s1 #[xs,H1,a,r,z,q]=>#[by rw[<- r.length];exact z,?_])
 have hf:H1 s1.heap.objs.size=none:=a.hok.fresh (GZ _)
 refine #[.ref s1.heap.objs.size,upd H1 s1.heap.objs.size (.tup xs),a.laid (t':=s1.toks) (λb u e=>GI _ e) (GZ _) ?_,rfl,q _ hf]
 exact #[z,us,r,#[_,GR _ rfl,rfl,_,rfl]]
theorem E9 (h:PA X es t):PE X (.List es pos) (tLst t):=by
 intro pins s Y H Q I c
 refine wpAny_List_spliced (thn (h pos pins s Y H _ I c) λus s1 #[xs,H1,a,r,z,q]=>#[by rw[<- r.length];exact z,?_])
 have hf:H1 s1.heap.objs.size=none:=a.hok.fresh (GZ _)
 refine #[.ref s1.heap.objs.size,upd H1 s1.heap.objs.size (.lst xs),a.laid (t':=s1.toks) (λb u e=>GI _ e) (GZ _) ?_,rfl,q _ hf]
 exact #[z,us,0,r,GR _ rfl]
end
abbrev Sp:=List V->Hp->VK->XK->Prop
abbrev CXT:=List Env->Hp->Shared->XK->Value->Shared->Prop
structure Env0 (P:Program) (w:World) (K:FG) (mg:Str->Option Value) (base:Heap) (A:Around) (outer:List Env) (s:Shared) (H:Hp):Prop where
 frames:A.frames=some outer
 mod:Mod K mg base
 bs:∀ b o,base.get? b=some o->s.heap.get? b=some o/\H b=none
 bsz:base.objs.size<=s.heap.objs.size
 funs:s.heap.FunFrames base outer
 frf:∀ b∈frs outer,H b=none
 hok:HOk P w H s.heap
 bare:AllBare s.gens
def CE (outer:List Env) (P:Program) (w:World) (H:Hp) (s:Shared) (Q:VK) (u:Value) (s':Shared):Prop :=
 ∃ v H',s'.os=s.os/\AllBare s'.gens/\Un (frs outer) [] H H' s.heap s'.heap/\HOk P w H' s'.heap/\RelV v u/\Q v H'
def CR (CX:CXT) (outer:List Env) (P:Program) (w:World) (H:Hp) (s:Shared) (Q:VK) (E:XK) (r:Result) (s':Shared):Prop :=
 match r with
 | .ok (.ret u)=>CE outer P w H s Q u s'
 | .ok _=>False
 | .error e=>CX outer H s E e s'
structure FnOk (P:Program) (w:World) (K:FG) (mg:Str->Option Value) (base:Heap) (CX:CXT) (k:Nat) (f:Addr) (fd:FuncData) (ps:List Str) (sp:Sp):Prop where
 len:∀ vs H Q E,sp vs H Q E->vs.length=ps.length
 run:∀ (A:Around) (outer:List Env) (s:Shared) (H:Hp) (args:Args) (us:List Value) (vs:List V) (Q:VK) (E:XK),Room k A->Env0 P w K mg base A outer s H->BindsTo s fd args (ps.zip us)->Vals vs us->sp vs H Q E ->
  codeAny (model P w) A (.call (.ref f) args) (CR CX outer P w H s Q E) s
theorem FnOk.imp {P:Program} {w:World} {K:FG} {mg:Str->Option Value} {base:Heap} {CX:CXT} {k:Nat} {f:Addr} {fd:FuncData} {ps:List Str} {sp a:Sp} (F:FnOk P w K mg base CX k f fd ps sp)
  (h:∀ D H Q E,a D H Q E->sp D H Q E):FnOk P w K mg base CX k f fd ps a :=
 #[λD H Q E q=>F.len D H Q E (h _ _ _ _ q),λA outer s H args us D Q E c he d e b=>F.run A outer s H args us D Q E c he d e (h _ _ _ _ b)]
section
variable {X:Cx} {pins:List (Addr×Obj)} {Y:St} {H:Hp} {s s':Shared}
theorem Inv.env0 (I:Inv X pins Y H s):Env0 X.prog X.w X.K X.mg X.base X.A X.stack s H :=
 #[I.ok.frames,I.ok.mod,I.bs,Ho I.ok.bsz I.sz,I.stack,I.stkFree,I.hok,I.bare]
theorem Inv.after {Q:VK} {u:Value} (I:Inv X pins Y H s) (h:CE X.stack X.prog X.w H s Q u s'):EP X pins Y Q u s':=by
 obtain ⟨v,H',os,bare,un,hok,r,q⟩:=h
 obtain ⟨c,g,d,t,a⟩:=s'
 obtain rfl:a=s.os:=os
 exact #[v,H',I.call (h':=c) (g':=g) (d':=d) (t':=t) (ch:=[]) un hok bare (λb z=>absurd z (by simp)),r,q]
end
def tCall (sp:Sp) (dvs:List V) (E:XK) (t:TA):TE:=λY H Q=>t Y H λa H1=>sp (a++dvs) H1 Q E
def Binds (K:FG) (fd:FuncData) (ps:List Str) (ds:List Value):Prop :=
 ∀ (s:Shared) (us:List Value),K.In s.heap->(us++ds).length=ps.length->BindsTo s fd #[us,[]] (ps.zip (us++ds))
theorem Binds.all {K:FG} {fd:FuncData} {ps:List Str} (h:∀ us:List Value,us.length=ps.length->bindArgs fd #[us,[]]=pure (ps.zip us)):Binds K fd ps []:=λs us _ a=>by
 rw[List.append_nil] at a ⊢
 exact .of_eq (h us a)
def um (CX:CXT) (X:Cx) (E:XK):Prop:=∀ (pins:List (Addr×Obj)) (Y:St) (H:Hp) (s:Shared) (e:Value) (s':Shared),Inv X pins Y H s->CX X.stack H s E e s'->X.xe e s'
section
variable {X:Cx} {CX:CXT} {k:Nat} {f C:Addr} {fd:FuncData} {ps:List Str} {sp:Sp} {dvs:List V} {ds:List Value} {E:XK} {x m:Str} {p pos apos:Pos} {e o:Expr} {es:List Expr} {ta:TE} {t:TA}
set_option tactic.hygienic true in
theorem Es {pins:List (Addr×Obj)} {Y:St} {H:Hp} {s:Shared} {Q:VK} {us:List Value} {b:List V} (F:FnOk X.prog X.w X.K X.mg X.base CX k f fd ps sp) (j:Room k X.A) (d:Binds X.K fd ps ds) (hd:Vals dvs ds) (g:um CX X E)
  (I:Inv X pins Y H s) (r:Vals b us) (h:sp (b++dvs) H Q E):wpAny (model X.prog X.w) X.A (call (.ref f) us) (EP X pins Y Q) X.xe s:=by
 have c:Vals (b++dvs) (us++ds):=r.append hd
 have i:(us++ds).length=ps.length:=by rw[<- c.length];exact F.len _ _ _ _ h
 refine wpAny_call (codeAny_mono (F.run X.A X.stack s H #[us,[]] (us++ds) (b++dvs) Q E j I.env0 (d s us I.kIn i) c h) λr s' a=>?_)
 cases r with
 | error e=>exact g pins Y H s e s' I a
 | ok fl =>
  cases fl with
  | ret u=>exact I.after a
  | next=>exact False.elim a
  | brk=>exact False.elim a
  | cont=>exact False.elim a
theorem BR (F:FnOk X.prog X.w X.K X.mg X.base CX k f fd ps sp) (g:Room k X.A) (d:Gl X x) (hm:X.mg x=some (.ref f)) (j:PySem.W.keepIn X.K (.ref f)=true) (l:Binds X.K fd ps ds) (hd:Vals dvs ds) (m:um CX X E)
  (i:PA X (e::es) t) (a:(x == ("__debug__":Str))=false:=by decide) (he:starEach (e::es) X.env=(false,eval e X.env)::starEach es X.env:=by rfl) (b:(backTo pos (starEach es X.env)).any (·.1)=false:=by rfl) :
  PE X (.Call (.Name x p) (e::es) [] pos) (tCall sp dvs E t):=by
 intro pins s Y H Q I h
 refine wpAny_Call_Name_kw (u7 I d hm ?_ a)
 refine PySem.W.callWith_K (h₀:=X.base) I.ok.mod.kin j (thn (i pos pins s Y H _ I h) λus s1 #[n,H1,c,r,q]=>#[c.kIn,?_]) he b
 exact Es F g l hd m c r q
end
structure FnScope (N P:List Str) (sc:Scope):Prop where
 kind:sc.kind=.function
 co:sc.isCoroutine=false
 gen:sc.isGenerator=false
 nd:N.Nodup
 pre:N.take P.length=P
 par:∀ x∈P,sc.names.lookup x=some .local\/sc.names.lookup x=some .cell
 nofree:∀ y∈sc.names,y.2≠.free
theorem nW {kindOf:Str->Option NameKind} {x:Str}:∀ {binds:List (Str×Value)} {m:Str->Option Value},(∀ v,(x,v) ∉ binds)->bindL kindOf binds m x=m x
 | [],_,_=>rfl
 | (n,v)::r,m,h=>by
  unfold bindL
  rw[nW λw hw=>h w (GH _ hw)]
  split
  .have:x≠n:=by rintro rfl;exact h v GG
   simp[this]
  .rfl
theorem nY {kindOf:Str->Option NameKind} {x:Str}:∀ {binds:List (Str×Value)} {m:Str->Option Value},(∀ v,(x,v) ∉ binds)->bindC kindOf binds m x=m x
 | [],_,_=>rfl
 | (n,v)::r,m,h=>by
  unfold bindC
  rw[nY λw hw=>h w (GH _ hw)]
  split
  .rfl
  .have:x≠n:=by rintro rfl;exact h v GG
   simp[this]
theorem nX {kindOf:Str->Option NameKind} {x:Str} {v:Value}:∀ {P:List Str} {a:List Value} {i:Nat} {m:Str->Option Value},P.Nodup->P[i]?=some x->a[i]?=some v->kindOf x=some .local ->
  bindL kindOf (P.zip a) m x=some v
 | [],_,_,_,_,h,_,_=>by simp at h
 | _::_,[],_,_,_,_,h,_=>by simp at h
 | p::P,w::a,0,m,nd,h1,h2,hk=>by
  simp at h1 h2;subst h1;subst h2
  show bindL kindOf ((p,w)::P.zip a) m p=_
  unfold bindL
  rw[nW λv D=>(List.nodup_cons.mp nd).1 (List.of_mem_zip D).1,if_pos hk]
  simp
 | p::P,w::a,i+1,m,nd,h1,h2,hk=>by
  show bindL kindOf ((p,w)::P.zip a) m x=_
  unfold bindL
  exact nX (i:=i) (List.nodup_cons.mp nd).2 (by simpa using h1) (by simpa using h2) hk
theorem nZ {kindOf:Str->Option NameKind} {x:Str} {v:Value}:∀ {P:List Str} {a:List Value} {i:Nat} {m:Str->Option Value},P.Nodup->P[i]?=some x->a[i]?=some v->kindOf x≠some .local ->
  bindC kindOf (P.zip a) m x=some v
 | [],_,_,_,_,h,_,_=>by simp at h
 | _::_,[],_,_,_,_,h,_=>by simp at h
 | p::P,w::a,0,m,nd,h1,h2,hk=>by
  simp at h1 h2;subst h1;subst h2
  show bindC kindOf ((p,w)::P.zip a) m p=_
  unfold bindC
  rw[nY λv D=>(List.nodup_cons.mp nd).1 (List.of_mem_zip D).1,if_neg hk]
  simp
 | p::P,w::a,i+1,m,nd,h1,h2,hk=>by
  show bindC kindOf ((p,w)::P.zip a) m x=_
  unfold bindC
  exact nZ (i:=i) (List.nodup_cons.mp nd).2 (by simpa using h1) (by simpa using h2) hk
def kC (N:List Str) (a:List V):St:=a.map some++List.replicate (N.length - a.length) none
def re (CX:CXT) (P:Program) (w:World) (K:FG) (mg:Str->Option Value) (base:Heap) (N:List Str) (qual:Str) (scope:Scope) (f:Addr) (cd:Value) (A:Around) (outer:List Env) (s:Shared) (H:Hp) (E:XK):Cx where
 prog:=P
 w:=w
 K:=K
 mg:=mg
 base:=base
 A:=A.deeper (envOfC qual scope s.heap.objs.size f cd)
 N:=N
 s₀:=s
 H₀:=H
 env:=envOfC qual scope s.heap.objs.size f cd
 outer:=outer
 stack:=envOfC qual scope s.heap.objs.size f cd::outer
 ex:=[]
 calm:=true
 fn:=λ_=>true
 pn:=[]
 xe:=λe s'=>wpAny (model P w) (A.deeper (envOfC qual scope s.heap.objs.size f cd)) (leaving (envOfC qual scope s.heap.objs.size f cd) e) (λ_ a=>CX outer H s E e a) (λb a=>CX outer H s E b a) s'
theorem rB {sc:Scope} {n:Nat} {x:Str} (h:sc.names.lookup x=some .cell):∃ c,(cellsFrom n sc.names []).lookup x=some c:=by
 have q:=PySem.W.cellsFrom_some sc.names n [] (.inl h)
 exact Option.isSome_iff_exists.mp q
theorem wQ {CX:CXT} {P:Program} {w:World} {K:FG} {mg:Str->Option Value} {base:Heap} {N ps:List Str} {qual:Str} {scope:Scope} {f:Addr} {cd:Value} {A:Around} {outer:List Env} {s s1:Shared} {H:Hp} {E:XK} {us:List Value} {l:List V}
  (S:FnScope N ps scope) (hd:A.handled=none) (d:Env0 P w K mg base A outer s H) (F:l.length=ps.length) (r:Vals l us)
  (x:InCallC s s.heap.objs.size (bindL (envOfC qual scope s.heap.objs.size f cd).kindOf (ps.zip us) λ_=>none) (cellsFrom (s.heap.objs.size+1) scope.names []) (bindC (envOfC qual scope s.heap.objs.size f cd).kindOf (ps.zip us) λ_=>none) s1) :
  Inv (re CX P w K mg base N qual scope f cd A outer s H E) [] (kC N l) H s1:=by
 have B:ps.length<=N.length:=by have:=congrArg List.length S.pre;rw[He] at this;omega
 obtain ⟨h1,tk,rfl,t⟩:=x.done
 have g:∀ b:Addr,b ∉ (re CX P w K mg base N qual scope f cd A outer s H E).ex:=λb z=>absurd (show b∈([]:List Addr) from z) (by simp)
 refine ⟨⟨d.mod,S.kind,rfl,rfl,GZ _,λy z c h1 h2=>?_,λy j=>?_,λy c _ h=>?_,λ_=>hd,Around.frames_deeper d.frames,.inr ⟨rfl,rfl⟩,λb z=>absurd z (g b),d.bs,d.bsz,λb _ _=>g b,λb z=>absurd z (g b),d.funs,d.frf⟩,
  rfl,d.bare,Un.kept t,⟨_,x.toInCall.ns,λi y v h1 h2 h3=>?_⟩,λy c h=>⟨_,x.cell y c h⟩,d.hok.fresh (GZ _),λy c h=>?_,λp o=>absurd (show p∈([]:List (Addr×Obj)) from o) (by simp),d.hok.kept t,?_⟩
 .exact name_of_addr x.apart (PySem.mem_of_lookup h1) (PySem.mem_of_lookup h2)
 .have j:scope.names.lookup y=some .cell\/scope.names.lookup y=some .free:=j
  rcases j with j | j
  .exact rB j
  .exact absurd rfl (S.nofree _ (PySem.mem_of_lookup j))
 .exact Nat.le_of_lt (x.above y c (PySem.mem_of_lookup h))
 .have hi:i < l.length:=by
   unfold kC at h2
   by_cases hi:i < l.length
   .exact hi
   .rw[List.getElem?_append_right (by simpa using hi)] at h2
    rw[List.getElem?_replicate] at h2
    split at h2 <;> cases h2
  have C:l[i]?=some v:=by
   unfold kC at h2
   rw[Hk (by simpa using hi),GY] at h2
   cases e:l[i]? with
   | none=>rw[e] at h2;cases h2
   | some a=>rw[e] at h2;cases h2;rfl
  obtain ⟨u,hu,D⟩:=r.get C
  have o:ps[i]?=some y:=by
   rw[<- S.pre,List.getElem?_take_of_lt (by omega)];exact h1
  have m:ps.Nodup:=by rw[<- S.pre];exact S.nd.sublist (List.take_sublist _ _)
  refine #[u,D,?_]
  rcases S.par y (GV o) with k | k
  .exact .inl #[k,nX m o hu k]
  .obtain ⟨c,e⟩:=rB (n:=s.heap.objs.size+1) k
   refine .inr #[.inl k,c,e,?_]
   have q:=x.cell y c e
   rw[nZ m o hu (by show scope.names.lookup y≠_;rw[k];decide)] at q
   exact q
 .exact d.hok.fresh (Nat.le_of_lt (x.above y c (PySem.mem_of_lookup h)))
 .unfold kC
  show _=N.length
  rw[Hc,GS,List.length_replicate]
  lia
set_option tactic.hygienic true in
theorem fn_of {CX:CXT} {P:Program} {w:World} {K:FG} {mg:Str->Option Value} {base:Heap} {k:Nat} {f:Addr} {name qual:Str} {params:Arguments} {body:List Stmt} {scope:Scope} {C kV doc pm a ct T:Value} {an G:Option Addr}
  {l:Array (Option Value)} {N ps:List Str} {sp:Sp} (D:K.lookup f=some #[T,G,.func (PySem.W.fnOf name qual params body scope C kV doc pm an a ct),l]) (m:PySem.W.codeIn K a qual=true) (S:FnScope N ps scope)
  (len:∀ c H Q E,sp c H Q E->c.length=ps.length)
  (d:∀ (A:Around) (outer:List Env) (s:Shared) (H:Hp) (c:List V) (Q:VK) (E:XK),Room k (A.deeper (envOfC qual scope s.heap.objs.size f a))->sp c H Q E ->
   ∃ t,PSs (re CX P w K mg base N qual scope f a A outer s H E) body t/\t { nx:=λ_ H'=>Q .non H',rt:=Q } (kC N c) H) :
  FnOk P w K mg base CX (k+1) f (PySem.W.fnOf name qual params body scope C kV doc pm an a ct) ps sp:=by
 refine #[len,λA outer s H args us c Q E p i F r j=>?_]
 have L:=len _ _ _ _ j
 have B:K.In s.heap:=i.mod.kin.keeps λb o e=>(i.bs b o e).1
 have lim:s.heap.NoLimit:=i.mod.nolimit.keeps λb o e=>(i.bs b o e).1
 have g:∀ y∈ps.zip us,scope.names.lookup y.1=some .local\/(scope.names.lookup y.1=some .cell/\((cellsFrom (s.heap.objs.size+1) scope.names []).lookup y.1).isSome=true):=λ#[n,v] O=>by
  rcases S.par n (List.of_mem_zip O).1 with q | q
  .exact .inl q
  .exact .inr #[q,PySem.W.cellsFrom_some _ _ _ (.inl q)]
 refine codeAny_call_function p.depth (B _ _ D) rfl S.co S.gen rfl (PySem.W.codeRec_of B m) (F _ _ _ _ ?_)
 refine wpAny_newFunctionEnv_cells S.kind g λenv he s1 x=>?_
 subst he
 refine #[lim.keeps x.toInCall.keep,codeAny_func ?_]
 obtain ⟨t,M,R⟩:=d A outer s H c Q E (p.deeper _) j
 have I:Inv (re CX P w K mg base N qual scope f a A outer s H E) [] (kC N c) H s1:=wQ S p.hd i L r x
 refine wpAny_mono (M [] s1 (kC N c) H _ I R) (λfl s' h=>?_) λe s' h=>h
 have fin:∀ {Y':St} {H':Hp} {v:V} {u:Value},Inv (re CX P w K mg base N qual scope f a A outer s H E) [] Y' H' s'->RelV v u->Q v H'->CE outer P w H s Q u s' :=
  λ{Y' H' v u} J z q=>#[v,H',J.os,J.bare,J.base,J.hok,z,q]
 cases fl with
 | ret u =>
  obtain ⟨v,Y',H',J,z,q⟩:=h
  exact fin J z q
 | next =>
  obtain ⟨Y',H',J,q⟩:=h
  exact fin (v:=V.non) (u:=Value.none) J rfl q
 | brk =>
  obtain ⟨_,_,_,q⟩:=h
  exact False.elim q
 | cont =>
  obtain ⟨_,_,_,q⟩:=h
  exact False.elim q
end L2
namespace L2
open PySem PySem.Spec PyProof.Rows
section
variable {X:Cx} {x:Str} {p pos:Pos} {e:Expr} {es:List Expr} {t:TA} {id T:String} {r:List V->Hp->VK->Prop}
def tCB (r:List V->Hp->VK->Prop) (t:TA):TE:=λY H Q=>t Y H λa H1=>r a H1 Q
theorem lW (k:CallR X (.builtin id) r) (d:Gl X x) (hm:X.mg x=none) (j:bootBuiltins x=some (.builtin id)) (f:PA X (e::es) t) (i:x≠"__name__":=by decide) (a:(x == ("__debug__":Str))=false:=by decide)
  (he:starEach (e::es) X.env=(false,eval e X.env)::starEach es X.env:=by rfl) (b:(backTo pos (starEach es X.env)).any (·.1)=false:=by rfl):PE X (.Call (.Name x p) (e::es) [] pos) (tCB r t):=by
 intro pins s Y H Q I h
 refine wpAny_Call_Name_kw (j9 I d hm j ?_ i a)
 exact PyProof.Rows.callWith_builtin1 (thn (f pos pins s Y H _ I h) λus s1 #[c,H1,m,l,g]=>k pins s1 Y H1 c us Q m l g) he b
theorem wn (k:CallR X (.type T) r) (d:Gl X x) (hm:X.mg x=none) (j:bootBuiltins x=some (.type T)) (f:PA X (e::es) t) (i:x≠"__name__":=by decide) (a:(x == ("__debug__":Str))=false:=by decide)
  (he:starEach (e::es) X.env=(false,eval e X.env)::starEach es X.env:=by rfl) (b:(backTo pos (starEach es X.env)).any (·.1)=false:=by rfl):PE X (.Call (.Name x p) (e::es) [] pos) (tCB r t):=by
 intro pins s Y H Q I h
 refine wpAny_Call_Name_kw (j9 I d hm j ?_ i a)
 exact PyProof.Rows.callWith_type1 (thn (f pos pins s Y H _ I h) λus s1 #[c,H1,m,l,g]=>k pins s1 Y H1 c us Q m l g) he b
end
end L2
namespace HT
open PySem PyProof.Rows
def lexLt:List Int->List Int->Bool
 | [],[]=>false
 | [],_::_=>true
 | _::_,[]=>false
 | x::xs,y::ys=>if x=y then lexLt xs ys else decide (x < y)
theorem lexLt_cons (x y:Int) (xs ys:List Int):lexLt (x::xs) (y::ys)=if x=y then lexLt xs ys else decide (x < y):=rfl
theorem lexLt_nil_nil:lexLt [] []=false:=rfl
theorem lexLt_nil_cons (y:Int) (ys:List Int):lexLt [] (y::ys)=true:=rfl
theorem lexLt_cons_nil (x:Int) (xs:List Int):lexLt (x::xs) []=false:=rfl
theorem zZ (A:Around) (s:Shared) (a:Int) (t:Tok) (c:Int) (u:Tok):∃ e,SeqAt.EqAt A s (.int a t) (.int c u) e/\(e=true ↔ a=c) :=
 #[(a == c),SeqAt.EqAt.int_int a t c u,by simp]
theorem rcLt_int (A:Around) (s:Shared) (a:Int) (t:Tok) (c:Int) (u:Tok) (prog:Program) (w:World) (E:Value->Shared->Prop) (Q:Value->Shared->Prop) (h:Q (.bool (decide (a < c))) s) :
  wpAny (model prog w) A (richCompare .Lt (.int a t) (.int c u)) Q E s :=
 (PyProof.Rows.lt_int h:wpAny (model prog w) A (compareOp .Lt (.int a t) (.int c u)) Q E s)
section
open PySem.SeqAt
open PySem.AutoSeq1 (wpAny_loadPart')
open PySem.MeetsSeq PySem.MeetsSeq2 PySem.MeetsSeq3
set_option tactic.hygienic true in
theorem tuple_lt_ints (l b:Addr) (items f:Array Value) (n G:Nat) (H C:Option Addr) (sl D:Array (Option Value)) (ns ms:List Int) (hi:IntsAre items.toList ns) (E:IntsAre f.toList ms) :
  Meets (Builtin.«tuple.__lt__» #[[.ref l,.ref b],[]])
   (λ_ R s=>s.heap.get? l=some { cls:=.type "tuple",dict:=H,data:=.seq items n,slots:=sl }/\s.heap.get? b=some { cls:=.type "tuple",dict:=C,data:=.seq f G,slots:=D } /\
    R (.ok (.ret (.bool (lexLt ns ms)))) s) :=
 .of_wp λprog w A R s h=>by
  obtain ⟨z,g,d,tk,os⟩:=s;obtain ⟨J,I,h⟩:=h
  have f2:=AutoSeq1.sub_tuple_tuple
  have L:items.size=ns.length:=by rw[<- hi.length];simp
  have K:f.size=ms.length:=by rw[<- E.length];simp
  wp_walk using wpAny_loadPart' J,wpAny_loadPart' I,wpAny_forIn_list _ (λdq b s'=>b.1=none/\s'=#[z,g,d,tk,os]/\∃ (v ws:List Value) (i j:List Int),dq=v.zip ws /\
   IntsAre v i/\IntsAre ws j/\i.length+f.size=j.length+items.size/\R (.ok (.ret (.bool (lexLt i j)))) #[z,g,d,tk,os]) _
  case turn =>
   rintro ⟨y,x⟩ dq b s' ⟨r,rfl,v,ws,i,j,hz,p,k,hlen,m⟩
   cases p with
   | nil=>rw[List.zip_nil_left] at hz;cases hz
   | cons a t hvi' =>
    cases k with
    | nil=>rw[List.zip_nil_right] at hz;cases hz
    | cons c u hwi' =>
     rw[List.zip_cons_cons] at hz
     injection hz with hyx hrest
     injection hyx with hy hx
     subst hy hx
     rw[lexLt_cons] at m
     simp only[Hd] at hlen
     obtain ⟨e,he,o⟩:=zZ A.in1 #[z,g,d,tk,os] a t c u
     refine GC (he prog w _ _ ?_)
     cases e with
     | true =>
      rw[if_pos (o.mp rfl)] at m
      wp_walk
      exact #[rfl,rfl,_,_,_,_,hrest,hvi',hwi',by omega,m]
     | false =>
      rw[if_neg (λq=>absurd (o.mpr q) G3)] at m
      have B:=rcLt_int A.in1 #[z,g,d,tk,os] a t c u prog w
      wp_walk using B
      exact #[_,rfl,by simpa using m]
  case fin =>
   rintro ⟨b1,b2⟩ s' ⟨r,rfl,v,ws,i,j,hz,p,k,hlen,m⟩
   simp only at r
   subst r
   have F:lexLt i j=decide (items.size < f.size):=by
    cases p with
    | nil =>
     cases k with
     | nil =>
      simp only[List.length_nil] at hlen
      rw[lexLt_nil_nil]
      exact (G8 (by omega)).symm
     | cons c u hw =>
      simp only[List.length_nil,Hd] at hlen
      rw[lexLt_nil_cons]
      exact (G7 (by omega)).symm
    | cons a t F =>
     cases k with
     | nil =>
      simp only[List.length_nil,Hd] at hlen
      rw[lexLt_cons_nil]
      exact (G8 (by omega)).symm
     | cons c u hw =>
      rw[List.zip_cons_cons] at hz
      cases hz
   rw[F] at m
   wp_walk
   exact #[_,rfl,by simpa[Builtin.Tuple.tupleCompareSizes] using m]
  case h =>
   exact #[rfl,rfl,items.toList,f.toList,ns,ms,rfl,hi,E,by omega,h]
end
section
variable {prog:Program} {w:World} {A:Around} {E:Value->Shared->Prop} {s:Shared}
theorem lt_tupInts {l b:Addr} {items a:Array Value} {ns ms:List Int} {Q:Value->Shared->Prop} (q:IsTup s.heap l items) (p:IsTup s.heap b a) (hi:IntsAre items.toList ns) (o:IntsAre a.toList ms)
  (hu:A.units < cLine) (h:Q (.bool (lexLt ns ms)) s):wpAny (model prog w) A (compareOp .Lt (.ref l) (.ref b)) Q E s:=by
 obtain ⟨⟨cls,m,data,sl⟩,i,j,n,hd⟩:=id q
 obtain ⟨⟨g,f,data2,e⟩,c,d,k,hd2⟩:=id p
 simp only at j hd d hd2
 subst j hd d hd2
 exact richCompare_meets_room (op:=.Lt) #[_,i,rfl] #[_,c,rfl] PySem.F.slot_tuple_lt PySem.F.entry_tuple_lt (PySem.F.args_tuple_lt_2 _ _) (tuple_lt_ints l b items a n k m f sl e ns ms hi o)
  #[i,c,show Value.bool (lexLt ns ms)≠Value.notImplemented/\Q (.bool (lexLt ns ms)) s from #[(λx=>nomatch x),h]] hu
theorem cat_tup {t b:Addr} {c ws:List Value} {Q:Value->Shared->Prop} (o:IsTup s.heap t c.toArray) (p:IsTup s.heap b ws.toArray) (l:c≠[])
  (h1:ws=[]->Q (.ref t) s) (h2:ws≠[]->Q (.ref s.heap.objs.size) { s with heap:=s.heap.push { cls:=.type "tuple",data:=.seq (c++ws).toArray } })
  (hsz:c.length+ws.length<=sizeLine):wpAny (model prog w) A (binaryOp .Add (.ref t) (.ref b)) Q E s:=by
 obtain ⟨⟨cls,j,data,sl⟩,h,m,n,hd⟩:=id o
 obtain ⟨⟨k,g,data2,d⟩,a,f,i,hd2⟩:=id p
 simp only at m hd f hd2
 subst m hd f hd2
 have e:c.toArray++ws.toArray=(c++ws).toArray:=by simp
 by_cases hw:ws=[]
 .exact concat_meets #[_,h,rfl] #[_,a,rfl] noFill_tuple_add seq_tuple_add PySem.F.slot_tuple_add PySem.F.entry_tuple_add (PySem.F.args_tuple_add_2 _ _)
   (tuple_addW1 t b c.toArray ws.toArray n i j g sl d (by simpa using l) (by simp[hw])) #[h,a,h1 hw]
 .refine concat_meets #[_,h,rfl] #[_,a,rfl] noFill_tuple_add seq_tuple_add PySem.F.slot_tuple_add PySem.F.entry_tuple_add (PySem.F.args_tuple_add_2 _ _)
   (tuple_addW2 t b c.toArray ws.toArray n i j g sl d (by simpa using l) (by simpa using hw) (by rw[G5,G5];exact hsz)) #[h,a,?_]
  rw[e]
  exact h2 hw
def sIx (n d:Nat):Option Int->Nat
 | none=>d
 | some v=>if v < 0 then (v+(n:Int)).toNat else min v.toNat n
theorem Eo (n d:Nat) (hd:d<=n) (o:Option Int):sIx n d o<=n:=by
 cases o with
 | none=>exact hd
 | some v =>
  show (if v < 0 then (v+(n:Int)).toNat else min v.toNat n)<=n
  by_cases a:v < 0
  .rw[if_pos a];omega
  .rw[if_neg a];exact Nat.min_le_right _ _
theorem vD (v:Int) (n d:Nat):(if v < 0 then max (v+(n:Int)) 0 else min v (n:Int))=((sIx n d (some v):Nat):Int):=by
 show (if v < 0 then max (v+(n:Int)) 0 else min v (n:Int))=(((if v < 0 then (v+(n:Int)).toNat else min v.toNat n):Nat):Int)
 by_cases a:v < 0
 .simp only[if_pos a];omega
 .simp only[if_neg a];omega
theorem uk (lo hi:Option Int) (n:Nat):Builtin.Slice.sliceAdjust lo hi 1 (n:Int)=(((sIx n 0 lo:Nat):Int),((sIx n n hi:Nat):Int)):=by
 have h1:¬ ((1:Int) < 0):=by omega
 unfold Builtin.Slice.sliceAdjust
 simp only[h1,if_false]
 refine Prod.ext ?_ ?_
 .cases lo with
  | none=>rfl
  | some v=>exact vD v n 0
 .cases hi with
  | none=>rfl
  | some v=>exact vD v n n
theorem sS (i j:Nat):Builtin.Slice.slicePlaces (i:Int) (j:Int) 1=j - i:=by
 unfold Builtin.Slice.slicePlaces
 have h1:(1:Int) > 0:=by omega
 simp only[h1,if_true,Int.ediv_one]
 split <;> lia
theorem lF {v:Value} {o:Option Int} {Q:Option Int->Shared->Prop} (p:IsPart v o) (h:Q o s):wpAny (model prog w) A (Builtin.Slice.slicePartIndex v) Q E s:=by
 cases p with
 | none=>exact slicePart_none h
 | int i t=>exact slicePart_int h
theorem fq {sl:Addr} {d c:Value} {lo hi:Option Int} {n:Nat} {Q:Int×Int×Nat->Shared->Prop} (e:s.heap.IsSliceOf sl d c .none) (pl:IsPart d lo) (pu:IsPart c hi)
  (h:Q (((sIx n 0 lo:Nat):Int),1,sIx n n hi - sIx n 0 lo) s):wpAny (model prog w) A (Builtin.Slice.sliceApplied (.ref sl) (pure (n:Int))) Q E s:=by
 obtain ⟨os,b,f,a⟩:=id e
 unfold Builtin.Slice.sliceApplied Builtin.Slice.sliceFields
 refine GC (GC (wpAny_field b a (x:=d) rfl (GC (wpAny_field b a (x:=c) rfl (GC (wpAny_field b a (x:=.none) rfl (GD ?_)))))))
 refine GC (slicePart_none ?_)
 show wpAny _ _ (if ((1:Int) == 0)=true then _ else _) _ _ s
 rw[if_neg (by decide)]
 refine GC (lF pl (GC (lF pu (GC (GD ?_)))))
 show wpAny _ _ (match Builtin.Slice.sliceAdjust lo hi 1 (n:Int) with | (lo,hi)=>pure (lo,(1:Int),Builtin.Slice.slicePlaces lo hi 1)) _ _ s
 rw[uk lo hi n]
 show wpAny _ _ (pure (((sIx n 0 lo:Nat):Int),(1:Int),Builtin.Slice.slicePlaces ((sIx n 0 lo:Nat):Int) ((sIx n n hi:Nat):Int) 1)) _ _ s
 rw[sS]
 exact GD h
theorem yV (xs:Array Value) (i k:Nat):((List.range k).filterMap λ(m:Nat)=>xs[((i:Int)+(m:Int) * 1).toNat]?).toArray=((xs.toList.drop i).take k).toArray:=by
 have e:(λ(m:Nat)=>xs[((i:Int)+(m:Int) * 1).toNat]?)=λm=>xs[i+m]?:=by
  funext m
  have:((i:Int)+(m:Int) * 1).toNat=i+m:=by omega
  rw[this]
 rw[e]
 have:=pick_run xs i k
 rw[List.filterMap_map] at this
 have a:((λx=>xs[x]?) ∘ λx=>i+x)=λm=>xs[i+m]?:=rfl
 rw[a] at this
 rw[this]
theorem getItem_tuple_cut {t sl:Addr} {items:Array Value} {j i:Value} {lo hi:Option Int} {Q:Value->Shared->Prop} (b:IsTup s.heap t items) (g:s.heap.IsSliceOf sl j i .none) (pl:IsPart j lo) (pu:IsPart i hi)
  (hw:¬ (sIx items.size 0 lo=0/\sIx items.size items.size hi=items.size))
  (h:Q (.ref s.heap.objs.size) { s with heap:=s.heap.push { cls:=.type "tuple",data:=.seq ((items.toList.drop (sIx items.size 0 lo)).take (sIx items.size items.size hi - sIx items.size 0 lo)).toArray } })
  (hsz:items.size<=sizeLine):wpAny (model prog w) A (getItem (.ref t) (.ref sl)) Q E s:=by
 have a:sizeOk (.seq ((items.toList.drop (sIx items.size 0 lo)).take (sIx items.size items.size hi - sIx items.size 0 lo)).toArray):=by
  show ((items.toList.drop (sIx items.size 0 lo)).take (sIx items.size items.size hi - sIx items.size 0 lo)).toArray.size<=sizeLine
  rw[G5,He,List.length_drop,Array.length_toList]
  lia
 have n:sIx items.size items.size hi<=items.size:=Eo _ _ (GZ _) hi
 obtain ⟨os,d,c,k⟩:=id g
 have f:s.TypeIs (.ref sl) "slice":=#[os,d,c]
 unfold getItem
 try with_reducible refine GF ?_
 first | refine GC (GD ?_) | skip
 refine GC (wpAny_sequenceKey b.typeIs (by decide) ?_)
 refine GC (wpAny_callSpecial?_slot (name:=Str.ofString "__getitem__") b.typeIs PyProof.Rows.slot_tuple_getitem
  (wpAny_call_entry PyProof.Rows.slot_tuple_getitem b.typeIs entry_tuple_getitem ?_ (args_tuple_getitem _ _)))
 show wpAny _ _ (Builtin.Tuple.tupleItemsOf (.ref t) >>= _) _ _ s
 refine GC (tupleItemsOf_ b ?_)
 refine GC (wpAny_typeOf f ?_)
 rw[if_pos (by decide)]
 refine GC (fq g pl pu ?_)
 have e:¬ ((((sIx items.size 0 lo:Nat):Int) == 0 && (1:Int) == 1 && (sIx items.size items.size hi - sIx items.size 0 lo) == items.size)=true):=by
  intro q
  rw[Bool.and_eq_true,Bool.and_eq_true] at q
  have o:((sIx items.size 0 lo:Nat):Int)=0:=eq_of_beq q.1.1
  have l:sIx items.size items.size hi - sIx items.size 0 lo=items.size:=eq_of_beq q.2
  exact hw #[by omega,by omega]
 show wpAny _ _ (if (((sIx items.size 0 lo:Nat):Int) == 0 && (1:Int) == 1 && (sIx items.size items.size hi - sIx items.size 0 lo) == items.size)=true then _ else _) _ _ s
 rw[if_neg e,yV]
 first
  | exact GC (m:=Builtin.Tuple.tupleExact _) (wpAny_newObj_type (GD #[_,rfl,GD h]) a)
  | exact GC (m:=Builtin.Tuple.tupleExact _) (wpAny_newObj_type (GC (GD (GD #[_,rfl,GD h]))) a)
  | exact GC (GC (m:=Builtin.Tuple.tupleExact _) (wpAny_newObj_type (GD (GD #[_,rfl,GD h])) a))
  | exact GC (GC (m:=Builtin.Tuple.tupleExact _) (wpAny_newObj_type (GD #[_,rfl,GD h]) a))
end
end HT
namespace L2
open PySem PySem.Spec PyProof.Rows
abbrev TO:=St->Hp->(Option Int->Hp->Prop)->Prop
def PO (X:Cx) (e:Option Expr) (t:TO):Prop :=
 ∀ (pins:List (Addr×Obj)) (s:Shared) (Y:St) (H:Hp) (Q:Option Int->Hp->Prop),Inv X pins Y H s->t Y H Q ->
  wpAny (model X.prog X.w) X.A (evalPart e X.env) (λu s'=>∃ o H',Inv X pins Y H' s'/\IsPart u o/\Q o H') X.xe s
def AO:TO:=λ_ H Q=>Q none H
def tPart (t:TE):TO:=λY H Q=>t Y H λx H1=>∃ i,x=.int i/\Q (some i) H1
theorem mh {ns:List Int}:∀ {us:List Value},Vals (ns.map V.int) us->IntsAre us ns:=by
 induction ns with
 | nil=>intro us r;rw[List.map_nil] at r;cases r;exact .nil
 | cons n ns ih =>
  intro us r
  rw[G6] at r
  cases r with
  | cons r1 r2 =>
   obtain ⟨t,e⟩:=r1
   subst e
   exact .cons n t (ih r2)
section
variable {X:Cx} {e:Expr} {te:TE} {lo hi:Option Expr} {tl th:TO} {pos p2:Pos}
theorem BK:PO X none AO:=by
 intro pins s Y H Q I h
 rw[evalPart_none]
 exact GD #[none,H,I,.none,h]
theorem BJ (h:PE X e te):PO X (some e) (tPart te):=by
 intro pins s Y H Q I hw
 rw[evalPart_some]
 refine thn (h pins s Y H _ I hw) λu s1 #[x,H1,c,b,a]=>?_
 obtain ⟨i,rfl,q⟩:=a
 obtain ⟨t,rfl⟩:=b
 exact #[some i,H1,c,.int i t,q]
def SlR (X:Cx) (r:V->Option Int->Option Int->Hp->VK->Prop):Prop :=
 ∀ (pins:List (Addr×Obj)) (s:Shared) (Y:St) (H:Hp) (x:V) (v b a:Value) (lo hi:Option Int) (sl:Addr) (Q:VK),Inv X pins Y H s->RelV x v->s.heap.IsSliceOf sl b a .none->IsPart b lo->IsPart a hi->r x lo hi H Q ->
  ∃ T id,typeLookup (.type T) "__getitem__"=pure (some (.builtin id))/\s.TypeIs v T/\wpAny (model X.prog X.w) X.A (getItem v (.ref sl)) (EP X pins Y Q) X.xe s
theorem SlR.or {r e:V->Option Int->Option Int->Hp->VK->Prop} (h:SlR X r) (h':SlR X e):SlR X (λx lo hi H Q=>r x lo hi H Q\/e x lo hi H Q):=by
 intro pins s Y H x v b c lo hi sl Q I d a pl pu q
 rcases q with q | q
 .exact h pins s Y H x v b c lo hi sl Q I d a pl pu q
 .exact h' pins s Y H x v b c lo hi sl Q I d a pl pu q
def tSl (r:V->Option Int->Option Int->Hp->VK->Prop) (te:TE) (tl th:TO):TE:=λY H Q=>te Y H λx H1=>tl Y H1 λl H2=>th Y H2 λu a=>r x l u a Q
theorem y6 {r:V->Option Int->Option Int->Hp->VK->Prop} (p:SlR X r) (he:PE X e te) (m:PO X lo tl) (hu:PO X hi th):PE X (.Subscript e (.Slice lo hi none p2) pos) (tSl r te tl th):=by
 intro pins s Y H Q I h
 refine Subscript_ (thn (he pins s Y H _ I h) λv s1 #[x,H1,B,n,g]=>?_)
 refine wpAny_Slice (thn (m pins s1 Y H1 _ B g) λc s2 #[l,H2,j,pl,f]=>thn (hu pins s2 Y H2 _ j f) λa s3 #[u,d,z,pu,k]=>?_)
 rw[evalPart_none]
 refine GD ?_
 have i:Inv X pins Y d { s3 with heap:=s3.heap.push { cls:=.type "slice",data:=.fields (List.toArray [c,a,.none]) } }:=z.kept (t':=s3.toks) λb ob q=>GI _ q
 obtain ⟨T,id,y,t,o⟩:=p pins { s3 with heap:=s3.heap.push { cls:=.type "slice",data:=.fields (List.toArray [c,a,.none]) } } Y d x v c a l u s3.heap.objs.size Q i n (Heap.IsSliceOf.new ..) pl pu k
 show wpAny (model X.prog X.w) X.A (subscriptTail e (.Slice lo hi none p2) v (.ref s3.heap.objs.size)) (EP X pins Y Q) X.xe { s3 with heap:=s3.heap.push { cls:=.type "slice",data:=.fields (List.toArray [c,a,.none]) } }
 exact tail_any (ops:=[.ref s3.heap.objs.size,v]) t y o (by with_unfolding_all rfl)
def rf (xs:List V) (lo hi:Option Int):List V:=(xs.drop (HT.sIx xs.length 0 lo)).take (HT.sIx xs.length xs.length hi - HT.sIx xs.length 0 lo)
theorem kN (xs:List V) (lo hi:Option Int):(rf xs lo hi).length<=xs.length:=by
 unfold rf
 rw[He,List.length_drop]
 lia
def EO (K:FG):V->Option Int->Option Int->Hp->VK->Prop:=λx lo hi H Q=>∃ a xs,x=.ref a/\SqT K H a xs /\
 ¬ (HT.sIx xs.length 0 lo=0/\HT.sIx xs.length xs.length hi=xs.length)/\∀ p,H p=none->Q (.ref p) (upd H p (.tup (rf xs lo hi)))
theorem sl_tup:SlR X (EO X.K):=by
 intro pins s Y H x v g i lo hi sl Q I f d pl pu h
 obtain ⟨a,xs,rfl,e,hw,q⟩:=h
 cases f
 obtain ⟨its,r,c,hz⟩:=I.tuple e
 have hlen:its.toArray.size=xs.length:=by rw[G5];exact r.length.symm
 refine #["tuple",_,PyProof.Rows.slot_tuple_getitem.lookup,c.typeIs,?_]
 refine HT.getItem_tuple_cut c d pl pu (by rw[hlen];exact hw) ?_ (by rw[hlen];exact hz)
 rw[hlen]
 refine #[.ref s.heap.objs.size,_,I.laid (t':=s.toks) (o:=.tup (rf xs lo hi)) (λb ob q=>GI _ q) (GZ _) ?_,rfl,q _ (I.hok.fresh (GZ _))]
 exact #[Ho (kN xs lo hi) hz,_,(r.drop (HT.sIx xs.length 0 lo)).take (HT.sIx xs.length xs.length hi - HT.sIx xs.length 0 lo),IsTupD.new _ _]
def uJ (K:FG):R2:=λx y H Q=>∃ a b xs ys,x=.ref a/\y=.ref b/\SqT K H a xs/\SqT K H b ys/\xs≠[]/\xs.length+ys.length<=sizeLine /\
 (ys=[]->Q (.ref a) H)/\(ys≠[]->∀ p,H p=none->Q (.ref p) (upd H p (.tup (xs++ys))))
theorem Vals.nil_iff {xs:List V} {us:List Value} (r:Vals xs us):us=[] ↔ xs=[]:=by
 cases r with
 | nil=>simp
 | cons _ _=>simp
theorem op_catT:OpR X (binaryOp .Add) (uJ X.K):=by
 intro pins s Y H x y v u Q I n l h
 obtain ⟨a,b,xs,ys,rfl,rfl,i,k,m,hz,j,f⟩:=h
 cases n
 cases l
 obtain ⟨its,d,g,_⟩:=I.tuple i
 obtain ⟨e,c,p2,_⟩:=I.tuple k
 refine HT.cat_tup g p2 (λz=>m (d.nil_iff.mp z)) (λz=>#[.ref a,H,I,rfl,j (c.nil_iff.mp z)]) (λz=>?_) (by rw[<- d.length,<- c.length];exact hz)
 refine #[.ref s.heap.objs.size,_,I.laid (t':=s.toks) (o:=.tup (xs++ys)) (λb ob q=>GI _ q) (GZ _) ?_,rfl,f (λw=>z (c.nil_iff.mpr w)) _ (I.hok.fresh (GZ _))]
 exact #[by rw[Hc];exact hz,_,d.append c,IsTupD.new _ _]
end
end L2
namespace L2
open PySem PySem.Spec PyProof.Rows
def ixN (n:Nat) (i:Int):Option Nat:=if 0<=i then (if i < n then some i.toNat else none) else if -(n:Int)<=i then some (i+n).toNat else none
def atI {α:Type} (xs:List α) (i:Int):Option α:=(ixN xs.length i).bind λj=>xs[j]?
theorem u8 {n:Nat} {i:Int} {j:Nat} (h:ixN n i=some j):seqIndex? i n=some j/\j < n/\-(n:Int)<=i/\i < n:=by
 unfold ixN at h
 by_cases h0:0<=i
 .rw[if_pos h0] at h
  by_cases h1:i < n
  .rw[if_pos h1] at h
   have e:i.toNat=j:=Hu h
   exact #[by rw[seqIndex_of h0 h1,e],by omega,by omega,h1]
  .rw[if_neg h1] at h;cases h
 .rw[if_neg h0] at h
  by_cases h1:-(n:Int)<=i
  .rw[if_pos h1] at h
   have e:(i+n).toNat=j:=Hu h
   exact #[by rw[seqIndex_neg (by omega) h1,e],by omega,h1,by omega]
  .rw[if_neg h1] at h;cases h
theorem vI {α:Type} {xs:List α} {i:Int} {v:α} (h:atI xs i=some v):∃ j,seqIndex? i xs.length=some j/\xs[j]?=some v/\j < xs.length/\-(xs.length:Int)<=i/\i < xs.length:=by
 unfold atI at h
 cases e:ixN xs.length i with
 | none=>rw[e] at h;cases h
 | some j =>
  rw[e] at h
  obtain ⟨h1,h2,h3,a⟩:=u8 e
  exact #[j,h1,h,h2,h3,a]
def vK (b:Expr):Prop:=∀ o i,subscripted b false o i=operate [o,i] (getItem o i)
def IxR (X:Cx) (r:R2):Prop :=
 ∀ (value slice:Expr) (pins:List (Addr×Obj)) (s:Shared) (Y:St) (H:Hp) (x y:V) (v u:Value) (Q:VK),Inv X pins Y H s->RelV x v->RelV y u->r x y H Q ->
  subscripted slice false v u=operate [v,u] (getItem v u)->wpAny (model X.prog X.w) X.A (subscriptTail value slice v u) (EP X pins Y Q) X.xe s
def MtR (X:Cx) (id:String) (r:V->List V->Hp->VK->Prop):Prop :=
 ∀ (pins:List (Addr×Obj)) (s:Shared) (Y:St) (H:Hp) (x:V) (xs:List V) (v:Value) (us:List Value) (Q:VK),Inv X pins Y H s->RelV x v->Vals xs us->r x xs H Q ->
  wpAny (model X.prog X.w) X.A (call (.builtin id) (v::us)) (EP X pins Y Q) X.xe s
section
variable {X:Cx} {a b:Expr} {ta tb:TE} {pos:Pos}
theorem IxR.or {r d:R2} (h:IxR X r) (h':IxR X d):IxR X (λx y H Q=>r x y H Q\/d x y H Q):=by
 intro value slice pins s Y H x y v u Q I c b q a
 rcases q with q | q
 .exact h value slice pins s Y H x y v u Q I c b q a
 .exact h' value slice pins s Y H x y v u Q I c b q a
theorem pe_ix {r:R2} (d:IxR X r) (e:PE X a ta) (f:PE X b tb) (c:vK b):PE X (.Subscript a b pos) (tOp r ta tb):=by
 intro pins s Y H Q I h
 exact Subscript_ (Gs e f I h λv u s2 x y H2 g j i q=>d a b pins s2 Y H2 x y v u Q g j i q (c _ _))
def yK (K:FG):R2:=λx y H Q=>∃ p xs i v,x=.ref p/\y=.int i/\SqL K H p xs/\atI xs i=some v/\Q v H
def yJ (K:FG):R2:=λx y H Q=>∃ p xs i v,x=.ref p/\y=.int i/\SqT K H p xs/\atI xs i=some v/\Q v H
theorem ix_list:IxR X (yK X.K):=by
 intro value slice pins s Y H x y v u Q I f l h c
 obtain ⟨p,xs,i,z,rfl,rfl,k,he,q⟩:=h
 cases f
 obtain ⟨t,rfl⟩:=l
 obtain ⟨its,r,pl,hz⟩:=I.list k
 obtain ⟨j,h1,h2,h3,m,g⟩:=vI he
 obtain ⟨w,d,b⟩:=r.get h2
 have e:=r.length
 have n:=j7
 have fin:EP X pins Y Q w s:=#[z,H,I,b,q]
 by_cases h0:0<=i
 .have a:i.toNat=j:=by
   rw[seqIndex_of h0 g] at h1
   exact Hu h1
  exact item_listR pl.isList h0 (by omega) (by rw[a];simpa using d) fin c
 .have a:(i+(its.toArray.size:Int)).toNat=j:=by
   rw[seqIndex_neg (by omega) m] at h1
   rw[G5,<- e]
   exact Hu h1
  exact subscriptTail_builtinR (x:=w) pl.isList.typeIs slot_list_getitem.lookup
   (wpAny_getItem_list_neg (Q:=λr s'=>r=w/\EP X pins Y Q r s') pl.isList (by omega) (by rw[G5] <;> omega) (by omega) (by rw[a];simpa using d) #[rfl,fin]) c
theorem FW:IxR X (yJ X.K):=by
 intro value slice pins s Y H x y v u Q I e g h b
 obtain ⟨p,xs,i,z,rfl,rfl,f,he,q⟩:=h
 cases e
 obtain ⟨t,rfl⟩:=g
 obtain ⟨its,r,pl,hz⟩:=I.tuple f
 obtain ⟨j,h1,h2,h3,m,l⟩:=vI he
 obtain ⟨w,c,a⟩:=r.get h2
 have d:=r.length
 have k:=j7
 have fin:EP X pins Y Q w s:=#[z,H,I,a,q]
 exact subscriptTail_builtinR (x:=w) pl.typeIs slot_tuple_getitem.lookup
  (getItem_tuple (j:=j) (Q:=λr s'=>r=w/\EP X pins Y Q r s') pl (by omega) (by omega) (by rw[G5,<- d];exact h1) (by simpa using c) #[rfl,fin]) b
theorem sZ (its:List Value) (n j:Nat) (u:Value):Obj.mapSeq (·.setIfInBounds j u) { cls:=.type "list",data:=.seq its.toArray n }={ cls:=.type "list",data:=.seq (its.set j u).toArray n }:=by
 simp[Obj.mapSeq]
theorem Inv.lst {pins:List (Addr×Obj)} {Y:St} {H:Hp} {s:Shared} {p:Addr} {xs:List V} (I:Inv X pins Y H s) (h:H p=some (.lst xs)) :
  ∃ (its:List Value) (n:Nat),Vals xs its/\s.heap.get? p=some { cls:=.type "list",data:=.seq its.toArray n }/\xs.length<=sizeLine:=by
 obtain ⟨z,its,n,r,e⟩:=I.hok p _ h
 exact #[its,n,r,e,z]
theorem Inv.lstUpd {pins:List (Addr×Obj)} {Y:St} {H:Hp} {s:Shared} {p:Addr} {xs ys:List V} {its its':List Value} {n a:Nat} {f:Obj->Obj} (I:Inv X pins Y H s) (h:H p=some (.lst xs))
  (d:s.heap.get? p=some { cls:=.type "list",data:=.seq its.toArray n }) (hf:f { cls:=.type "list",data:=.seq its.toArray n }={ cls:=.type "list",data:=.seq its'.toArray a }) (r:Vals ys its') (hz:ys.length<=sizeLine) (t:Nat) :
  Inv X pins Y (upd H p (.lst ys)) { s with heap:=s.heap.update p f,toks:=t }:=by
 have e:(s.heap.update p f).get? p=some { cls:=.type "list",data:=.seq its'.toArray a }:=by
  rw[Hb f d (by rw[hf] <;> rfl),hf]
 refine I.write (x:=p) (e:=p) (by rw[h];trivial) (.inl rfl) (λb u c q=>(Hl _ _ (Ne.symm c)).trans q) #[_,e] ?_
 exact #[hz,its',a,r,e]
def uF:V->V->V->Hp->(Hp->Prop)->Prop:=λo i v H Q=>∃ p xs k j,o=.ref p/\i=.int k/\H p=some (.lst xs)/\ixN xs.length k=some j/\Q (upd H p (.lst (xs.set j v)))
theorem xY:AD X uF:=by
 intro pins s Y H o i v ov y u Q I l m w h
 obtain ⟨p,xs,k,j,rfl,rfl,e,g,q⟩:=h
 cases l
 obtain ⟨t,rfl⟩:=m
 obtain ⟨its,n,r,c,hz⟩:=I.lst e
 obtain ⟨h1,h2,h3,f⟩:=u8 g
 have b:=r.length
 have x:=j7
 have d:Inv X pins Y (upd H p (.lst (xs.set j v))) { s with heap:=s.heap.update p (Obj.mapSeq (·.setIfInBounds j u)) } :=
  I.lstUpd e c (sZ its n j u) (r.set w j) (by rw[List.length_set];exact hz) s.toks
 by_cases h0:0<=k
 .have a:k.toNat=j:=by
   rw[seqIndex_of h0 f] at h1
   exact Hu h1
  exact PySem.W.ki_setAt c h0 (by omega) (by rw[G5,<- b];exact f) (by rw[a];exact #[_,d,q])
 .have a:(k+(its.toArray.size:Int)).toNat=j:=by
   rw[seqIndex_neg (by omega) h3] at h1
   rw[G5,<- b]
   exact Hu h1
  exact PySem.W.ki_setBack c (by omega) (by rw[G5,<- b];exact h3) (by omega) (by rw[a];exact #[_,d,q])
theorem ol (lo hi:Option Int) (n:Nat):(sliceBounds lo hi none n).1=((HT.sIx n 0 lo:Nat):Int)/\(sliceBounds lo hi none n).2.1=((HT.sIx n n hi:Nat):Int)/\(sliceBounds lo hi none n).2.2=1:=by
 refine #[?_,?_,rfl]
 .cases lo with
  | none=>simp[sliceBounds,HT.sIx]
  | some i =>
   simp only[sliceBounds,HT.sIx,Option.getD_none,show (1:Int) > 0 by decide,if_true]
   by_cases h:i < 0
   .simp only[h,if_true] <;> omega
   .simp only[h,if_false] <;> omega
 .cases hi with
  | none=>simp[sliceBounds,HT.sIx]
  | some i =>
   simp only[sliceBounds,HT.sIx,Option.getD_none,show (1:Int) > 0 by decide,if_true]
   by_cases h:i < 0
   .simp only[h,if_true] <;> omega
   .simp only[h,if_false] <;> omega
theorem mK (its:List Value) (lo hi:Option Int):slicePick its.toArray lo hi none=((its.drop (HT.sIx its.length 0 lo)).take (HT.sIx its.length its.length hi - HT.sIx its.length 0 lo)).toArray:=by
 obtain ⟨h1,h2,h3⟩:=ol lo hi its.toArray.size
 unfold slicePick
 rw[h1,h2,h3]
 simp only[sliceRange_one,pick_run,G5] <;> rfl
def EQ (K:FG):V->Option Int->Option Int->Hp->VK->Prop:=λx lo hi H Q=>∃ a xs,x=.ref a/\SqL K H a xs/\∀ p,H p=none->Q (.ref p) (upd H p (.lst (rf xs lo hi)))
theorem sl_list:SlR X (EQ X.K):=by
 intro pins s Y H x v g i lo hi sl Q I f d pl pu h
 obtain ⟨a,xs,rfl,e,q⟩:=h
 cases f
 obtain ⟨its,r,c,hz⟩:=I.list e
 have hlen:=r.length
 refine #["list",_,slot_list_getitem.lookup,c.isList.typeIs,?_]
 refine wpAny_getItem_list_slice c.isList d pl pu .none (by simp) ?_ (by rw[G5] <;> omega)
 rw[mK,<- hlen]
 refine #[.ref s.heap.objs.size,_,I.laid (t':=s.toks) (o:=.lst (rf xs lo hi)) (λb ob q=>GI _ q) (GZ _) ?_,rfl,q _ (I.hok.fresh (GZ _))]
 exact #[Ho (kN xs lo hi) hz,_,0,(r.drop (HT.sIx xs.length 0 lo)).take (HT.sIx xs.length xs.length hi - HT.sIx xs.length 0 lo),GR _ rfl]
theorem jM:CallR X (.builtin "len") (λxs H Q=>∃ p ys,xs=[.ref p]/\(SqL X.K H p ys\/SqT X.K H p ys)/\Q (.int ys.length) H):=by
 intro pins s Y H xs us Q I r h
 obtain ⟨p,ys,rfl,a,q⟩:=h
 obtain ⟨u,rfl,c⟩:=eK r
 cases c
 have d:=j7
 rcases a with a | a
 .obtain ⟨its,b,pl,hz⟩:=I.list a
  have hlen:=b.length
  exact Calls.call_len_list pl.isList (by simp only[G5] <;> omega) #[.int ys.length,H,I.tok _,#[s.toks+1,by rw[G5,hlen]],q]
 .obtain ⟨its,b,pl,hz⟩:=I.tuple a
  have hlen:=b.length
  exact len_tuple pl (by simp only[G5] <;> omega) #[.int ys.length,H,I.tok _,#[s.toks+1,by rw[G5,hlen]],q]
theorem CallR.or {f:Value} {r a:List V->Hp->VK->Prop} (h:CallR X f r) (h':CallR X f a):CallR X f (λxs H Q=>r xs H Q\/a xs H Q):=by
 intro pins s Y H xs us Q I rs q
 rcases q with q | q
 .exact h pins s Y H xs us Q I rs q
 .exact h' pins s Y H xs us Q I rs q
theorem mS:CallR X (.type "tuple") (λxs H Q=>∃ p ys,xs=[.ref p]/\((SqL X.K H p ys/\∀ l,H l=none->Q (.ref l) (upd H l (.tup ys)))\/(SqT X.K H p ys/\Q (.ref p) H))):=by
 intro pins s Y H xs us Q I r h
 obtain ⟨p,ys,rfl,h⟩:=h
 obtain ⟨u,rfl,g⟩:=eK r
 cases g
 rcases h with ⟨a,q⟩ | ⟨a,q⟩
 .obtain ⟨its,c,pl,hz⟩:=I.list a
  have hlen:=c.length
  refine call_tuple_list pl.isList (λh' kp=>?_) (by simp only[G5] <;> omega)
  have d:Inv X pins Y H { s with heap:=h' }:=I.kept (t':=s.toks) kp
  have f:Inv X pins Y (upd H h'.objs.size (.tup ys)) { s with heap:=h'.push { cls:=.type "tuple",data:=.seq its.toArray } } :=
   d.laid (t':=s.toks) (λb o e=>GI _ e) (GZ _) (show ObjOk X.prog X.w _ _ _ (.tup ys) from #[hz,its,c,IsTupD.new _ _])
  exact #[.ref h'.objs.size,_,f,rfl,q _ (d.hok.fresh (GZ _))]
 .obtain ⟨its,c,pl,hz⟩:=I.tuple a
  exact call_tuple_same pl #[.ref p,H,I,rfl,q]
def tyV (K:FG) (T:String) (x:V) (H:Hp):Prop:=match x with
 | .str _=>T="str"
 | .int _=>T="int"
 | .ref p=>(T="list"/\∃ xs,SqL K H p xs)\/(T="tuple"/\((∃ o,K.lookup p=some o/\o.cls=.type "tuple"/\o.dict=none)\/∃ xs,H p=some (.tup xs))) \/
   (T="dict"/\((∃ kvs,H p=some (.dK kvs))\/∃ kvs n,H p=some (.dT kvs n)))\/(T="set"/\∃ S n,H p=some (.set S n))
 | _=>False
theorem xC {pins:List (Addr×Obj)} {Y:St} {H:Hp} {s:Shared} {T:String} {x:V} {v:Value} (I:Inv X pins Y H s) (r:RelV x v) (ty:tyV X.K T x H) :
  s.TypeIs v T/\∀ a,v=.ref a->∃ ob,s.heap.get? a=some ob/\ob.dict=none:=by
 cases x with
 | str z =>
  obtain ⟨t,rfl⟩:=r
  cases (show T="str" from ty)
  exact #[typeIs_str s z t,λ_ e=>nomatch e]
 | int i =>
  obtain ⟨t,rfl⟩:=r
  cases (show T="int" from ty)
  exact #[typeIs_int s i t,λ_ e=>nomatch e]
 | ref p =>
  cases r
  rcases ty with ⟨rfl,xs,j⟩ | ⟨rfl,⟨o,b,g,hd⟩ | ⟨xs,h⟩⟩ | ⟨rfl,b⟩ | ⟨rfl,S,n,b⟩
  .obtain ⟨its,_,pl,_⟩:=I.list j
   refine #[pl.isList.typeIs,λa e=>?_]
   cases e
   obtain ⟨o,n,e,c,hd,_⟩:=pl
   exact #[o,e,hd]
  .refine #[#[o,I.kIn p o b,g],λa e=>?_]
   cases e
   exact #[o,I.kIn _ o b,hd]
  .obtain ⟨_,its,_,o,e,c,n,d⟩:=I.hok p _ h
   refine #[#[o,e,c],λa f=>?_]
   cases f
   exact #[o,e,congrArg Prod.snd d]
  .have z:∃ o,s.heap.get? p=some o/\o.ExactDict:=by
    rcases b with ⟨kvs,b⟩ | ⟨kvs,n,b⟩
    .obtain ⟨_,_,_,_,o,_,_,e,ex,_⟩:=I.hok p _ b
     exact #[o,e,ex]
    .obtain ⟨_,_,_,_,o,_,_,e,ex,_⟩:=I.hok p _ b
     exact #[o,e,ex]
   obtain ⟨o,e,ex⟩:=z
   refine #[#[o,e,ex.1],λa f=>?_]
   cases f
   exact #[o,e,ex.2.1]
  .obtain ⟨o,_,_,_,e,ex,_⟩:=I.hok p _ b
   refine #[#[o,e,ex.1],λa f=>?_]
   cases f
   exact #[o,e,ex.2.1]
 | _=>exact False.elim ty
def tBM0 (K:FG) (T:String) (r:V->List V->Hp->VK->Prop) (to:TE):TE:=λY H Q=>to Y H λx H1=>tyV K T x H1/\r x [] H1 Q
def tBM (K:FG) (T:String) (r:V->List V->Hp->VK->Prop) (to:TE) (t:TA):TE:=λY H Q=>to Y H λx H1=>tyV K T x H1/\t Y H1 λxs H2=>r x xs H2 Q
variable {o e:Expr} {es:List Expr} {to:TE} {t:TA} {name:Str} {apos cpos:Pos} {T id:String} {r:V->List V->Hp->VK->Prop}
theorem Fc (i:PlainAttrs T) (slot:Slot T name id) (c:typeOf (.builtin id)=pure (.type "method_descriptor")) (hm:MtR X id r) (g:PE X o to)
  (b:attributeBase o name X.env (eval o X.env)=eval o X.env:=by rfl) (a:(apos.endLine == cpos.line)=true:=by rfl):PE X (.Call (.Attribute o name apos) [] [] cpos) (tBM0 X.K T r to):=by
 intro pins s Y H Q I h
 refine wpAny_Call_method0_late b a (thn (g pins s Y H _ I h) λv s1 #[x,H1,e,d,ty,f]=>?_)
 obtain ⟨h1,h2⟩:=xC e d ty
 exact #[T,id,i,slot,c,h1,h2,Calls.callWith_builtin rfl (PySem.evalArgs_none (hm pins s1 Y H1 x [] v [] Q e d .nil f))]
theorem Dh (y:PlainAttrs T) (slot:Slot T name id) (f:typeOf (.builtin id)=pure (.type "method_descriptor")) (hm:MtR X id r) (w:PE X o to) (p:PA X (e::es) t)
  (c:attributeBase o name X.env (eval o X.env)=eval o X.env:=by rfl)
  (d:((backTo cpos (starEach (e::es) X.env)).all (λx=>!x.1) && (backToKw cpos (keywordEach [] X.env)).all (λx=>x.1.isSome)
   && decide ((e::es).length+([]:List Keyword).length+(if ([]:List Keyword).isEmpty then 0 else 1) < 30))=true:=by rfl)
  (b:(apos.endLine == cpos.line)=true:=by rfl) (n:starEach (e::es) X.env=(false,eval e X.env)::starEach es X.env:=by rfl) (a:(backTo cpos (starEach es X.env)).any (·.1)=false:=by rfl) :
  PE X (.Call (.Attribute o name apos) (e::es) [] cpos) (tBM X.K T r to t):=by
 intro pins s Y H Q I h
 refine wpAny_Call_method_late c d b rfl (thn (w pins s Y H _ I h) λv s1 #[x,H1,j,i,ty,q]=>?_)
 obtain ⟨h1,h2⟩:=xC j i ty
 refine #[T,id,y,slot,f,h1,h2,?_]
 have g:=p cpos pins s1 Y H1 _ j q
 rw[n] at g ⊢
 refine Calls.callWith_builtin (by show (false || (backTo cpos (starEach es X.env)).any (·.1))=false;rw[a] <;> rfl) (Calls.evalArgs_plain ?_)
 exact thn g λus s2 #[l,H2,u,m,k]=>hm pins s2 Y H2 x l v us Q u i m k
end
end L2
namespace L2
open PySem PySem.Spec PyProof.Rows
def MtM (X:Cx) (id:String) (r:V->List V->Hp->VK->Prop):Prop :=
 ∀ (pins:List (Addr×Obj)) (s:Shared) (Y:St) (H:Hp) (x:V) (xs:List V) (v:Value) (us:List Value) (Q:VK),Inv X pins Y H s->RelV x v->Vals xs us->r x xs H Q ->
  wpAny (model X.prog X.w) X.A (call (.builtin id) (v::us)) (EP X pins Y Q) X.xe s
theorem Vals.one {x:V} {us:List Value} (h:Vals [x] us):∃ u,us=[u]/\RelV x u:=by
 cases h with | cons r t=>cases t;exact #[_,rfl,r]
theorem Vals.two {x y:V} {us:List Value} (h:Vals [x,y] us):∃ u v,us=[u,v]/\RelV x u/\RelV y v:=by
 cases h with | cons r t=>obtain ⟨v,rfl,q⟩:=Vals.one t;exact #[_,_,rfl,r,q]
theorem Vals.eraseIdx:∀ {xs:List V} {us:List Value} (i:Nat),Vals xs us->Vals (xs.eraseIdx i) (us.eraseIdx i)
 | _,_,_,.nil=>.nil
 | _,_,0,.cons _ t=>t
 | _,_,i+1,.cons r t=>.cons r (Vals.eraseIdx i t)
theorem Vals.rep {xs:List V} {us:List Value} (h:Vals xs us):∀ k:Nat,Vals (List.replicate k xs).flatten (List.replicate k us).flatten
 | 0=>.nil
 | k+1=>by
  rw[List.replicate_succ,List.replicate_succ,List.flatten_cons,List.flatten_cons]
  exact Vals.append h (Vals.rep h k)
section
variable {X:Cx} {pins:List (Addr×Obj)} {Y:St} {H:Hp} {s:Shared} {l b:Addr} {xs ys zs:List V}
theorem Inv.lset {its its':List Value} {n:Nat} {f:Array Value->Array Value} {t':Nat} (I:Inv X pins Y H s) (a:H l=some (.lst xs))
  (e:s.heap.get? l=some { cls:=.type "list",data:=.seq its.toArray n }) (hf:f its.toArray=its'.toArray) (c:Vals ys its') (hz:ys.length<=sizeLine) :
  Inv X pins Y (upd H l (.lst ys)) { s with heap:=s.heap.update l (Obj.mapSeq f),toks:=t' }:=by
 have q:=PySem.IsL.update e f
 rw[hf] at q
 refine I.write (x:=l) (e:=l) (by rw[a];exact trivial) (.inl rfl) (λd u b hu=>(Hl s.heap (Obj.mapSeq f) (Ne.symm b)).trans hu) #[_,q] ?_
 exact #[hz,its',_,c,q]
theorem Inv.lnew {its:List Value} {t':Nat} (I:Inv X pins Y H s) (a:Vals ys its) (hz:ys.length<=sizeLine) :
  Inv X pins Y (upd H s.heap.objs.size (.lst ys)) { s with heap:=s.heap.push { cls:=.type "list",data:=.seq its.toArray },toks:=t' } :=
 I.laid (λ_ _ q=>GI _ q) (GZ _) #[hz,its,0,a,GR _ rfl]
theorem Inv.fresh (I:Inv X pins Y H s):H s.heap.objs.size=none:=I.hok.fresh (GZ _)
theorem Inv.lstM (I:Inv X pins Y H s) (a:H l=some (.lst xs)):xs.length<=sizeLine/\∃ (its:List Value) (n:Nat),Vals xs its/\xs.length=its.length/\s.heap.get? l=some { cls:=.type "list",data:=.seq its.toArray n }:=by
 obtain ⟨z,its,n,r,e⟩:=I.hok l _ a
 exact #[z,its,n,r,r.length,e]
theorem zh {n:Nat} (h:n<=sizeLine):Builtin.List.listTooLong n=false:=by
 unfold Builtin.List.listTooLong
 exact G8 (by omega)
end
section
variable {X:Cx}
def uK:V->List V->Hp->VK->Prop:=λx a H Q=>∃ l xs y,x=.ref l/\a=[y]/\H l=some (.lst xs)/\xs.length < sizeLine/\Q .non (upd H l (.lst (xs++[y])))
theorem wy:MtM X "list.append" uK:=by
 intro pins s Y H x f v us Q I d b h
 obtain ⟨l,xs,y,rfl,rfl,a,hz,q⟩:=h
 cases d
 obtain ⟨u,rfl,c⟩:=b.one
 obtain ⟨z,its,n,r,g,e⟩:=I.lstM a
 refine call_meets F.slot_list_append #[_,e,rfl] F.entry_list_append (F.args_list_append_2 _ _) (PySem.list_append l its.toArray n u (by rw[G5];omega)) #[e,?_]
 refine #[.non,_,I.lset (its':=its++[u]) a e (by simp) (r.append (.cons c .nil)) ?_,rfl,q]
 rw[Hc,List.length_singleton]
 lia
def uH:V->List V->Hp->VK->Prop:=λx a H Q=>∃ l b xs zs,x=.ref l/\a=[.ref b]/\H l=some (.lst xs)/\H b=some (.lst zs)/\xs.length+zs.length<=sizeLine/\Q .non (upd H l (.lst (xs++zs)))
theorem wx:MtM X "list.extend" uH:=by
 intro pins s Y H x t v us Q I m j h
 obtain ⟨l,b,xs,zs,rfl,rfl,d,g,hz,q⟩:=h
 cases m
 obtain ⟨u,rfl,k⟩:=j.one
 cases k
 obtain ⟨z,its,n,r,y,e⟩:=I.lstM d
 obtain ⟨w,a,f,i,o,p⟩:=I.lstM g
 have hsz:its.toArray.size+a.toArray.size<=sizeLine:=by rw[G5,G5];omega
 have c:¬ (!its.toArray.isEmpty && Builtin.List.listTooLong (its.toArray.size+a.toArray.size))=true:=by
  rw[zh hsz,Bool.and_false]
  exact G3
 refine call_meets F.slot_list_extend #[_,e,rfl] F.entry_list_extend (F.args_list_extend_2 _ _)
  (AutoSeq1.list_extend_list_list_0 l its.toArray n b a.toArray f c (by rw[G5];omega) (by omega)) #[e,p,?_]
 refine #[.non,_,I.lset (its':=its++a) d e (by simp) (r.append i) ?_,rfl,q]
 rw[Hc]
 lia
def Bz:R2:=λx y H Q=>∃ l b xs zs,x=.ref l/\y=.ref b/\H l=some (.lst xs)/\H b=some (.lst zs)/\xs.length+zs.length<=sizeLine/\∀ p,H p=none->Q (.ref p) (upd H p (.lst (xs++zs)))
theorem Fr:OpR X (binaryOp .Add) Bz:=by
 intro pins s Y H x y v u Q I k i h
 obtain ⟨l,b,xs,zs,rfl,rfl,f,c,hz,q⟩:=h
 cases k
 cases i
 obtain ⟨z,its,n,r,t,e⟩:=I.lstM f
 obtain ⟨p,a,o,d,j,m⟩:=I.lstM c
 refine PySem.P.add_list e m ?_ (by rw[G5,G5];omega)
 have g:its.toArray++a.toArray=(its++a).toArray:=by simp
 rw[g]
 exact #[.ref _,_,I.lnew (t':=s.toks) (r.append d) (by rw[Hc];omega),rfl,q _ I.fresh]
end
end L2
namespace Att
open PySem PySem.W PySem.Calls PyProof.Rows
theorem kS {P:Params} {h:Heap}:∀ (ns:List Int) (c:List Value),WellAll P h c (ns.map WData.int)->IntsAre c ns:=by
 intro ns
 induction ns with
 | nil =>
  intro c w
  rw[List.map_nil] at w
  cases w
  exact .nil
 | cons n ns ih =>
  intro c w
  rw[G6] at w
  cases w with
  | cons a b =>
   cases a
   exact .cons _ _ (ih _ b)
theorem vY {l:OpenLaw} {n:Nat} (j:l.most=some n) {P:Params} {h:Heap} {args:List WData} {vals:List Value}
  (b:l.row.toRowW.claim.pre args=true) (f:WellAll P h vals args) :
  ∃ a D ns,vals=[Value.ref a]/\args=[WData.list (ns.map WData.int)]/\h.get? a=some { cls:=.type "list",data:=.seq D.toArray }/\IntsAre D ns/\ns.length<=n:=by
 have g:WShape.hasAll [] args [.list .int]=true:=(pre_splitW b).1
 have i:l.pre.holds [] { args:=args }=true:=(pre_splitW b).2
 obtain ⟨d,r,rfl,h1,h2⟩:=hasAllW_cons g
 obtain rfl:=hasAllW_nil h2
 obtain ⟨xs,rfl,h3⟩:=hasW_list h1
 obtain ⟨ns,rfl⟩:=items_int h3
 have hlen:ns.length<=n:=by
  unfold OpenLaw.pre at i
  have e:(WTm.not (.lt (.lit (.int (n:Int))) (.len (.arg 0)))).holds [] { args:=[.list (ns.map .int)] }=true:=by
   have e:=(holds_andW i).1
   rw[j] at e
   exact e
  have c:=condW_of e (w_not (w_lt w_lit (w_len_list (w_arg rfl))))
  rw[GS] at c
  refine Nat.le_of_not_lt λq=>?_
  have k:(n:Int) < ((ns.length:Nat):Int):=by omega
  first
   | (rw[G7 k] at c;exact absurd c (by decide))
   | (simp at c;omega)
 cases f with
 | cons w1 w2 =>
  cases w2
  cases w1 with
  | list ho hall=>exact #[_,_,ns,rfl,rfl,ho,kS ns _ hall,hlen]
theorem wk (l:OpenLaw) (args:List WData):l.row.toRowW.claim.post args (.bool true) args=true :=
 postW_of (r:=l.row.toRowW) (X:=(true == true))
  (show WShape.has [] (.bool true) .bool=true by first | rfl | decide | simp[WShape.has,WShape.arms,WShape.armsAll])
  (show (WTm.eq .res (.lit (.bool true))).value [] { args:=args,res:=some (.bool true),after:=args }=some (.bool (true == true)) from w_eq_bool (w_res rfl) w_lit) rfl
theorem attach_call {l:OpenLaw} {n:Nat} {q:Program} {loose:List Str} {u:(Str->Option Value)->Heap->Prop} {t:World->Heap->Prop} {d:DefRec}
  (y:l.most=some n) (m:d.params.defaults=[])
  (call:∀ (w:World) (s₀ b:Shared) (mg mb:Str->Option Value) (e:Addr) (o:Obj) (pm cd doc:Value) (a:Addr) (c:List Value) (ns:List Int),
   Ground q loose [] u w s₀ mg mb b.heap->t w b.heap ->
   b.heap.get? e=some o->o.data=.func (docDef d.name d.params d.body d.scope pm cd doc)->b.heap.CodeRec cd d.name->mg d.name=some (.ref e) ->
   b.heap.get? a=some { cls:=.type "list",data:=.seq c.toArray }->IntsAre c ns->ns.length<=n->b.gens=(List.toArray []) ->
   codeAny (model l.prog w) callerA (.call (.ref e) #[[.ref a],[]]) (λr s'=>r=.ok (.ret (.bool true))/\OldK b.heap s'.heap/\s'.os=b.os/\AllBare s'.gens) b) :
  WalkO q loose u t l.row.toRowW d [] (λf c=>PySem.call f c):=by
 intro w s₀ b mg mb G σ e o pm cd doc z kV C hd k p i A args vals as h s v j x
 obtain rfl:z=.none:=Dflts.none p m
 obtain rfl:kV=.none:=Dflts.noKw p
 obtain ⟨a,c,ns,rfl,rfl,g,hints,hlen⟩:=vY y h j
 refine enter_call (codeAny_mono (call w s₀ b mg mb e o pm cd doc a c ns G σ C (fd_plain hd) k i g hints hlen A) λr s' B=>?_)
 obtain ⟨rfl,h2,h3,D⟩:=B
 exact #[.inl #[.bool true,.bool true,[],rfl,λ_=>rfl,.bool true,wk l _,λ_=>#[List.Pairwise.nil,λ_ hm=>(nomatch hm)]],h2,h3,D]
end Att
namespace L2
open PySem PySem.Spec PyProof.Rows
theorem m4:∀ {a:List Value} {ns:List Int},IntsAre a ns->Vals (ns.map V.int) a
 | _,_,.nil=>.nil
 | _,_,.cons n t h=>.cons #[t,rfl] (m4 h)
def C0 (H:Hp):Prop:=∀ b,H b=none\/∃ o xs,H b=some (.frz o (.lst xs))
set_option tactic.hygienic true in
theorem zA {P:Program} {w:World} {K:FG} {mg mb:Str->Option Value} {CX:CXT} {k:Nat} {N a:Addr} {fd:FuncData} {x:Str} {sp:Sp} {c:Shared} {l:List Value} {ns:List Int}
  (S:K.In c.heap) (C:c.heap.Ns mainGlobals mg) (g:c.heap.Ns builtinsNs mb) (G:∀ x:Str,x≠"__name__"->mb x=bootBuiltins x) (t:c.heap.NoLimit) (X:c.gens=(List.toArray []))
  (D:c.heap.get? a=some { cls:=.type "list",data:=.seq l.toArray }) (hi:IntsAre l ns) (O:ns.length<=sizeLine) (σ:Room k callerA)
  (F:∀ base:Heap,K.In base->base.Ns mainGlobals mg->FnOk P w K mg base CX k N fd [x] sp) (j:∀ (s:Shared) (u:Value),BindsTo s fd #[[u],[]] [(x,u)])
  (M:∀ H:Hp,C0 H->SqL K H a (ns.map V.int)->sp [.ref a] H (λv _=>v=.bl true) λ_ _ _=>False)
  (L:∀ H e s',CX [] H c (λ_ _ _=>False) e s'->False) :
  codeAny (model P w) callerA (.call (.ref N) #[[.ref a],[]]) (λr s'=>r=.ok (.ret (.bool true))/\OldK c.heap s'.heap/\s'.os=c.os/\AllBare s'.gens) c:=by
 have Q:=m4 hi
 have p:=hi.length
 have core:∀ H:Hp,C0 H->SqL K H a (ns.map V.int)->HOk P w H c.heap->(∀ b,H b≠none->b=a)->(H a≠none->K.lookup a=none) ->
   codeAny (model P w) callerA (.call (.ref N) #[[.ref a],[]]) (λr s'=>r=.ok (.ret (.bool true))/\OldK c.heap s'.heap/\s'.os=c.os/\AllBare s'.gens) c:=by
  intro H R W hok T hK
  have f:∀ {b:Addr} {o:Obj},c.heap.get? b=some o->H b=none->(o5 c.heap H).get? b=some o:=λe n=>zM e n
  have J:∀ {b:Addr} {o:Obj} {es:Array DictEntry} {ep:Nat},c.heap.get? b=some o->o.data=.dict es ep->H b=none:=λ{b o es ep} e d=>by
   cases q:H b with
   | none=>rfl
   | some u =>
    have E:b=a:=T b (by rw[q];simp)
    subst E
    rw[D] at e;cases e
    have d':Data.seq l.toArray _=Data.dict es ep:=d
    cases d'
  have i:∀ {b:Addr} {m:Str->Option Value},c.heap.Ns b m->(o5 c.heap H).Ns b m:=λ{b m} #[o,es,ep,e,d,r]=>#[o,es,ep,f e (J e d),d,r]
  have B:K.In (o5 c.heap H):=λb o e=>f (S b o e) (by
   cases q:H b with
   | none=>rfl
   | some u =>
    have E:b=a:=T b (by rw[q];simp)
    subst E
    rw[hK (by rw[q];simp)] at e;cases e)
  have hM:Mod K mg (o5 c.heap H):=#[B,i C,#[mb,i g,G],let #[mc,h1,h2]:=t;#[mc,i h1,h2]]
  have φ:Env0 P w K mg (o5 c.heap H) callerA [] c H:=#[rfl,hM,λb o e=>BZ e,Nat.le_of_eq (wT _ _),trivial,λb g=>absurd (show b∈([]:List Addr) from g) (by simp),hok,.of_eq X]
  refine codeAny_mono ((F _ B (i C)).run callerA [] c H #[[.ref a],[]] [.ref a] [.ref a] _ _ σ φ (j c (.ref a)) (.cons rfl .nil) (M H R W)) λr s' h=>?_
  cases r with
  | error e=>exact (L H e s' h).elim
  | ok fl =>
   cases fl with
   | next=>exact False.elim h
   | brk=>exact False.elim h
   | cont=>exact False.elim h
   | ret u =>
    obtain ⟨v,H',os,bare,un,A,r',q⟩:=h
    have q':v=.bl true:=q
    subst q'
    obtain rfl:u=Value.bool true:=r'
    refine #[rfl,OldK.of_keep λb o e=>?_,os,bare]
    cases q:H b with
    | none=>exact un.keep b o e q (by intro z;exact absurd (show b∈([]:List Addr) from z) (by simp)) (by simp)
    | some u =>
     rcases R b with z | ⟨ob,xs,z⟩
     .rw[q] at z;cases z
     .have ρ:=un.frzs b ob _ z
      obtain ⟨e1,_⟩:=hok b _ z
      obtain ⟨e2,_⟩:=A b _ ρ
      rw[e] at e1;cases e1
      exact e2
 cases I:K.lookup a with
 | some o =>
  have e:=S a o I
  rw[D] at e
  cases e
  refine core (λ_=>none) (λ_=>.inl rfl) (.inr #[_,l.toArray,_,I,rfl,rfl,rfl,by rw[G5,p];exact O,by simpa using Q]) (λb u z=>by have y:(none:Option HO)=some u:=z;cases y) (λb z=>absurd rfl z) λz=>absurd rfl z
 | none =>
  refine core (λb=>if b=a then some (.frz { cls:=.type "list",data:=.seq l.toArray } (.lst (ns.map V.int))) else none) (λb=>?_) (.inl (.inr #[{ cls:=.type "list",data:=.seq l.toArray },if_pos rfl])) (λb u z=>?_) (λb z=>?_) λ_=>I
  .by_cases g:b=a
   .exact .inr #[_,_,if_pos g]
   .exact .inl (if_neg g)
  .by_cases g:b=a
   .have y:=(if_pos g).symm.trans z
    cases y
    subst g
    exact #[D,by rw[GS];exact O,l,_,Q,D]
   .have y:=(if_neg g).symm.trans z
    cases y
  .by_cases g:b=a
   .exact g
   .exact absurd (if_neg g) z
end L2
namespace L2
open PySem PySem.Spec PyProof.Rows
end L2
namespace L2
open PySem PySem.Spec PyProof.Rows
abbrev CX0:CXT:=λ_ _ _ _ _ _=>False
abbrev E0:XK:=λ_ _ _=>False
theorem pass0 {X:Cx}:um CX0 X E0:=λ_ _ _ _ _ _ _ h=>h.elim
structure Fun (K:FG) (x qual:Str) (st:Stmt) (f:Addr) (fd:FuncData):Prop where
 ex:∃ (oc:Value) (od:Option Addr) (kV doc pm:Value) (an:Option Addr) (cdv ct:Value) (osl:Array (Option Value)),
  fd=PySem.W.fnOf x qual (aX st) (aR st) (aj st) .none kV doc pm an cdv ct/\K.lookup f=some #[oc,od,.func fd,osl]/\PySem.W.codeIn K cdv qual=true
 kp:PySem.W.keepIn K (.ref f)=true
section
variable {P:Program} {w:World} {K:FG} {mg:Str->Option Value} {base:Heap}
theorem Fun.ok {x qual:Str} {st:Stmt} {f:Addr} {fd:FuncData} {N ps:List Str} {k:Nat} {sp:Sp} (F:Fun K x qual st f fd) (S:FnScope N ps (aj st)) (len:∀ b H Q E,sp b H Q E->b.length=ps.length)
  (c:∀ (a:Value) (A:Around) (outer:List Env) (s:Shared) (H:Hp) (b:List V) (Q:VK) (E:XK),Room k (A.deeper (envOfC qual (aj st) s.heap.objs.size f a))->sp b H Q E ->
   ∃ t,PSs (re CX0 P w K mg base N qual (aj st) f a A outer s H E).nox (aR st) t/\t { nx:=λ_ H'=>Q .non H',rt:=Q } (kC N b) H):FnOk P w K mg base CX0 (k+1) f fd ps sp:=by
 obtain ⟨m,l,kV,doc,pm,an,a,ct,i,rfl,g,d⟩:=F.ex
 refine fn_of g d S len λA outer s H b Q E j e=>?_
 obtain ⟨t,h,q⟩:=c a A outer s H b Q E j e
 exact #[t,h.nox,q]
theorem Fun.binds {x qual:Str} {st:Stmt} {f:Addr} {fd:FuncData} {ps:List Str} (F:Fun K x qual st f fd)
  (h:∀ (kV doc pm:Value) (an:Option Addr) (a ct:Value) (us:List Value),us.length=ps.length->bindArgs (PySem.W.fnOf x qual (aX st) (aR st) (aj st) .none kV doc pm an a ct) #[us,[]]=pure (ps.zip us)):Binds K fd ps []:=by
 obtain ⟨g,e,kV,doc,pm,an,a,ct,c,rfl,d,b⟩:=F.ex
 exact .all (h kV doc pm an a ct)
theorem Ga {x qual:Str} {st:Stmt} {f:Addr} {e:Value} {d an:Option Addr} {b:Array (Option Value)} {kV doc pm a ct:Value} (l:K.lookup f=some #[e,d,.func (PySem.W.fnOf x qual (aX st) (aR st) (aj st) .none kV doc pm an a ct),b])
  (c:PySem.W.codeIn K a qual=true) (k:PySem.W.keepIn K (.ref f)=true):Fun K x qual st f (PySem.W.fnOf x qual (aX st) (aR st) (aj st) .none kV doc pm an a ct):=#[#[e,d,kV,doc,pm,an,a,ct,b,rfl,l,c],k]
end
theorem hu_of {A:Around} {k:Nat} (a:Room k A):A.units+1 < cLine:=Nat.lt_of_le_of_lt (Nat.add_le_add_left (by decide:1<=64) _) a.units
def Same (H H':Hp):Prop:=∀ b o,H b=some o->H' b=some o
theorem Same.refl (H:Hp):Same H H:=λ_ _ h=>h
theorem Same.trans {H H1 H2:Hp} (a:Same H H1) (b:Same H1 H2):Same H H2:=λc o h=>b c o (a c o h)
theorem Same.free {H H':Hp} (e:Same H H') {l:Addr} (h:H' l=Option.none):H l=Option.none:=by
 cases q:H l with
 | none=>rfl
 | some o =>
  rw[e l o q] at h
  cases h
theorem Same.seq {K:FG} {H H':Hp} {a:Addr} {xs:List V} (e:Same H H') (h:SqL K H a xs):SqL K H' a xs:=by
 rcases h with (h | ⟨o,h⟩) | h
 .exact .inl (.inl (e _ _ h))
 .exact .inl (.inr #[o,e _ _ h])
 .exact .inr h
end L2
end
section
namespace L2
open PySem PySem.Spec PyProof.Rows
section
variable {prog:Program} {w:World} {A:Around} {E:Value->Shared->Prop} {s:Shared}
theorem pP {d:Addr} {k v:Value} {Q:Unit->Shared->Prop} (ty:s.TypeIs (.ref d) "dict") (h:wpAny (model prog w) A.in1 (dictSet d k v) Q E s) :
  wpAny (model prog w) A (setItem (.ref d) k v) Q E s:=by
 unfold setItem
 refine GF (GC (wpAny_sequenceKey ty (by decide) (GC (wpAny_callSpecial?_slot ty slot_dict_setitem (wpAny_call_entry slot_dict_setitem ty entry_dict_setitem ?_ (args_dict_setitem _ _ _))))))
 refine GC (wpAny_notOrdered_dict ty ?_)
 refine (?_:wpAny _ _ (dictSet d k v >>= _) _ _ s)
 exact GC (wpAny_mono h (λ_ _ z=>GD #[_,rfl,GD z]) λ_ _ z=>z)
theorem m7 {d:Addr} {key v:Value} {b:Int} {o:Obj} {es:Array DictEntry} {ep:Nat} {F:Option Nat->Prop} {Q:Unit->Shared->Prop} (a:s.heap.get? d=some o) (c:o.ExactDict) (hd:o.data=.dict es ep) (hz:es.size<=sizeLine)
  (find:wpAny (model prog w) A (dictFind d key b) (λr s'=>s'=s/\F r) E s)
  (old:∀ i h' o',F (some i)->h'.get? d=some o'->o'.ExactDict->o'.data=.dict (es.modify i λe=>{ e with val:=v }) ep->Heap.SameBut d s.heap h'->Q () { s with heap:=h' })
  (new:∀ h' o',F none->h'.get? d=some o'->o'.ExactDict->o'.data=.dict (es.push #[b,key,v]) (ep+1)->Heap.SameBut d s.heap h'->Q () { s with heap:=h' }) :
  wpAny (model prog w) A (dictSetHashed d key b v) Q E s:=by
 unfold dictSetHashed
 refine GF (GC (wpAny_mono find ?_ λ_ _ z=>z))
 rintro (_ | i) _ ⟨rfl,f⟩
 .exact GC (wpAny_rule (wpAny_updateDictKeys (hz:=hz) a hd (new _ _ f (Hb _ a (Obj.isFreed_of_dict (Obj.data_mapDictKeys hd _))) (c.mapDictKeys _) (Obj.data_mapDictKeys hd _) (Heap.SameBut.update ..))))
 .exact GC (wpAny_rule (GC (wpAny_updateDict a hd (wpAny_point (old i _ _ f (Hb _ a (Obj.isFreed_of_dict (Obj.data_mapDict hd _))) (c.mapDict _) (Obj.data_mapDict hd _) (Heap.SameBut.update ..))))))
end
section
variable {prog:Program} {w:World} {K:Type} [DecidableEq K] {A:Around} {E:Value->Shared->Prop} {s:Shared} {d:Addr} {k:K}
section
variable {knd:HeapKind prog w K}
def DictOfHE (knd:HeapKind prog w K) (h:Heap) (d:Addr) (xs:List (K×Addr×Value)) (n:Int):Prop :=
 ∃ o es ep,h.get? d=some o/\o.ExactDict/\o.data=.dict es ep/\es.toList=xs.map (entryOfKey knd)/\(∀ x∈xs,knd.is h x.1 x.2.1)/\(xs.map (·.1)).Nodup/\(es.size:Int)=ep+n
theorem DictOfHE.of {h:Heap} {d:Addr} {xs:List (K×Addr×Value)} {n:Int} (x:DictOfHE knd h d xs n):h.DictOfH knd d xs:=let #[o,es,ep,h1,h2,h3,b,a,c,_]:=x;#[o,es,ep,h1,h2,h3,b,a,c]
theorem wu {xs:List (K×Addr×Value)} {y:Addr×Value} (c:(xs.map (·.1)).Nodup) (h:k ∉ xs.map (·.1)):((xs++[(k,y)]).map (·.1)).Nodup:=by
 rw[List.map_append]
 exact List.nodup_append.mpr #[c,List.nodup_cons.mpr #[List.not_mem_nil,List.nodup_nil],λx b y a e=>h (by have:=Hh.mp a;subst this;exact e ▸ b)]
theorem fh {a:Addr} {xs:List (K×Addr×Value)} {v:Value} {Q:Unit->Shared->Prop} (hu:knd.room A) (b:knd.is s.heap k a) {n:Int} (hm:DictOfHE knd s.heap d xs n)
  (r:∀ h',DictOfHE knd h' d (storedH xs k a v) n->Heap.SameBut d s.heap h'->Q () { s with heap:=h',toks:=s.toks+knd.draws k })
  (hsz:xs.length<=sizeLine:=by size_fits):wpAny (model prog w) A (dictSet d (.ref a) v) Q E s:=by
 obtain ⟨o,es,ep,m,u,hd,he,c,l,q⟩:=hm
 unfold dictSet
 refine GF (GC (knd.pyHash hu b ?_))
 refine m7 (s:={ s with toks:=s.toks+knd.draws k }) (F:=λ| none=>∀ (j:Nat) (p:Addr×Value),xs[j]?≠some (k,p) | some j=>∃ p,xs[j]?=some (k,p)) m u hd (size_of_entries he ▸ hsz)
  (wpAny_dictFind_heap (s:={ s with toks:=s.toks+knd.draws k }) hu b m hd he c l (λz=>#[rfl,z]) λj p z=>#[rfl,p,z]) ?_ ?_
 .rintro i h' o' ⟨p,f⟩ g1 g2 g3 h
  have at':=storedH_old (atKey_of_get l f) a v
  refine r h' #[o',_,_,g1,g2,g3,?_,?_,?_,?_] h <;> try rw[at']
  .rw[Array.toList_modify,he]
   exact modify_map_putAt (entryOfKey knd) _ k v (λ_ _=>rfl) l f
  .intro x g
   obtain ⟨y,t,rfl⟩:=GX.mp g
   have:=knd.keeps (c y t) m hd h
   by_cases e:y.1=k <;> simpa[putAt,e] using this
  .exact (keys_map_putAt xs k v).symm ▸ l
  .rw[Array.size_modify];exact q
 .intro h' o' f g1 g2 g3 h
  have at':=storedH_new (atKey_none_of_get f) a v
  refine r h' #[o',_,_,g1,g2,g3,?_,?_,?_,?_] h <;> try rw[at']
  .simp[he,entryOfKey]
  .intro x g
   rcases GQ.mp g with g | g
   .exact knd.keeps (c x g) m hd h
   .cases Hh.mp g;exact knd.keeps b m hd h
  .exact wu l (not_mem_keys_of_get f)
  .rw[Array.size_push];omega
theorem mL {a:Addr} {xs:List (K×Addr×Value)} {v:Value} {Q:Unit->Shared->Prop} (hu:knd.room A.in1) (b:knd.is s.heap k a) {n:Int} (hm:DictOfHE knd s.heap d xs n)
  (c:∀ h',DictOfHE knd h' d (storedH xs k a v) n->Heap.SameBut d s.heap h'->Q () { s with heap:=h',toks:=s.toks+knd.draws k })
  (hsz:xs.length<=sizeLine:=by size_fits):wpAny (model prog w) A (setItem (.ref d) (.ref a) v) Q E s :=
 pP hm.of.typeIs (fh (hsz:=hsz) hu b hm c)
end
section
variable {knd:KeyKind prog w K} {key:Value}
theorem ig {kvs:List (K×Value)} {v:Value} {Q:Unit->Shared->Prop} (a:knd.is k key=true) (hm:DictOfE knd s.heap d kvs)
  (l:∀ h',DictOfE knd h' d (stored kvs k v)->Heap.SameBut d s.heap h'->Q () { s with heap:=h',toks:=s.toks+1 })
  (hsz:kvs.length<=sizeLine:=by size_fits):wpAny (model prog w) A (dictSet d key v) Q E s:=by
 obtain ⟨o,⟨es⟩,ep,m,q,hd,c,b,g,rfl⟩:=hm
 have same:=b.findIdx k
 have hz:(#[es]:Array DictEntry).size<=sizeLine:=by have:=b.length;simp at this ⊢;omega
 unfold dictSet
 refine GF (GC (knd.pyHash a ?_))
 refine m7 (s:={ s with toks:=s.toks+1 }) (F:=λr=>es.findIdx? (λe=>knd.is k e.key)=r) m q hd hz
  (wpAny_dictFind_of (s:={ s with toks:=s.toks+1 }) a m hd c #[rfl,by simp]) ?_ ?_
 .intro i h' o' f g1 g2 g3 h
  have at':stored kvs k v=_:=if_pos (any_of_findIdx_some (same.symm.trans f))
  refine l h' #[o',_,_,g1,g2,g3,c.modify _ _,?_,?_,(Array.size_modify).symm] h <;> rw[at']
  .simpa using b.modify g f v
  .exact (keys_map_store kvs k v).symm ▸ g
 .intro h' o' f g1 g2 g3 h
  have no:=not_mem_of_findIdx_none (same.symm.trans f)
  have at':stored kvs k v=_:=if_neg λz=>by
   obtain ⟨x,j,e⟩:=List.any_eq_true.mp z
   exact no (GX.mpr #[x,j,of_decide_eq_true e])
  refine l h' #[o',_,_,g1,g2,g3,c.push a _,?_,?_,by simp] h <;> rw[at']
  .simpa using b.append a (knd.hash k) v
  .rw[List.map_append]
   exact List.nodup_append.mpr #[g,List.nodup_cons.mpr #[List.not_mem_nil,List.nodup_nil],λx j y p e=>no (by cases Hh.mp p;have n:x=k:=e;exact n ▸ j)]
theorem lH {kvs:List (K×Value)} {v:Value} {Q:Unit->Shared->Prop} (a:knd.is k key=true) (hm:DictOfE knd s.heap d kvs)
  (b:∀ h',DictOfE knd h' d (stored kvs k v)->Heap.SameBut d s.heap h'->Q () { s with heap:=h',toks:=s.toks+1 })
  (hsz:kvs.length<=sizeLine:=by size_fits):wpAny (model prog w) A (setItem (.ref d) key v) Q E s :=
 pP hm.of.typeIs (ig (hsz:=hsz) a hm b)
end
end
section
variable {κ:Type} [DecidableEq κ]
def eJ (kvs:List (κ×V)) (k:κ):Option V:=(kvs.find? λa=>decide (a.1=k)).map (·.2)
def fM (kvs:List (κ×V)) (k:κ) (v:V):List (κ×V) :=
 if (kvs.any λa=>decide (a.1=k))=true then kvs.map (λa=>if a.1=k then (a.1,v) else a) else kvs++[(k,v)]
def eX (kvs:List (κ×V)) (k:κ):List (κ×V):=kvs.filter λa=>decide (a.1≠k)
theorem gg {p:κ×V} {r:List (κ×V)} {k:κ} (e:p.1=k):eJ (p::r) k=some p.2:=by simp[eJ,List.find?_cons,e]
theorem gh {p:κ×V} {r:List (κ×V)} {k:κ} (e:¬ p.1=k):eJ (p::r) k=eJ r k:=by simp[eJ,List.find?_cons,e]
theorem pK (k:κ):∀ kvs:List (κ×V),(kvs.any λD=>decide (D.1=k))=(eJ kvs k).isSome
 | []=>rfl
 | p::r=>by
  rw[List.any_cons]
  by_cases e:p.1=k
  .simp only[gg e,G7 e,Bool.true_or,Option.isSome_some]
  .rw[gh e,G8 e,Bool.false_or];exact pK k r
theorem kK (kvs:List (κ×V)) (k:κ) (v:V):(fM kvs k v).length<=kvs.length+1:=by
 unfold fM
 split
 .rw[GS];omega
 .rw[Hc,Hd,List.length_nil];omega
theorem RelO.isSome_eq {o:Option V} {u:Option Value} (r:RelO o u):o.isSome=u.isSome:=by
 cases o with
 | none=>cases u with
  | none=>rfl
  | some _=>exact (show False from r).elim
 | some _=>cases u with
  | none=>exact (show False from r).elim
  | some _=>rfl
theorem RelO.getD {o:Option V} {u:Option Value} {d:V} {d':Value} (r:RelO o u) (rd:RelV d d'):RelV (o.getD d) (u.getD d'):=by
 cases o with
 | none=>cases u with
  | none=>exact rd
  | some _=>exact (show False from r).elim
 | some _=>cases u with
  | none=>exact (show False from r).elim
  | some _=>exact r
theorem KV.val {kvs:List (κ×V)} {c:List (κ×Value)} (r:KV kvs c) (k:κ):RelO (eJ kvs k) (valueAt c k):=by
 unfold KV at r
 induction r with
 | nil=>exact True.intro
 | @cons p q ps qs h t ih =>
  obtain ⟨h1,h2⟩:=h
  by_cases e:p.1=k
  .have a:q.1=k:=h1.symm.trans e
   have b:valueAt (q::qs) k=some q.2:=by simp[valueAt,List.find?_cons,a]
   rw[gg e,b];exact h2
  .have a:¬ q.1=k:=λz=>e (h1.trans z)
   have b:valueAt (q::qs) k=valueAt qs k:=by simp[valueAt,List.find?_cons,a]
   rw[gh e,b];exact ih
theorem KV.any {kvs:List (κ×V)} {a:List (κ×Value)} (r:KV kvs a) (k:κ):(kvs.any λD=>decide (D.1=k))=a.any λD=>decide (D.1=k):=by
 unfold KV at r
 induction r with
 | nil=>rfl
 | cons h t ih=>rw[List.any_cons,List.any_cons,ih,h.1]
theorem KV.repl {kvs:List (κ×V)} {a:List (κ×Value)} (r:KV kvs a) (k:κ) {y:V} {u:Value} (b:RelV y u) :
  KV (kvs.map λD=>if D.1=k then (D.1,y) else D) (a.map λD=>if D.1=k then (D.1,u) else D):=by
 unfold KV at r ⊢
 induction r with
 | nil=>exact .nil
 | @cons p q ps qs h t ih =>
  rw[G6,G6]
  refine .cons ?_ ih
  obtain ⟨h1,h2⟩:=h
  by_cases e:p.1=k
  .rw[if_pos e,if_pos (h1.symm.trans e)];exact #[h1,b]
  .rw[if_neg e,if_neg (λz=>e (h1.trans z))];exact #[h1,h2]
theorem KV.put {kvs:List (κ×V)} {a:List (κ×Value)} (r:KV kvs a) (k:κ) {y:V} {u:Value} (b:RelV y u):KV (fM kvs k y) (stored a k u):=by
 unfold fM stored
 rw[r.any k]
 by_cases e:(a.any λc=>decide (c.1=k))=true
 .rw[if_pos e,if_pos e];exact r.repl k b
 .rw[if_neg e,if_neg e];exact Paired.snoc r #[rfl,b]
theorem KV.keys {kvs:List (κ×V)} {a:List (κ×Value)} (r:KV kvs a):kvs.map (·.1)=a.map (·.1):=by
 unfold KV at r
 induction r with
 | nil=>rfl
 | cons h t ih=>rw[G6,G6,ih,h.1]
theorem KV.length {kvs:List (κ×V)} {a:List (κ×Value)} (r:KV kvs a):kvs.length=a.length:=Paired.length r
theorem z7 (kvs:List (κ×V)) (k:κ):(eX kvs k).length<=kvs.length:=List.length_filter_le _ _
end
theorem qJ {P:Program} {w:World} {k:Key} {u:Value} (r:RelV (kV k) u):(aG P w).is k u=true:=by
 cases k with
 | inl i=>obtain ⟨t,e⟩:=(show ∃ t,u=Value.int i t from r);subst e;exact qp P w i t
 | inr x=>obtain ⟨t,e⟩:=(show ∃ t,u=Value.str x t from r);subst e;exact qo P w x t
theorem nK {P:Program} {w:World}:∀ {ks:List Key} {us:List Value},Vals (ks.map kV) us->ItemsAre (aG P w) ks us
 | [],_,r=>by rw[List.map_nil] at r;cases r;exact .nil
 | k::ks,_,r=>by
  rw[G6] at r
  cases r with
  | cons h t=>exact .cons (qJ h) (nK t)
abbrev KT (H:Hp):List (List Key×V)->List (List Key×Addr×Value)->Prop:=Paired λp q=>p.1=q.1/\H q.2.1=some (.tup (p.1.map kV))/\RelV p.2 q.2.2
theorem KT.val {H:Hp} {kvs:List (List Key×V)} {xs:List (List Key×Addr×Value)} (r:KT H kvs xs) (k:List Key):RelO (eJ kvs k) ((atKey xs k).map (·.2)):=by
 induction r with
 | nil=>exact True.intro
 | @cons p q ps qs h t ih =>
  obtain ⟨h1,_,h2⟩:=h
  by_cases e:p.1=k
  .have a:q.1=k:=h1.symm.trans e
   have b:atKey (q::qs) k=some q.2:=by simp[atKey,List.find?_cons,a]
   rw[gg e,b];exact h2
  .have a:¬ q.1=k:=λz=>e (h1.trans z)
   have b:atKey (q::qs) k=atKey qs k:=by simp[atKey,List.find?_cons,a]
   rw[gh e,b];exact ih
theorem KT.repl {H:Hp} {kvs:List (List Key×V)} {xs:List (List Key×Addr×Value)} (r:KT H kvs xs) (k:List Key) {y:V} {u:Value} (a:RelV y u) :
  KT H (kvs.map λD=>if D.1=k then (D.1,y) else D) (xs.map (putAt k u)):=by
 induction r with
 | nil=>exact .nil
 | @cons p q ps qs h t ih =>
  rw[G6,G6]
  refine .cons ?_ ih
  obtain ⟨h1,h2,h3⟩:=h
  unfold putAt
  by_cases e:p.1=k
  .rw[if_pos e,if_pos (h1.symm.trans e)];exact #[h1,h2,a]
  .rw[if_neg e,if_neg (λz=>e (h1.trans z))];exact #[h1,h2,h3]
theorem KT.put {H:Hp} {kvs:List (List Key×V)} {xs:List (List Key×Addr×Value)} (r:KT H kvs xs) (k:List Key) {b:Addr} {y:V} {u:Value} (c:H b=some (.tup (k.map kV))) (a:RelV y u) :
  KT H (fM kvs k y) (storedH xs k b u):=by
 have e:(kvs.any λd=>decide (d.1=k))=(atKey xs k).isSome:=by
  rw[pK,(r.val k).isSome_eq,Option.isSome_map]
 unfold fM storedH
 rw[e]
 by_cases q:(atKey xs k).isSome=true
 .rw[if_pos q,if_pos q];exact r.repl k a
 .rw[if_neg q,if_neg q];exact Paired.snoc r #[rfl,c,a]
theorem KT.keeps {H H':Hp} {kvs:List (List Key×V)} {xs:List (List Key×Addr×Value)} (r:KT H kvs xs) (a:∀ b ys,H b=some (.tup ys)->H' b=some (.tup ys)):KT H' kvs xs :=
 Paired.mapP r λ_ _ z=>#[z.1,a _ _ z.2.1,z.2.2]
section
variable {P:Program} {w:World} {H:Hp} {h:Heap} {a:Addr}
theorem Dd {u:HO} (ok:HOk P w H h) (e:Rd H a u):ObjOk P w H h a u:=e.ok ok
theorem mE {kvs:List (Key×V)} (ok:HOk P w H h) (e:Rd H a (.dK kvs)):kvs.length<=sizeLine/\(a == sysModules)=false/\∃ D,KV kvs D/\DictOfE (aG P w) h a D :=
 show ObjOk P w H h a (.dK kvs) from Dd ok e
theorem z9 {kvs:List (Key×V)} (ok:HOk P w H h) (e:Rd H a (.dK kvs)):kvs.length<=sizeLine/\(a == sysModules)=false/\∃ D,KV kvs D/\h.DictOf (aG P w) a D:=let #[z,y,D,r,d]:=mE ok e;#[z,y,D,r,d.of]
def HdT (H:Hp) (a:Addr) (kvs:List (List Key×V)):Prop:=∃ n,H a=some (.dT kvs n)
def RdT (H:Hp) (a:Addr) (kvs:List (List Key×V)):Prop:=∃ n,Rd H a (.dT kvs n)
theorem HdT.rd {H:Hp} {a:Addr} {kvs:List (List Key×V)} (h:HdT H a kvs):RdT H a kvs:=let #[n,e]:=h;#[n,.inl e]
theorem i5 {ks:List Key} (ok:HOk P w H h) (e:H a=some (.tup (ks.map kV))):(tupleKind (aG P w)).is h ks a:=by
 obtain ⟨_,its,r,o,h1,h2,n,h3⟩:=(show ObjOk P w H h a (.tup (ks.map kV)) from ok a _ e)
 exact #[o,its.toArray,n,h1,h2,congrArg Prod.fst h3,by simpa using nK r]
theorem ie {kvs:List (List Key×V)} {n:Int} (ok:HOk P w H h) (e:Rd H a (.dT kvs n)):kvs.length<=sizeLine/\(a == sysModules)=false /\
  ∃ xs,KT H kvs xs/\DictOfHE (tupleKind (aG P w)) h a xs n:=by
 obtain ⟨z,y,xs,r,o,es,ep,h1,h2,h3,d,c⟩:=(show ObjOk P w H h a (.dT kvs n) from Dd ok e)
 refine #[z,y,xs,r,o,es,ep,h1,h2,h3,d,λx b=>?_,c]
 have all:∀ {l:List (List Key×V)} {m:List (List Key×Addr×Value)},KT H l m->∀ x∈m,(tupleKind (aG P w)).is h x.1 x.2.1:=by
  intro l m q
  induction q with
  | nil=>intro x b;exact nomatch b
  | @cons p q ps qs hq t ih =>
   intro x b
   rcases GN.mp b with e | b
   .subst e
    exact i5 ok (by rw[<- hq.1];exact hq.2.1)
   .exact ih x b
 exact all r x b
theorem z5 {kvs:List (List Key×V)} (ok:HOk P w H h) (e:RdT H a kvs):kvs.length<=sizeLine/\(a == sysModules)=false /\
  ∃ xs,KT H kvs xs/\h.DictOfH (tupleKind (aG P w)) a xs:=let #[_,e]:=e;let #[z,y,xs,r,d]:=ie ok e;#[z,y,xs,r,d.of]
end
def DGet (H:Hp) (a:Addr) (y:V) (r:Option V):Prop :=
 (∃ kvs k,Rd H a (.dK kvs)/\y=kV k/\r=eJ kvs k)\/∃ kvs k b,RdT H a kvs/\y=.ref b/\H b=some (.tup (k.map kV))/\r=eJ kvs k
def DPut (H:Hp) (a:Addr) (y v:V) (H':Hp):Prop :=
 (∃ kvs k,H a=some (.dK kvs)/\y=kV k/\kvs.length < sizeLine/\H'=upd H a (.dK (fM kvs k v))) \/
 ∃ kvs k b,∃ n,H a=some (.dT kvs n)/\y=.ref b/\H b=some (.tup (k.map kV))/\kvs.length < sizeLine/\H'=upd H a (.dT (fM kvs k v) n)
theorem DGet.t {H:Hp} {a b:Addr} {kvs:List (List Key×V)} {n:Int} {k:List Key} (e:H a=some (.dT kvs n)) (c:H b=some (.tup (k.map kV))):DGet H a (.ref b) (eJ kvs k):=.inr #[kvs,k,b,#[n,.inl e],rfl,c,rfl]
theorem DPut.t {H:Hp} {a b:Addr} {kvs:List (List Key×V)} {n:Int} {k:List Key} {v:V} (e:H a=some (.dT kvs n)) (c:H b=some (.tup (k.map kV))) (d:kvs.length < sizeLine) :
  DPut H a (.ref b) v (upd H a (.dT (fM kvs k v) n)):=.inr #[kvs,k,b,n,e,rfl,c,d,rfl]
section
variable {X:Cx} {pins:List (Addr×Obj)} {Y:St} {H:Hp} {s:Shared} {a:Addr} {y v:V} {u r:Value} {o:Option V} {A:Around} {E:Value->Shared->Prop}
theorem Inv.big (I:Inv X pins Y H s):sysModules < s.heap.objs.size:=by
 have h:mainGlobals < s.heap.objs.size:=(I.mod.glob.keeps I.bk).lt
 exact Nat.lt_trans (by decide) h
theorem wY {Q:Value->Shared->Prop} (hu:A.units+1 < cLine) (I:Inv X pins Y H s) (g:DGet H a y (some v)) (j:RelV y u) (h:∀ D s',Inv X pins Y H s'->RelV v D->Q D s') :
  wpAny (model X.prog X.w) A (getItem (.ref a) u) Q E s:=by
 rcases g with ⟨kvs,k,e,f,l⟩ | ⟨kvs,k,b,e,f,m,l⟩
 .subst f
  obtain ⟨z,hd,n,rel,d⟩:=z9 I.hok e
  obtain ⟨D,hw,c⟩:=RelO.some_of (v:=v) (o:=valueAt n k) (by rw[l];exact rel.val k)
  exact wpAny_getItem_of (qJ j) d.mapOf hw (h D _ (I.tok _) c)
 .subst f
  cases (show u=Value.ref b from j)
  obtain ⟨z,hd,xs,rel,d⟩:=z5 I.hok e
  obtain ⟨D,hw,c⟩:=RelO.some_of (v:=v) (o:=(atKey xs k).map (·.2)) (by rw[l];exact rel.val k)
  obtain ⟨p,q,i⟩:=GJ.mp hw
  refine wpAny_getItem_heap (tupleKind_room_in1 hu) (i5 I.hok m) d q ?_
  rw[i]
  exact h D _ (I.tok _) c
theorem jL {h':Heap} {t':Nat} {ob:HO} (I:Inv X pins Y H s) (f:Mut (H a)) (d:Heap.SameBut a s.heap h') (he:∃ q,h'.get? a=some q) (new:ObjOk X.prog X.w (upd H a ob) h' a ob) :
  Inv X pins Y (upd H a ob) { s with heap:=h',toks:=t' } :=
 I.write (x:=a) (e:=a) f (.inl rfl) (λb q c z=>(d.2 b c).trans z) he new
theorem Aa {P:Program} {w:World} {H':Hp} {h':Heap} {kvs:List (Key×V)} {b:List (Key×Value)} (z:kvs.length<=sizeLine) (hd:(a == sysModules)=false) (rel:KV kvs b) (c:DictOfE (aG P w) h' a b) :
  ObjOk P w H' h' a (.dK kvs):=#[z,hd,b,rel,c]
theorem wX {H':Hp} {Q:Unit->Shared->Prop} (hu:A.units+1 < cLine) (I:Inv X pins Y H s) (g:DPut H a y v H') (C:RelV y u) (B:RelV v r) (h:∀ s',Inv X pins Y H' s'->Q () s') :
  wpAny (model X.prog X.w) A (setItem (.ref a) u r) Q E s:=by
 rcases g with ⟨kvs,k,e,p,l,m⟩ | ⟨kvs,k,b,n,e,p,t,l,m⟩
 .subst p m
  obtain ⟨z,hd,F,rel,j⟩:=mE I.hok (.inl e)
  have hz:F.length<=sizeLine:=by rw[<- rel.length];exact z
  have o:(fM kvs k v).length<=sizeLine:=by have:=kK kvs k v;omega
  refine lH (hsz:=hz) (qJ C) j λh' d i=>h _ ?_
  have he:∃ q,h'.get? a=some q:=let #[q,_,_,f,_]:=d;#[q,f]
  exact jL I (by rw[e];exact True.intro) i he (Aa o hd (rel.put k B) d)
 .subst p m
  cases (show u=Value.ref b from C)
  obtain ⟨z,hd,xs,rel,j⟩:=ie I.hok (.inl e)
  have hz:xs.length<=sizeLine:=by rw[<- Paired.length rel];exact z
  have o:(fM kvs k v).length<=sizeLine:=by have:=kK kvs k v;omega
  refine mL (hsz:=hz) (tupleKind_room_in1 hu) (i5 I.hok t) j λh' d i=>h _ ?_
  obtain ⟨q,es,ep,f,h2,h3,G,_,D⟩:=d
  refine jL I (by rw[e];exact True.intro) i #[q,f] #[o,hd,_,(rel.put k t B).keeps λc ys x=>?_,q,es,ep,f,h2,h3,G,D]
  rw[ay (zm x e (λz=>nomatch z))]
  exact x
end
theorem q9 {X:Cx} {pins:List (Addr×Obj)} {Y:St} {H:Hp} {s:Shared} {a:Addr} {y:V} {o:Option V} (I:Inv X pins Y H s) (g:DGet H a y o):s.TypeIs (.ref a) "dict":=by
 rcases g with ⟨kvs,k,e,_,_⟩ | ⟨kvs,k,b,e,_,_,_⟩
 .obtain ⟨_,_,d,_,c⟩:=z9 I.hok e
  exact c.typeIs
 .obtain ⟨_,_,xs,_,c⟩:=z5 I.hok e
  exact c.typeIs
theorem Ab {P:Program} {w:World} {H:Hp} (h:Heap) (a:sysModules < h.objs.size):ObjOk P w H (h.push { cls:=.type "dict",data:=.dict (List.toArray []) }) h.objs.size (.dK []) :=
 #[Nat.zero_le _,beq_eq_false_iff_ne.mpr (Ne.symm (G4 a)),[],.nil,_,(List.toArray []),0,GR _ rfl,#[rfl,rfl,rfl],rfl,(λ_ h=>by simp at h),.nil,List.nodup_nil,rfl]
theorem qZ {P:Program} {w:World} {H:Hp} (h:Heap) (a:sysModules < h.objs.size):ObjOk P w H (h.push { cls:=.type "dict",data:=.dict (List.toArray []) }) h.objs.size (.dT [] 0) :=
 #[Nat.zero_le _,beq_eq_false_iff_ne.mpr (Ne.symm (G4 a)),[],.nil,_,(List.toArray []),0,GR _ rfl,#[rfl,rfl,rfl],rfl,rfl,List.nodup_nil,rfl]
def Eb:TE:=λ_ H Q=>∀ p,H p=none->Q (.ref p) (upd H p (.dT [] 0))
section
variable {X:Cx} {pos:Pos}
theorem y8:PE X (.Dict [] [] pos) Eb:=λpins s Y H Q I h =>
 wpAny_Dict_empty #[.ref s.heap.objs.size,_,I.laid (a:=s.heap.objs.size) (o:=.dT [] 0) (t':=s.toks) (λ_ _ q=>GI _ q) (GZ _) (qZ s.heap I.big),rfl,h _ (I.hok.fresh (GZ _))]
end
section
variable {X:Cx} {pins:List (Addr×Obj)} {Y:St} {H:Hp} {s:Shared} {a:Addr} {y d:V} {u r:Value} {o:Option V} {A:Around} {E:Value->Shared->Prop}
theorem Gj {Q:Value->Shared->Prop} (hu:A.units+1 < cLine) (I:Inv X pins Y H s) (g:DGet H a y o) (i:RelV y u) (rd:RelV d r) (h:∀ D s',Inv X pins Y H s'->RelV (o.getD d) D->Q D s') :
  wpAny (model X.prog X.w) A (call (.builtin "dict.get") [.ref a,u,r]) Q E s:=by
 rcases g with ⟨kvs,k,e,f,l⟩ | ⟨kvs,k,b,e,f,j,l⟩
 .subst f
  obtain ⟨z,hd,m,rel,c⟩:=z9 I.hok e
  refine call_meetsIn PySem.F.slot_dict_get c.typeIs PySem.F.entry_dict_get (PySem.F.args_dict_get_3 _ _ _) (meets_dict_get_default (aG X.prog X.w) a (qJ i) hd r) #[_,c.mapOf,h _ _ (I.tok _) ?_]
  rw[l]
  exact (rel.val k).getD rd
 .subst f
  cases (show u=Value.ref b from i)
  obtain ⟨z,hd,xs,rel,c⟩:=z5 I.hok e
  refine call_meetsIn PySem.F.slot_dict_get c.typeIs PySem.F.entry_dict_get (PySem.F.args_dict_get_3 _ _ _) (meetsH_dict_get_default (tupleKind (aG X.prog X.w)) a b hd r) #[tupleKind_room_in1 hu,k,xs,i5 I.hok j,c,h _ _ (I.tok _) ?_]
  rw[l]
  exact (rel.val k).getD rd
end
end L2
namespace L2
open PySem PySem.Spec PyProof.Rows
section
variable {κ:Type} [DecidableEq κ]
theorem kj {p:κ×V} {r:List (κ×V)} {k:κ} (e:p.1=k):eX (p::r) k=eX r k:=by
 unfold eX
 rw[List.filter_cons,if_neg (by simp[e])]
theorem nU {p:κ×V} {r:List (κ×V)} {k:κ} (e:¬ p.1=k):eX (p::r) k=p::eX r k:=by
 unfold eX
 rw[List.filter_cons,if_pos (by simp[e])]
end
end L2
end
section
namespace L2
open PySem PySem.Spec PyProof.Rows
def kT (cells:List (Str×Addr)) (cs:List (Str×Addr)) (x:Str×NameKind):List (Str×Addr) :=
 if x.2 == .free then (match cells.lookup x.1 with | some c=>(x.1,c)::cs | none=>cs) else cs
def clo (cells:List (Str×Addr)) (names:List (Str×NameKind)):List (Str×Addr):=names.foldl (kT cells) []
theorem mn {α β:Type} {f:α->β->Sem (ForInStep β)} {g:β->α->β}:∀ {l:List α} {c:β},(∀ x∈l,∀ c,f x c=pure (.yield (g c x)))->forIn l c f=pure (l.foldl g c)
 | [],c,_=>rfl
 | x::l,c,h=>by
  rw[List.forIn_cons,h x GG,pure_bind]
  exact mn λy D=>h y (GH _ D)
theorem ip (h:∀ x∈scope.names,x.2=.free->∃ c,env.cells.lookup x.1=some c):closureFor scope env=pure (clo env.cells scope.names):=by
 simp only[closureFor]
 rw[mn (g:=kT env.cells) (λx f c=>by
  obtain ⟨n,kind⟩:=x
  unfold kT
  by_cases b:kind=.free
  .subst b
   obtain ⟨a,e⟩:=h _ f rfl
   have i:env.cells.lookup n=some a:=e
   simp[cellOf,i]
  .have d:(kind == NameKind.free)=false:=by simpa using b
   simp[d])]
 rfl
theorem nM:∀ {l:List (Str×NameKind)} {cs:List (Str×Addr)},(∀ y d,cs.lookup y=some d->cells.lookup y=some d)->(l.foldl (kT cells) cs).lookup x=some c->cells.lookup x=some c
 | [],cs,h,e=>h x c e
 | y::l,cs,h,e=>by
  refine nM (l:=l) (cs:=kT cells cs y) (λz d q=>?_) e
  unfold kT at q
  split at q
  .cases b:cells.lookup y.1 with
   | none=>rw[b] at q;exact h z d q
   | some a =>
    rw[b] at q
    simp only[List.lookup_cons] at q
    cases hz:z == y.1 with
    | true=>rw[hz] at q;have:=eq_of_beq hz;subst this;rw[b];exact q
    | false=>rw[hz] at q;exact h z d q
  .exact h z d q
theorem fT (e:(clo cells l).lookup x=some c):cells.lookup x=some c:=nM (λ_ _ q=>by simp at q) e
theorem mr (b:cells.lookup x=some c):∀ {l:List (Str×NameKind)} {cs:List (Str×Addr)},cs.lookup x=some c->(l.foldl (kT cells) cs).lookup x=some c
 | [],_,e=>e
 | y::l,cs,e=>by
  refine mr b (l:=l) (cs:=kT cells cs y) ?_
  unfold kT
  split
  .cases d:cells.lookup y.1 with
   | none=>exact e
   | some a =>
    simp only[List.lookup_cons]
    cases hz:x == y.1 with
    | true=>have:=eq_of_beq hz;subst this;rw[b] at d;exact d.symm
    | false=>exact e
  .exact e
theorem nO (a:cells.lookup x=some c):∀ {l:List (Str×NameKind)} {cs:List (Str×Addr)},(x,NameKind.free)∈l->(l.foldl (kT cells) cs).lookup x=some c
 | [],_,m=>by simp at m
 | y::l,cs,m=>by
  rcases GN.mp m with rfl | m
  .refine mr a (l:=l) ?_
   simp[kT,a]
  .exact nO a (l:=l) (cs:=kT cells cs y) m
theorem vC (a:cells.lookup x=some c) (m:(x,NameKind.free)∈l):(clo cells l).lookup x=some c:=nO a m
theorem jn {env:Env}:∀ {names:List (Str×NameKind)} {x:Str},names.lookup x=some .free ->
  (names.map λ(n,k)=>if (k == NameKind.free && env.scope.kind == .function && env.kindOf n == some .cell) then (n,NameKind.cell) else (n,k)).lookup x=some .cell \/
  (names.map λ(n,k)=>if (k == NameKind.free && env.scope.kind == .function && env.kindOf n == some .cell) then (n,NameKind.cell) else (n,k)).lookup x=some .free
 | [],_,h=>by simp at h
 | (n,k)::r,x,h=>by
  have D:=@jn env r x
  show List.lookup x ((if (k == NameKind.free && env.scope.kind == .function && env.kindOf n == some .cell)=true then (n,NameKind.cell) else (n,k))::_)=_ \/
   List.lookup x ((if (k == NameKind.free && env.scope.kind == .function && env.kindOf n == some .cell)=true then (n,NameKind.cell) else (n,k))::_)=_
  cases a:x == n with
  | true =>
   simp only[List.lookup_cons,a] at h
   cases h
   split
   .left;simp[List.lookup_cons,a]
   .right;simp[List.lookup_cons,a]
  | false =>
   simp only[List.lookup_cons,a] at h
   split
   .simp only[List.lookup_cons,a];exact D h
   .simp only[List.lookup_cons,a];exact D h
theorem lN {env:Env}:∀ {names:List (Str×NameKind)} {x:Str},
  ((names.map λ(n,k)=>if (k == NameKind.free && env.scope.kind == .function && env.kindOf n == some .cell) then (n,NameKind.cell) else (n,k)).lookup x=some .cell \/
  (names.map λ(n,k)=>if (k == NameKind.free && env.scope.kind == .function && env.kindOf n == some .cell) then (n,NameKind.cell) else (n,k)).lookup x=some .free)->(x,NameKind.free)∈names\/(x,NameKind.cell)∈names
 | [],_,h=>by simp at h
 | (n,k)::r,x,h=>by
  have D:=@lN env r x
  have h':List.lookup x ((if (k == NameKind.free && env.scope.kind == .function && env.kindOf n == some .cell)=true then (n,NameKind.cell) else (n,k))::(r.map λ(n,k)=>if (k == NameKind.free && env.scope.kind == .function && env.kindOf n == some .cell) then (n,NameKind.cell) else (n,k)))=some .cell \/
   List.lookup x ((if (k == NameKind.free && env.scope.kind == .function && env.kindOf n == some .cell)=true then (n,NameKind.cell) else (n,k))::(r.map λ(n,k)=>if (k == NameKind.free && env.scope.kind == .function && env.kindOf n == some .cell) then (n,NameKind.cell) else (n,k)))=some .free:=h
  cases a:x == n with
  | true =>
   have e:=eq_of_beq a
   subst e
   by_cases hf:k=.free
   .subst hf;exact .inl GG
   .have b:(k == NameKind.free)=false:=by simpa using hf
    simp[b,List.lookup_cons] at h'
    rcases h' with q | q
    .subst q;exact .inr GG
    .exact (hf q).elim
  | false =>
   refine (D ?_).imp (GH _) (GH _)
   split at h'
   .simpa only [List.lookup_cons,a] using h'
   .simpa only [List.lookup_cons,a] using h'
theorem mG {x:Str} {c:Addr}:∀ {names:List (Str×NameKind)} {n:Nat} {acc:List (Str×Addr)},(cellsFrom n names acc).lookup x=some c->n<=c\/acc.lookup x=some c
 | [],_,_,h=>.inr h
 | (y,k)::r,n,acc,h=>by
  unfold cellsFrom at h
  split at h
  .rcases mG h with q | q
   .exact .inl (Nat.le_of_succ_le q)
   .rw[List.lookup_cons] at q
    split at q
    .cases q;exact .inl (GZ _)
    .exact .inr q
  .exact mG h
set_option tactic.hygienic true in
theorem Aj {x:Str} {c:Addr} {lo:Nat}:∀ {names:List (Str×NameKind)} {n:Nat} {acc:List (Str×Addr)},lo<=n->((x,NameKind.cell)∈names\/∀ d,acc.lookup x=some d->lo<=d)->(cellsFrom n names acc).lookup x=some c->lo<=c
 | [],_,_,_,m,h=>m.elim (λm=>by simp at m) λm=>m c h
 | (y,k)::r,n,acc,hl,m,h=>by
  unfold cellsFrom at h
  split at h
  .refine Aj (Nat.le_succ_of_le hl) ?_ h
   by_cases e:x=y
   .refine .inr λd hd=>?_
    rw[List.lookup_cons,beq_iff_eq.mpr e] at hd
    cases hd;exact hl
   .refine m.imp (λm=>(GN.mp m).resolve_left λz=>e (Prod.mk.inj z).1) λm d hd=>m d ?_
    rw[List.lookup_cons,beq_false_of_ne e] at hd
    exact hd
  .rename_i D
   exact Aj hl (m.imp_left λm=>(GN.mp m).resolve_left λz=>D (by rw[<- (Prod.mk.inj z).2];rfl)) h
set_option tactic.hygienic true in
theorem tR {x:Str}:∀ {names:List (Str×NameKind)} {n:Nat} {acc:List (Str×Addr)},(x,NameKind.cell) ∉ names->(cellsFrom n names acc).lookup x=acc.lookup x
 | [],_,_,_=>rfl
 | (y,k)::r,n,acc,h=>by
  have h2:(x,NameKind.cell) ∉ r:=λm=>h (GH _ m)
  unfold cellsFrom
  split
  .rename_i a
   rw[tR h2,List.lookup_cons,beq_false_of_ne λe=>h (by rw[e,<- eq_of_beq a];exact GG)]
  .exact tR h2
theorem tU:∀ {names:List (Str×NameKind)} {n:Nat} {acc:List (Str×Addr)},(∀ x y c,acc.lookup x=some c->acc.lookup y=some c->x=y)->(∀ x c,acc.lookup x=some c->c < n)->∀ x y c,(cellsFrom n names acc).lookup x=some c->(cellsFrom n names acc).lookup y=some c->x=y
 | [],_,_,h,_=>h
 | (z,k)::r,n,acc,h,hl=>by
  unfold cellsFrom
  split
  .refine tU (λx y c e1 D=>?_) λx c e=>?_
   .rw[List.lookup_cons] at e1 D
    cases I:x == z <;> cases F:y == z <;> rw[I] at e1 <;> rw[F] at D
    .exact h x y c e1 D
    .cases D;exact absurd (hl _ _ e1) (Nat.lt_irrefl _)
    .cases e1;exact absurd (hl _ _ D) (Nat.lt_irrefl _)
    .rw[eq_of_beq I,eq_of_beq F]
   .rw[List.lookup_cons] at e
    split at e
    .cases e;exact Nat.lt_succ_self _
    .exact Nat.lt_succ_of_lt (hl x c e)
  .exact tU h hl
theorem pi:∀ {names:List (Str×NameKind)} {h:Heap} {acc:List (Str×Addr)},(∀ x c,acc.lookup x=some c->∃ v,h.IsCell c v)->∀ x c,(cellsFrom h.objs.size names acc).lookup x=some c->∃ v,(pushCells h names).IsCell c v
 | [],_,_,h=>h
 | (z,k)::r,hp,acc,h=>by
  unfold cellsFrom pushCells
  split
  .have:=pi (names:=r) (h:=hp.push { cls:=.type "cell",data:=.cell none }) (acc:=(z,hp.objs.size)::acc) λx c e=>by
    rw[List.lookup_cons] at e
    split at e
    .cases e;exact #[none,_,GR _ rfl,rfl]
    .obtain ⟨v,q⟩:=h x c e
     exact #[v,q.keeps λb o e=>GI _ e]
   rwa [Hm] at this
  .exact pi h
theorem mJ {M:Model} {A:Around} {E:Value->Shared->Prop} {s:Shared} {scope:Scope} {globals:Addr} {cl:List (Str×Addr)} {qual:Str} {env:Env} {Q:Env->Shared->Prop}
  (h:Q (newEnv scope s.heap.objs.size globals (cellsFrom (s.heap.objs.size+1) scope.names cl) qual none .none (some env) builtinsNs) { s with heap:=pushCells (s.heap.push { cls:=.type "dict",data:=.dict (List.toArray []) }) scope.names }) :
  wpAny M A (newFunctionEnv scope globals cl [] qual none .none (some env)) Q E s:=by
 simp only[newFunctionEnv,Option.isSome_some,if_true]
 refine GC (wpAny_alloc ?_)
 refine GC (wpAny_layCells _ (λname kind cells=>by cases a:kind == NameKind.cell <;> simp[a]) _ _ _ _ ?_)
 rw[show ({ s with heap:=s.heap.push { cls:=.type "dict",data:=.dict (List.toArray []) } }:Shared).heap.objs.size=s.heap.objs.size+1 from Hm ..]
 exact GC (by rw[List.forIn_nil];exact GD (GD h))
abbrev lj (X:Cx) (scope:Scope) (C:Addr):List (Str×Addr):=cellsFrom (C+1) scope.names (clo X.env.cells scope.names)
def aM (X:Cx) (NY:List Str) (scope:Scope) (s:Shared) (H:Hp) (C:Addr) (fp:List Addr):Cx where
 prog:=X.prog
 w:=X.w
 K:=X.K
 mg:=X.mg
 base:=X.base
 A:=X.A
 N:=NY
 s₀:=s
 H₀:=H
 env:=compEnvC scope (lj X scope C) C X.env
 outer:=X.stack
 stack:=X.stack
 ex:=fp
 fn:=λx=>scope.names.lookup x == some .cell
 calm:=X.calm
 pn:=[]
 xe:=λ_ _=>False
def cap (ix:List (Option Nat)) (Y:St):St:=ix.map λo=>match o with | some i=>(Y[i]?).getD none | none=>none
def ik (sc:Scope) (b:List Str) (a:Scope) (NY:List Str) (ix:List (Option Nat)):Bool :=
 sc.kind == .function && sc.names.all (λy=>y.2 != .cell || sc.names.lookup y.1 == some .cell) && sc.names.all (λy=>y.2 != .local || sc.names.lookup y.1 == some .local) && sc.names.all (λy=>y.2 != .free || sc.names.lookup y.1 == some .free)
  && sc.names.all (λy=>y.2 != .free || (a.names.lookup y.1 == some .cell || a.names.lookup y.1 == some .free))
  && ix.length == NY.length && (NY.zip ix).all λp=>match p.2 with | none=>true | some i=>(b[i]? == some p.1) && sc.names.contains (p.1,NameKind.free)
structure CompOk (sc:Scope) (XN:List Str) (Xsc:Scope) (NY:List Str) (ix:List (Option Nat)):Prop where
 kind:sc.kind=.function
 cel:∀ y∈sc.names,y.2=.cell->sc.names.lookup y.1=some .cell
 loc:∀ y∈sc.names,y.2=.local->sc.names.lookup y.1=some .local
 fre:∀ y∈sc.names,y.2=.free->sc.names.lookup y.1=some .free
 out:∀ y∈sc.names,y.2=.free->Xsc.names.lookup y.1=some .cell\/Xsc.names.lookup y.1=some .free
 len:ix.length=NY.length
 cap:∀ (j:Nat) x i,NY[j]?=some x->ix[j]?=some (some i)->XN[i]?=some x/\(x,NameKind.free)∈sc.names
theorem CompOk.of (h:ik sc XN Xsc NY ix=true):CompOk sc XN Xsc NY ix:=by
 simp only[ik,Bool.and_eq_true,List.all_eq_true,beq_iff_eq] at h
 obtain ⟨⟨⟨⟨⟨⟨h1,h2⟩,h3⟩,d⟩,b⟩,f⟩,h7⟩:=h
 refine #[h1,λy a e=>?_,λy a e=>?_,λy a e=>?_,λy a e=>?_,f,λj x i e1 c=>?_]
 .have:=h2 y a;rw[e] at this;simpa using this
 .have:=h3 y a;rw[e] at this;simpa using this
 .have:=d y a;rw[e] at this;simpa using this
 .have:=b y a;rw[e] at this;simpa using this
 .have m:(x,some i)∈NY.zip ix:=by
   refine GV (i:=j) ?_
   rw[List.getElem?_zip_eq_some]
   exact #[e1,c]
  have:=h7 _ m
  simpa using this
section
variable {X:Cx}
theorem FpOk.of_upd (f:FpOk X pins H b) (h:b≠D):FpOk X pins (upd H D o) b:=#[by rw[ay h];exact f.1,f.2]
theorem HOk.track (x:HOk P w H h) (f:H a=none) (new:ObjOk P w (upd H a o) h a o):HOk P w (upd H a o) h:=λb u e=>by
 by_cases d:b=a
 .subst d;rw[aD] at e;cases e;exact new
 .rw[ay d] at e
  exact (x b u e).stay (λc v _ q=>q) (λc q=>by rw[ay (aT q f)];exact q) λc xs q=>by rw[ay (aT q f)];exact q
def PTs (σ:Cx) (ifs:List Expr) (t:TT):Prop :=
 ∀ (pins:List (Addr×Obj)) (s:Shared) (Y:St) (H:Hp) (Q:Bool->Hp->Prop),Inv σ pins Y H s->t Y H Q ->
  wpAny (model σ.prog σ.w) σ.A (forIn ifs true λc r=>if r=true then do let ok <- isTrue c σ.env (eval c σ.env);pure (ForInStep.yield ok) else pure (ForInStep.yield r)) (TP σ pins Y Q) σ.xe s
def tYes:TT:=λ_ H Q=>Q true H
theorem BD:PTs σ [] tYes:=λpins s Y H Q I h=>wpAny_tests_nil #[H,I,h]
def rX (J:It) (g:TG) (tc:TT) (te:TE) (ρ:List V->Hp->Prop) (τ0:St) (H1:Hp):Prop :=
 ∃ W:Nat->Nat->List V->St->Hp->Prop,(∃ m,W 0 m [] τ0 H1)/\∀ i m ys τ H,W i m ys τ H->ys.length < sizeLine /\
  ((J.stop i H/\ρ ys H)\/(J.go i H/\∃ N:List V->St->Hp->Prop,(∀ a τ' H',N a τ' H'->∃ d,d < m/\W (i+1) d a τ' H')/\∀ x H',J.yld i H x H'->g x τ H' λτ2 H2=>tc τ2 H2 λb c =>
   if b=true then te τ2 c λy e=>N (ys++[y]) τ2 e else N ys τ2 c))
def C6 (a:TI) (g:TG) (tc:TT) (te:TE) (ix:List (Option Nat)):TE:=λY H Q =>
 a Y H λJ H1=>rX J g tc te (λys H2=>∀ p,H2 p=none->Q (.ref p) (upd H2 p (.lst ys))) (cap ix Y) H1
theorem tQ (d:CompOk scope X.N X.env.scope NY ix) (I:Inv X pins Y H s) (f:∀ b∈fp,FpOk X pins H b) (g:s.heap.objs.size<=C) (n:∀ b∈fp,b < s.heap.objs.size) (S:s4.os=s.os) (K:s4.gens=s.gens) (keep:∀ b o,s.heap.get? b=some o->s4.heap.get? b=some o) (ns:s4.heap.Ns C λ_=>none) (A:∀ x c,(lj X scope C).lookup x=some c->∃ v,s4.heap.IsCell c v):Inv (aM X NY scope s H C fp) [] (cap ix Y) H s4:=by
 have D:FpOk X pins H C:=I.fpOk g (I.hok.fresh g)
 have sb:∀ x c,(lj X scope C).lookup x=some c->C+1<=c\/X.env.cells.lookup x=some c:=λx c e=>(mG e).imp_right fT
 have lt:∀ x c,X.env.cells.lookup x=some c->c < s.heap.objs.size:=λx c e=>let #[_,q]:=I.cell x c e;q.lt
 have t:∀ x,(x,NameKind.free)∈scope.names->∃ c,X.env.cells.lookup x=some c:=λx m=>by
  rcases d.out _ m rfl with q | q
  .exact I.ok.has x (.inl q)
  .exact I.ok.has x (.inr q)
 refine ⟨⟨I.ok.mod,d.kind,I.ok.glob,I.ok.blt,g,tU (λx y c e1 w=>I.ok.inj x y c (fT e1) (fT w)) (λx c e=>Nat.lt_succ_of_le (Ho (Nat.le_of_lt (lt x c (fT e))) g)),λx O=>?_,λx c e h=>Ho g (Nat.le_of_succ_le (Aj (GZ _) (.inl (PySem.mem_of_lookup (eq_of_beq e))) h)),λe=>I.ok.hd e,I.ok.frames,.inl rfl,λb j=>⟨G4 (G9 (n b j) g),λx c e=>(sb x c e).elim (λz=>Nat.ne_of_gt (G9 (n b j) (Ho g (Nat.le_of_succ_le z)))) λz=>(f b j).2.2.2.2.1 x c z⟩,
  I.bs,Ho I.ok.bsz I.sz,λb o e j=>?_,λb j hz=>?_,I.stack,I.stkFree⟩,S,by rw[K];exact I.bare,Un.kept keep,⟨_,ns,λi x v e1 w T=>?_⟩,A,D.1,λx c e=>(sb x c e).elim (λz=>I.hok.fresh (Ho g (Nat.le_of_succ_le z))) λz=>I.freeC x c z,λp P=>absurd (show p∈([]:List (Addr×Obj)) from P) (by simp),I.hok.kept keep,?_⟩
 .refine Option.isSome_iff_exists.mp (PySem.W.cellsFrom_some _ _ _ ?_)
  rcases lN O with m | m
  .obtain ⟨c,e⟩:=t x m
   exact .inr (by rw[vC e m];rfl)
  .exact .inl (d.cel _ m rfl)
 .rcases (f b j).2.2.2.1 with z | z
  .exact I.ok.noex b o e z
  .exact absurd (G9 (GP e) (Ho I.ok.bsz z)) (Nat.lt_irrefl _)
 .rcases GN.mp (I.stkSub b hz) with e | e
  .exact (f b j).2.1 e
  .exact (f b j).2.2.1 e
 .-- a captured name
  have q:∃ k,ix[i]?=some (some k)/\Y[k]?=some (some v):=by
   unfold cap at w
   grind
  obtain ⟨k,E,ev⟩:=q
  obtain ⟨M,m⟩:=d.cap i x k e1 E
  obtain ⟨φ,L,F⟩:=I.loc
  have R:Vis X.env.scope x:=by
   rcases d.out _ m rfl with q | q
   .exact .inr (.inl q)
   .exact .inr (.inr q)
  obtain ⟨u,r,l⟩:=F k x v M ev R
  refine #[u,r,.inr ?_]
  rcases l with ⟨B,_⟩ | ⟨_,c,J,G⟩
  .exfalso
   rcases d.out _ m rfl with q | q
   .have:=B.symm.trans q;cases this
   .have:=B.symm.trans q;cases this
  .obtain ⟨o,Q,hd⟩:=G
   exact #[jn (d.fre _ m rfl),c,(tR λz=>by have h1:scope.names.lookup x=_:=d.cel _ z rfl;rw[show scope.names.lookup x=_ from d.fre _ m rfl] at h1;cases h1).trans (vC J m),o,keep c o Q,hd]
 .show (cap ix Y).length=NY.length
  unfold cap
  rw[GS]
  exact d.len
set_option tactic.hygienic true in
theorem io (I:Nat->Shared->Prop) (turn:∀ n s,I n s->wpAny (model prog w) A (pyNext it) (λr F=>match r with
   | none=>R (.ok .next) F
   | some v=>wpAny (model prog w) A (letOwnedTupleGo target it v) (λ_ D=>wpAny (model prog w) A (assign target env v) (λ_ Q =>
     wpAny (model prog w) A (forIn ifs true λc r=>if r=true then do let ok <- isTrue c env (eval c env);pure (ForInStep.yield ok) else pure (ForInStep.yield r)) (λok J =>
      if ok=true then wpAny (model prog w) A (eval elt env) (λx N =>
       wpAny (model prog w) A (call (.builtin "list.append") [acc,x]) (λ_ M=>∃ m,m < n/\I m M) (λ_ _=>False) N) (λ_ _=>False) J
      else ∃ m,m < n/\I m J) (λ_ _=>False) Q) (λ_ _=>False) D) (λ_ _=>False) F) (λ_ _=>False) s) (n:Nat) (h:I n s) :
  codeAny (model prog w) A (.compLoop (.ListComp elt [#[target,iter,ifs,0]] scope pos) 0 it acc env) R s:=by
 refine codeAny_loop rfl I (λn s g=>?_) n h
 show wpAny _ A ((compTurn (.ListComp elt [#[target,iter,ifs,0]] scope pos) 0 it acc env).onRaise (λx=>do noteFrame x env;theTreesLotGoes x)) _ _ s
 refine wpAny_noted ?_
 rw[compTurn_list]
 refine GC (wpAny_standAt (GC (wpAny_mono (turn n s g) (λr F d=>?_) λ_ _ h'=>h'.elim)))
 cases r with
 | none=>exact GD d
 | some v =>
  refine GC (wpAny_mono d (λ_ D a=>?_) λ_ _ h'=>h'.elim)
  refine GC (wpAny_mono a (λ_ Q f=>GC (wpAny_mono f (λok J b=>?_) λ_ _ h'=>h'.elim)) λ_ _ h'=>h'.elim)
  cases ok with
  | false=>exact GD #[rfl,b]
  | true =>
   exact GC (GC (wpAny_mono b (λx N i=>GC (wpAny_mono i (λ_ M e=>GD (GD #[rfl,e])) λ_ _ h'=>h'.elim)) λ_ _ h'=>h'.elim))
set_option tactic.hygienic true in
theorem rj {RR:Value->Addr->Result->Shared->Prop} (hc:X.calm=true) (ck:CompOk scope X.N X.env.scope NY ix) (hg:∀ s H C fp,PG (aM X NY scope s H C fp) tg g) (ht:∀ s H C fp,PTs (aM X NY scope s H C fp) ifs tc) (he:∀ s H C fp,PE (aM X NY scope s H C fp) elt te) (I:Inv X pins Y H s) (T:Turn X.prog X.w X.K tg J fp it tn) (st:tn 0 s.heap) (f:∀ b∈fp,FpOk X pins H b) (hW:rX J g tc te ρ (cap ix Y) H) (b3:∀ D C s' ys H' m,s'.heap.Ns C m->H' D=none->FpOk X pins (upd H' D (.lst ys)) C->Inv X pins Y (upd H' D (.lst ys)) s'->ρ ys H'->RR (.ref D) C (.ok .next) s') :
  wpAny (model X.prog X.w) X.A (newList []) (λacc s₃=>wpAny (model X.prog X.w) X.A (newFunctionEnv scope X.env.globals (clo X.env.cells scope.names) [] X.env.qual none .none (some X.env)) (λF s₄ =>
   codeAny (model X.prog X.w) X.A (.compStart (.ListComp elt [#[tg,iter,ifs,0]] scope pos) 0 (.ref it) acc { F with scope:=relabel scope X.env }) (RR acc F.locals) s₄) E s₃) E s:=by
 obtain ⟨W,⟨m0,w0⟩,turn⟩:=hW
 refine wpAny_newObj_type (mJ ?_)
 dsimp only
 generalize Q:s.heap.push { cls:=.type "list",dict:=none,data:=.seq ([]:List Value).toArray }=H2
 have φ:H2.objs.size=s.heap.objs.size+1:=by rw[<- Q,Hm]
 have O:s.heap.objs.size≠H2.objs.size:=by rw[φ];exact G4 (Nat.lt_succ_self _)
 have j:s.heap.objs.size<=H2.objs.size:=by rw[φ];exact Nat.le_succ _
 generalize M:s.heap.objs.size=D at *
 generalize hC:H2.objs.size=C at *
 have below:∀ b o,s.heap.get? b=some o->b < D:=λb o e=>by rw[<- M];exact GP e
 have kp:∀ b o,H2.get? b=some o->(pushCells (H2.push { cls:=.type "dict",data:=.dict (List.toArray []) }) scope.names).get? b=some o:=λb o e=>pushCells_keeps _ _ b o (GI _ e)
 have t:∀ b o,s.heap.get? b=some o->H2.get? b=some o:=λb o e=>Q ▸ GI _ e
 have az:∀ x c,(lj X scope C).lookup x=some c->∃ v,(pushCells (H2.push { cls:=.type "dict",data:=.dict (List.toArray []) }) scope.names).IsCell c v:=by
  have:=pi (names:=scope.names) (h:=H2.push { cls:=.type "dict",data:=.dict (List.toArray []) }) (acc:=clo X.env.cells scope.names) λx c e=>let #[v,q]:=I.cell x c (fT e);#[v,q.keeps λb o e=>GI _ (t b o e)]
  rwa [Hm,hC] at this
 have hns₁:(pushCells (H2.push { cls:=.type "dict",data:=.dict (List.toArray []) }) scope.names).Ns C λ_=>none:=hC ▸ (Heap.Ns.new H2 (.type "dict")).keeps (pushCells_keeps _ _)
 generalize pushCells (H2.push { cls:=.type "dict",data:=.dict (List.toArray []) }) scope.names=h₁ at kp az hns₁ ⊢
 have old:∀ b o,s.heap.get? b=some o->h₁.get? b=some o:=λb o e=>kp b o (t b o e)
 have P:H2.get? D=some { cls:=.type "list",dict:=none,data:=.seq ([]:List Value).toArray }:=by
  rw[<- Q,<- M];exact GR _ rfl
 have a0:h₁.PlainList D (List.toArray []):=#[_,kp _ _ P]
 have σ:∀ b∈fp,b < s.heap.objs.size:=λb a=>by
  obtain ⟨o,e,_⟩:=T.obj 0 _ st b a
  exact GP e
 have k:∀ b∈fp,b < D:=λb a=>by rw[<- M];exact σ b a
 have IY:Inv (aM X NY scope s H C fp) [] (cap ix Y) H { s with heap:=h₁ } :=
  tQ ck I f (by rw[M];exact j) σ rfl rfl old hns₁ az
 have bb:H D=none:=I.hok.fresh (by rw[M];exact GZ _)
 have l:∀ b∈frs X.stack,b < D:=λb a=>by
  obtain ⟨_,o,ho,_⟩:=I.stack.mem a
  exact below b o ho
 have loop:∀ s₃:Shared,s₃={ s with heap:=h₁ } ->
   codeAny (model X.prog X.w) X.A (.compLoop (.ListComp elt [#[tg,iter,ifs,0]] scope pos) 0 (.ref it) (.ref D) (aM X NY scope s H C fp).env) (RR (.ref D) C) s₃:=by
  rintro s₃ rfl
  refine io (λn s'=>∃ i ys τ H' its,Inv (aM X NY scope s H C fp) [] τ H' s'/\H' D=none/\s'.heap.PlainList D its/\Vals ys its.toList/\tn i s'.heap/\(∀ b∈fp,H' b=none)/\W i n ys τ H') ?_ m0
   #[0,[],cap ix Y,H,(List.toArray []),IY,bb,a0,.nil,T.keep _ _ _ st λb _ o e=>old b o e,λb a=>(f b a).1,w0]
  rintro n s3 ⟨i,ys,τ,S,its,I3,d3,l3,v3,ax,ab,w3⟩
  obtain ⟨nl,e3⟩:=id l3
  have V:Inv (aM X NY scope s H C fp) [(D,{ cls:=.type "list",data:=.seq its nl })] τ S s3:=I3.pins_of λp hp=>by
   have e:p=(D,{ cls:=.type "list",data:=.seq its nl }):=by simpa using hp
   subst e
   exact #[e3,d3,O,λz=>Nat.lt_irrefl _ (l D z),λv z=>by cases z]
  have L:∀ {H':Hp} {pl:List (Addr×Obj)},(∀ b∈fp,H' b=none)->(∀ p∈pl,p.1=D)->∀ b∈fp,FpOk (aM X NY scope s H C fp) pl H' b:=λhn hp b a =>
   ⟨hn b a,G4 (G9 (k b a) j),λz=>by
    rcases GN.mp (I.stkSub b z) with e | e
    .exact (f b a).2.1 e
    .exact (f b a).2.2.1 e,.inl a,λx c e=>(mG e).elim (λz=>Nat.ne_of_gt (G9 (k b a) (Ho j (Nat.le_of_succ_le z)))) λz=>(f b a).2.2.2.2.1 x c (fT z),λp be=>by
    have e:p.1=D:=hp p ((GQ.mp be).elim (λz=>absurd (show p∈([]:List (Addr×Obj)) from z) (by simp)) λz=>z)
    rw[e]
    exact Nat.ne_of_gt (k b a)⟩
  obtain ⟨zl,step⟩:=turn i n ys τ S w3
  have single:∀ p∈[(D,({ cls:=.type "list",data:=.seq its nl }:Obj))],p.1=D:=λp hp=>by
   have e:p=(D,{ cls:=.type "list",data:=.seq its nl }):=by simpa using hp
   rw[e]
  rcases step with ⟨stop,qn⟩ | ⟨go,N,hN,step⟩
  .refine wpAny_mono (T.done (aM X NY scope s H C fp) rfl rfl rfl hc i _ s3 τ S (λ_ _=>False) V (L ab single) ax stop) (λr s4 #[hr,R]=>?_) λ_ _ e=>e
   subst hr
   obtain ⟨mC,b0,_⟩:=id R.loc
   obtain ⟨e4,d4,_⟩:=R.pin (D,{ cls:=.type "list",data:=.seq its nl }) (by simp[aM])
   have a5:∀ b o,s.heap.get? b=some o->b≠D:=λb o e=>G4 (below b o e)
   have G:=R.base
   refine b3 D C s4 ys S mC b0 d4 ?_ ?_ qn
   .exact (I.fpOk (by rw[M];exact j) (by exact R.free)).of_upd (Ne.symm O)
   .refine I.call' (ch:=fp) R.os (H':=upd S D (.lst ys)) #[G.keep,G.slot,λb o e n hx=>?_,G.there,λb xs e=>?_,λb o u e=>?_,λb ps e=>?_] ?_ R.bare λb a=>?_
    .rw[ay (a5 b o e)];exact G.free b o e n hx
    .have q:=G.tups b xs e;rw[ay (aT q d4)];exact q
    .have q:=G.frzs b o u e;rw[ay (aT q d4)];exact q
    .obtain ⟨more,q⟩:=G.tbls b ps e;exact #[more,by rw[ay (aT q d4)];exact q]
    .exact R.hok.track d4 #[Nat.le_of_lt zl,its.toList,nl,v3,by simpa using e4]
    .exact #[(f b a).2.2.2.1,(f b a).2.1,(f b a).2.2.2.2.1,(f b a).2.2.2.2.2]
  .refine wpAny_mono (T.item (aM X NY scope s H C fp) rfl rfl rfl hc i _ s3 τ S (λ_ _=>False) V (L ab single) ax go) (λr s4 #[u,hr,h4]=>?_) λ_ _ e=>e
   subst hr
   refine wpAny_mono h4 (λ_ s5 #[x,H5,I5,r5,y5,B,bq]=>?_) λ_ _ e=>e
   have a6:=I5.pinned (L bq single) (T.obj _ _ B)
   refine wpAny_mono (hg s H C fp _ s5 τ H5 x u _ a6 r5 (step x H5 y5)) (λ_ s6 #[τ6,H6,I6,q6]=>?_) λ_ _ e=>e
   refine wpAny_mono (ht s H C fp _ s6 τ6 H6 _ I6 q6) (λb s7 #[H7,I7,q7]=>?_) λ_ _ e=>e
   have after:∀ {s':Shared} {H':Hp},Inv (aM X NY scope s H C fp) ([(D,{ cls:=.type "list",data:=.seq its nl })]++lR fp s5.heap) τ6 H' s'->tn (i+1) s'.heap/\(∀ b∈fp,H' b=none)/\H' D=none/\s'.heap.PlainList D its:=λ{s' H'} I' =>
    ⟨T.keep _ _ _ B λb a o e=>(I'.pin (b,o) (GL _ (GL _ (fO a e)))).1,λb a=>by
     obtain ⟨o,e,d⟩:=T.obj _ _ B b a
     exact (I'.pin (b,o) (GL _ (GL _ (fO a e)))).2.1,(I'.pin (D,_) (GL _ (GK _ (Hh.mpr rfl)))).2.1,
     nl,(I'.pin (D,_) (GL _ (GK _ (Hh.mpr rfl)))).1⟩
   cases b with
   | false =>
    rw[if_neg G3]
    rw[if_neg G3] at q7
    obtain ⟨m',hm,w7⟩:=hN _ _ _ q7
    obtain ⟨a1,a2,a3,a4⟩:=after I7
    exact #[m',hm,i+1,ys,τ6,H7,its,I7.pins_of (λ_ z=>absurd z (by simp)),a3,a4,v3,a1,a2,w7]
   | true =>
    rw[if_pos rfl]
    rw[if_pos rfl] at q7
    refine wpAny_mono (he s H C fp _ s7 τ6 H7 _ I7 q7) (λy s8 #[yv,H8,I8,r8,n8]=>?_) λ_ _ e=>e
    obtain ⟨m',hm,w8⟩:=hN _ _ _ n8
    obtain ⟨a1,a2,a3,a4⟩:=after I8
    have b4:ys.length=its.size:=by simpa using v3.length
    have hsz:its.size<=sizeLine:=by lia
    refine wpAny_list_append_plain (hsz:=hsz) a4 λh9 l9 ar=>?_
    have I9:Inv (aM X NY scope s H C fp) [] τ6 H8 { s8 with heap:=h9,toks:=s8.toks }:=(I8.pins_of (pins':=[]) λ_ z=>absurd z (by simp)).turned (it:=D) (λb o a e=>(ar.2 b a).trans e) a3 O (.inr (by show s.heap.objs.size<=D;rw[M];exact GZ _)) (λx c e z=>?_) λp z=>absurd (show p∈([]:List (Addr×Obj)) from z) (by simp)
    .refine #[m',hm,i+1,ys++[yv],τ6,H8,its.push y,I9,a3,l9,?_,T.keep _ _ _ a1 λb a o e=>(ar.2 b (G4 (k b a))).trans e,a2,w8]
     rw[Array.toList_push]
     exact v3.append (.cons r8 .nil)
    .rcases mG e with q | q
     .rw[z] at q;exact Nat.lt_irrefl _ (G9 (Nat.lt_of_le_of_lt j (Nat.lt_succ_self _)) q)
     .obtain ⟨v,o,ho,_⟩:=I.cell x c (fT q)
      exact Nat.lt_irrefl _ (z ▸ below c o ho)
 exact codeAny_compStart_list (loop _ rfl) (T.self X.A 0 _ _ _ (T.keep _ _ _ st λb _ o e=>old b o e) (loop _ rfl))
theorem BP (NY:List Str) (ix:List (Option Nat)) (r:X.calm=true) (hi:PI X tg iter wi) (B:∀ s H C fp,PG (aM X NY scope s H C fp) tg g) (E:∀ s H C fp,PTs (aM X NY scope s H C fp) ifs tc) (he:∀ s H C fp,PE (aM X NY scope s H C fp) elt te) (a:ik scope X.N X.env.scope NY ix=true) (i:∀ x,foldedSetIterable iter X.env x=pure x:=by intro _;rfl):PE X (.ListComp elt [#[tg,iter,ifs,0]] scope pos) (C6 wi g tc te ix):=by
 intro pins s Y H Q I h
 have a:=CompOk.of a
 rw[eval_ListComp]
 refine wpAny_comprehension_free (use:=none) rfl i (ip (scope:=scope) (env:=X.env) λx m e=>?_) a.kind a.loc (thn (hi pins s Y H _ I h) λv s1 h1=>thn h1 λd s2 h2=>?_)
 .rcases a.out x m e with q | q
  .exact I.ok.has x.1 (.inl q)
  .exact I.ok.has x.1 (.inr q)
 .obtain ⟨it,fp,F,J,H2,e,l,T,c,f2,j⟩:=h2
  subst e
  refine rj (RR:=λacc C=>compPost (model X.prog X.w) X.A X.xe none (EP X pins Y Q) acc C) r a B E he l T c f2 j ?_
  intro D C s' ys H' m p y f t n
  obtain ⟨f0,f1,f2,z,f4,u⟩:=f
  exact #[m,p,λh' sb=>#[.ref D,_,t.turned (t':=s'.toks) (λb o k e=>(sb.2 b k).trans e) f0 f1 z f4 u,rfl,n D y]]
def Dc (i:Nat) (a:TI) (g:TG) (tc:TT) (te:TE) (ix:List (Option Nat)):TS:=λD Y H =>
 a Y H λJ H1=>rX J g tc te (λys H2=>∀ p,H2 p=none->D.nx (Y.set i (some (.ref p))) (upd H2 p (.lst ys))) (cap ix Y) H1
set_option tactic.hygienic true in
theorem sM {i:Nat} (hN:X.N.Nodup) (E:X.N[i]?=some y) (ρ:Loc X.env.scope y) (NY:List Str) (ix:List (Option Nat)) (M:X.calm=true) (hi:PI X tg iter wi) (φ:∀ s H C fp,PG (aM X NY scope s H C fp) tg g) (W:∀ s H C fp,PTs (aM X NY scope s H C fp) ifs tc) (he:∀ s H C fp,PE (aM X NY scope s H C fp) elt te) (c:ik scope X.N X.env.scope NY ix=true) (p:swapsWith (.ListComp elt [#[tg,iter,ifs,0]] scope pos) (some (.Name y py)) spos.line X.env=pure true:=by rfl) (hf:X.fn y=true\/X.env.scope.names.lookup y=some .local:=by first | exact .inl rfl | exact .inr rfl | assumption) (u:∀ x,foldedSetIterable iter X.env x=pure x:=by intro _;rfl):PS X (.Assign [.Name y py] (.ListComp elt [#[tg,iter,ifs,0]] scope pos) spos) (Dc i wi g tc te ix):=by
 intro pins s Y H D I h
 have c:=CompOk.of c
 rw[exec_Assign_Name_used _ _ _ _ p]
 refine GC (wpAny_standAt (GC ?_))
 show wpAny _ X.A (do let _ <- comprehension (.ListComp elt [#[tg,iter,ifs,0]] scope pos) scope X.env _ (newList []) false (eval iter X.env) (some (assign (.Name y py) X.env))) _ _ s
 refine GC (wpAny_mono (wpAny_comprehension_free (use:=some (assign (.Name y py) X.env)) (Q:=λ_ s'=>SP X pins D .next s') rfl u (ip (scope:=scope) (env:=X.env) λx m e=>?_) c.kind c.loc
  (thn (hi pins s Y H _ I h) λv s1 h1=>thn h1 λr s2 h2=>?_)) (λ_ s' σ=>GD (GD σ)) λ_ _ e=>e)
 .rcases c.out x m e with q | q
  .exact I.ok.has x.1 (.inl q)
  .exact I.ok.has x.1 (.inr q)
 .obtain ⟨it,fp,tn,J,H2,e,G,T,j,f2,B⟩:=h2
  subst e
  refine rj (RR:=λacc C=>compPost (model X.prog X.w) X.A X.xe (some (assign (.Name y py) X.env)) (λ_ s'=>SP X pins D .next s') acc C) M c φ W he G T j f2 B ?_
  intro l C s' ys H' m L R t O K
  obtain ⟨f0,f1,f2,S,f4,P⟩:=t
  show wpAny _ X.A (assign (.Name y py) X.env (.ref l)) _ _ _
  refine wpAny_assign_Name (m8 O hN E ρ (v:=.ref l) rfl (λn f #[a,sb,V]=>?_) hf)
  have d:C≠a:=by
   rcases V with e | e
   .rw[e];exact f1
   .exact λz=>f4 y a e z.symm
  exact #[m,L.sameBut sb d,λh' k=>#[_,_,f.turned (t':=n.toks) (λb o F e=>(k.2 b F).trans e) f0 f1 S f4 P,K l R]]
end
section
variable {X:Cx}
inductive KindOf (K:FG) (H:Hp):V->String->Prop
 | int (i:Int):KindOf K H (.int i) "int"
 | bool (b:Bool):KindOf K H (.bl b) "bool"
 | str (x:Str):KindOf K H (.str x) "str"
 | non:KindOf K H .non "NoneType"
 | tuple {a:Addr} {xs:List V}:SqT K H a xs->KindOf K H (.ref a) "tuple"
 | list {a:Addr} {xs:List V}:SqL K H a xs->KindOf K H (.ref a) "list"
 | dK {a:Addr} {kvs}:H a=some (.dK kvs)->KindOf K H (.ref a) "dict"
 | dT {a:Addr} {kvs n}:H a=some (.dT kvs n)->KindOf K H (.ref a) "dict"
def oX (k t:String):Bool:=k == t || (k == "bool" && t == "int")
theorem Inv.clsK (I:Inv X pins Y H s) (h:KindOf X.K H (.ref a) k):∃ o,s.heap.get? a=some o/\o.cls=.type k:=by
 cases h with
 | tuple h=>obtain ⟨its,_,⟨o,e,c,_⟩,_⟩:=I.tuple h;exact #[o,e,c]
 | list h=>obtain ⟨its,_,⟨o,n,e,c,_⟩,_⟩:=I.list h;exact #[o,e,c]
 | dK h=>obtain ⟨_,_,_,_,o,_,_,e,c,_⟩:=I.hok a _ h;exact #[o,e,c.1]
 | dT h=>obtain ⟨_,_,_,_,o,_,_,e,c,_⟩:=I.hok a _ h;exact #[o,e,c.1]
theorem po:CallR X (.builtin "isinstance") (λxs H Q=>∃ x k,xs=[x,.ty "int"]/\KindOf X.K H x k/\Q (.bl (oX k "int")) H):=by
 intro pins s Y H xs us Q I r h
 obtain ⟨x,k,rfl,f,q⟩:=h
 obtain ⟨u,v,rfl,a,d⟩:=jb r
 cases (show v=Value.type "int" from d)
 cases f with
 | int i=>obtain ⟨tk,rfl⟩:=a;exact IsiPair.int_int #[.bl true,H,I,rfl,q]
 | bool b=>cases (show u=Value.bool b from a);exact IsiPair.bool_int #[.bl true,H,I,rfl,q]
 | str z=>obtain ⟨tk,rfl⟩:=a;exact IsiPair.str_int #[.bl false,H,I.tok _,rfl,q]
 | non=>cases (show u=Value.none from a);exact IsiPair.NoneType_int #[.bl false,H,I.tok _,rfl,q]
 | tuple hh=>cases a;obtain ⟨o,e,c⟩:=I.clsK (.tuple hh);exact IsiPair.tuple_int e c #[.bl false,H,I.tok _,rfl,q]
 | list hh=>cases a;obtain ⟨o,e,c⟩:=I.clsK (.list hh);exact IsiPair.list_int e c #[.bl false,H,I.tok _,rfl,q]
 | dK hh=>cases a;obtain ⟨o,e,c⟩:=I.clsK (.dK hh);exact IsiPair.dict_int e c #[.bl false,H,I.tok _,rfl,q]
 | dT hh=>cases a;obtain ⟨o,e,c⟩:=I.clsK (.dT hh);exact IsiPair.dict_int e c #[.bl false,H,I.tok _,rfl,q]
theorem mU:CallR X (.builtin "isinstance") (λxs H Q=>∃ x k,xs=[x,.ty "bool"]/\KindOf X.K H x k/\Q (.bl (oX k "bool")) H):=by
 intro pins s Y H xs us Q I r h
 obtain ⟨x,k,rfl,f,q⟩:=h
 obtain ⟨u,v,rfl,a,d⟩:=jb r
 cases (show v=Value.type "bool" from d)
 cases f with
 | int i=>obtain ⟨tk,rfl⟩:=a;exact IsiPair.int_bool #[.bl false,H,I.tok _,rfl,q]
 | bool b=>cases (show u=Value.bool b from a);exact IsiPair.bool_bool #[.bl true,H,I,rfl,q]
 | str z=>obtain ⟨tk,rfl⟩:=a;exact IsiPair.str_bool #[.bl false,H,I.tok _,rfl,q]
 | non=>cases (show u=Value.none from a);exact IsiPair.NoneType_bool #[.bl false,H,I.tok _,rfl,q]
 | tuple hh=>cases a;obtain ⟨o,e,c⟩:=I.clsK (.tuple hh);exact IsiPair.tuple_bool e c #[.bl false,H,I.tok _,rfl,q]
 | list hh=>cases a;obtain ⟨o,e,c⟩:=I.clsK (.list hh);exact IsiPair.list_bool e c #[.bl false,H,I.tok _,rfl,q]
 | dK hh=>cases a;obtain ⟨o,e,c⟩:=I.clsK (.dK hh);exact IsiPair.dict_bool e c #[.bl false,H,I.tok _,rfl,q]
 | dT hh=>cases a;obtain ⟨o,e,c⟩:=I.clsK (.dT hh);exact IsiPair.dict_bool e c #[.bl false,H,I.tok _,rfl,q]
theorem mH:CallR X (.builtin "isinstance") (λxs H Q=>∃ x k,xs=[x,.ty "tuple"]/\KindOf X.K H x k/\Q (.bl (oX k "tuple")) H):=by
 intro pins s Y H xs us Q I r h
 obtain ⟨x,k,rfl,f,q⟩:=h
 obtain ⟨u,v,rfl,a,d⟩:=jb r
 cases (show v=Value.type "tuple" from d)
 cases f with
 | int i=>obtain ⟨tk,rfl⟩:=a;exact IsiPair.int_tuple #[.bl false,H,I.tok _,rfl,q]
 | bool b=>cases (show u=Value.bool b from a);exact IsiPair.bool_tuple #[.bl false,H,I.tok _,rfl,q]
 | str z=>obtain ⟨tk,rfl⟩:=a;exact IsiPair.str_tuple #[.bl false,H,I.tok _,rfl,q]
 | non=>cases (show u=Value.none from a);exact IsiPair.NoneType_tuple #[.bl false,H,I.tok _,rfl,q]
 | tuple hh=>cases a;obtain ⟨o,e,c⟩:=I.clsK (.tuple hh);exact IsiPair.tuple_tuple e c #[.bl true,H,I,rfl,q]
 | list hh=>cases a;obtain ⟨o,e,c⟩:=I.clsK (.list hh);exact IsiPair.list_tuple e c #[.bl false,H,I.tok _,rfl,q]
 | dK hh=>cases a;obtain ⟨o,e,c⟩:=I.clsK (.dK hh);exact IsiPair.dict_tuple e c #[.bl false,H,I.tok _,rfl,q]
 | dT hh=>cases a;obtain ⟨o,e,c⟩:=I.clsK (.dT hh);exact IsiPair.dict_tuple e c #[.bl false,H,I.tok _,rfl,q]
theorem mT:CallR X (.builtin "isinstance") (λxs H Q=>∃ x k,xs=[x,.ty "dict"]/\KindOf X.K H x k/\Q (.bl (oX k "dict")) H):=by
 intro pins s Y H xs us Q I r h
 obtain ⟨x,k,rfl,f,q⟩:=h
 obtain ⟨u,v,rfl,a,d⟩:=jb r
 cases (show v=Value.type "dict" from d)
 cases f with
 | int i=>obtain ⟨tk,rfl⟩:=a;exact IsiPair.int_dict #[.bl false,H,I.tok _,rfl,q]
 | bool b=>cases (show u=Value.bool b from a);exact IsiPair.bool_dict #[.bl false,H,I.tok _,rfl,q]
 | str z=>obtain ⟨tk,rfl⟩:=a;exact IsiPair.str_dict #[.bl false,H,I.tok _,rfl,q]
 | non=>cases (show u=Value.none from a);exact IsiPair.NoneType_dict #[.bl false,H,I.tok _,rfl,q]
 | tuple hh=>cases a;obtain ⟨o,e,c⟩:=I.clsK (.tuple hh);exact IsiPair.tuple_dict e c #[.bl false,H,I.tok _,rfl,q]
 | list hh=>cases a;obtain ⟨o,e,c⟩:=I.clsK (.list hh);exact IsiPair.list_dict e c #[.bl false,H,I.tok _,rfl,q]
 | dK hh=>cases a;obtain ⟨o,e,c⟩:=I.clsK (.dK hh);exact IsiPair.dict_dict e c #[.bl true,H,I,rfl,q]
 | dT hh=>cases a;obtain ⟨o,e,c⟩:=I.clsK (.dT hh);exact IsiPair.dict_dict e c #[.bl true,H,I,rfl,q]
theorem xv {bs:List Bool}:((List.range bs.length).all λi=>bs.getD i false)=bs.all id:=by
 rw[Bool.eq_iff_iff]
 simp only[List.all_eq_true,List.mem_range,id]
 constructor
 .intro h b a
  obtain ⟨i,hi,rfl⟩:=List.mem_iff_getElem.mp a
  simpa[List.getD,hi] using h i hi
 .intro h i hi
  simpa[List.getD,hi] using h _ (List.getElem_mem hi)
theorem Ap (t:X.calm=true):CallR X (.builtin "all") (λxs H Q=>∃ (a:Addr) (bs:List Bool),xs=[.ref a]/\SqL X.K H a (bs.map V.bl)/\Q (.bl (bs.all id)) H):=by
 intro pins s Y H xs us Q I r h
 obtain ⟨a,bs,rfl,y,q⟩:=h
 obtain ⟨u,rfl,j⟩:=eK r
 cases j
 obtain ⟨its,l,p,hz⟩:=I.list y
 have k:=l.length
 rw[GS] at k
 have g:a < s.heap.objs.size:=by obtain ⟨o,_,e,_⟩:=id p;exact GP e
 refine call_all_walk (wpAny_pyIter_list p.isList ?_)
 refine #[s.heap.objs.size,_,_,_,_,_,λi=>bs.getD i false,rfl,Walks.list (show X.A.in1.handled=none from I.ok.hd t) s.heap.objs.size a (G4 g) its.toArray,#[#[_,GR _ rfl,rfl,rfl],p.isList.at λo e=>GI _ e],?_,?_]
 .intro i v s' w C z f
  have d:its[i]?=some v:=by simpa using z
  have hi:i < bs.length:=by
   have:=(GU.mp d).1
   lia
  obtain ⟨u,hu,j⟩:=l.get (i:=i) (x:=V.bl (bs[i])) (by simp[hi])
  rw[d] at hu
  cases hu
  cases (show v=Value.bool bs[i] from j)
  refine Hn ?_
  have e:bs.getD i false=bs[i]:=by simp[List.getD,hi]
  have c:w (bs.getD i false) s':=f
  rw[e] at c
  exact c
 .intro h' tk n
  have B:Inv X pins Y H { s with heap:=h',toks:=tk }:=I.kept λb o e=>n b o (by
   intro hm
   have m:b=s.heap.objs.size:=by simpa using hm
   exact absurd (m ▸ GP e) (Nat.lt_irrefl _)) (GI _ e)
  refine #[.bl (bs.all id),H,B,?_,q]
  show Value.bool _=Value.bool _
  rw[G5,<- k,xv]
def Ite (K:FG) (a:Addr):It :=
 #[λi H=>∃ xs x,SqL K H a xs/\xs[i]?=some x,λi H x H'=>∃ T y,x=.ref T/\H T=none/\H'=upd H T (.tup [.int i,y])/\∀ xs,SqL K H a xs->xs[i]?=some y,λi H=>∃ xs,SqL K H a xs/\xs.length<=i]
theorem Inv.two {tk:Nat} (I:Inv X pins Y H s) (f:FpOk X pins H e) (g:FpOk X pins H it) (k:∀ b o,b≠e->b≠it->s.heap.get? b=some o->h'.get? b=some o):Inv X pins Y H { s with heap:=h',toks:=tk }:=by
 have l:∀ b u,H b=some u->b≠e/\b≠it:=λb u q=>#[aT q f.1,aT q g.1]
 have a:∀ b,b ∉ [e,it]->b≠e/\b≠it:=λb h=>#[λz=>h (by simp[z]),λz=>h (by simp[z])]
 refine I.step (g':=s.gens) (d':=s.drawn) (ch:=[e,it]) (λb h=>?_) (λb o _ _ d q _=>k b o (a b d).1 (a b d).2 q) (λb o _ _ d q _=>#[o.slots,k b o (a b d).1 (a b d).2 q]) (λ_ _ _ _ n=>n)
  (λb o d q=>#[o,k b o (a b d).1 (a b d).2 q]) (λ_ _ q=>q) (λ_ _ _ q=>q) (λb ps q=>#[(List.toArray []),by rw[q];simp]) (λm hm=>?_) (λb u q=>?_) I.bare
 .have i:b=e\/b=it:=by simpa using h
  rcases i with rfl | rfl
  .exact #[f.2.2.2.1,f.2.1,f.2.2.2.2.1,f.2.2.2.2.2]
  .exact #[g.2.2.2.1,g.2.1,g.2.2.2.2.1,g.2.2.2.2.2]
 .obtain ⟨o,es,ep,j,r⟩:=hm
  exact #[o,es,ep,k _ o (Ne.symm f.2.1) (Ne.symm g.2.1) j,r]
 .refine (I.hok b u q).stay (λc v d z=>?_) (λ_ z=>z) λ_ _ z=>z
  grind
theorem Inv.trackT (I:Inv X pins Y H s) (J:Inv X pins Y H s0) (f:s0.heap.objs.size<=T) (j:IsTupD s.heap T its.toArray) (A:Vals xs its) (hz:xs.length<=sizeLine):Inv X pins Y (upd H T (.tup xs)) s:=by
 have l:H T=none:=J.hok.fresh f
 obtain ⟨e1,y,r,a,F,C,z,B,w,k,h⟩:=id I
 have d:∀ b,H b=none->∀ o,s0.heap.get? b=some o->upd H T (.tup xs) b=none:=λb t o e=>by
  rw[ay (G4 (G9 (GP e) f))];exact t
 have i:∀ b u,H b=some u->upd H T (.tup xs) b=some u:=λb u e=>by rw[ay (aT e l)];exact e
 have g:X.s₀.heap.objs.size<=T:=Ho J.sz f
 refine #[e1,y,r,#[a.keep,a.slot,λb o q n j=>?_,a.there,λb ys q=>i _ _ (a.tups b ys q),λb o u q=>i _ _ (a.frzs b o u q),λb ps q=>?_],F,C,?_,λx c q=>?_,λp m=>?_,?_,h]
 .rw[ay (G4 (G9 (GP q) g))];exact a.free b o q n j
 .obtain ⟨more,G⟩:=a.tbls b ps q;exact #[more,i _ _ G]
 .rw[ay (G4 (G9 J.lt f))];exact z
 .obtain ⟨v,o,E,_⟩:=J.cell x c q
  exact d c (B x c q) o E
 .obtain ⟨a1,a2,D⟩:=w p m
  exact #[a1,d p.1 a2 p.2 (J.pin p m).1,D]
 .exact k.track l #[hz,its,A,j]
theorem vN {P:Program} {w:World} {K:FG} {elts:List Expr} {k:Nat} {pos:Pos} (a e it:Addr) (y:e≠it):Turn P w K (.Tuple elts k pos) (Ite K a) [e,it] e (λi h=>(∃ old,IsEnum h e it i old)/\h.IsListIter it a i) where
 mem:=by simp
 obj:=λi h st b g=>by
  obtain ⟨⟨old,he⟩,o,t,c,d⟩:=st
  have B:b=e\/b=it:=by simpa using g
  rcases B with rfl | rfl
  .exact #[_,he,λv z=>by cases z]
  .exact #[o,t,λv z=>by rw[d] at z;cases z]
 keep:=λi h h' st k=>#[let #[old,he]:=st.1;#[old,k e (by simp) _ he],st.2.at λo q=>k it (by simp) o q]
 item:=by
  intro X D hw J O i pins s Y H E I hf st F
  subst D hw J
  obtain ⟨xs,x,A,N⟩:=F
  obtain ⟨its,G,p,hz⟩:=I.list A
  obtain ⟨u,hu,S⟩:=G.get N
  obtain ⟨⟨old,he⟩,hit⟩:=st
  refine wpAny_pyNext_enum_item he hit p.isList (x:=u) (by simpa using hu) y λh' C m ρ hsz R=>?_
  refine #[_,rfl,wpAny_letOwnedTupleGo_enum C λn j f=>?_]
  have l:e < s.heap.objs.size:=GP he
  have I1:Inv X pins Y H { s with heap:=n,toks:=s.toks+1 }:=I.two (hf e (by simp)) (hf it (by simp)) λb o hb1 hb2 q=>(f.2 b hb1).trans (R b o hb1 hb2 q)
  have M:n.get? s.heap.objs.size=some { cls:=.type "tuple",data:=.seq (List.toArray [.int i s.toks,u]) }:=(f.2 _ (Nat.ne_of_gt l)).trans ρ
  have V:=I1.trackT (s0:=s) (T:=s.heap.objs.size) (xs:=[.int i,x]) (its:=[.int i s.toks,u]) I (GZ _) #[_,M,rfl,_,rfl] (.cons #[_,rfl] (.cons S .nil)) (by show 2<=sizeLine;decide)
  refine #[.ref s.heap.objs.size,_,V,rfl,#[_,x,rfl,I.hok.fresh (GZ _),rfl,λys φ=>by rw[I.list_inj φ A];exact N],#[#[_,by simpa using j],?_],λb g=>?_]
  .obtain ⟨o,t,r⟩:=m
   exact #[o,(f.2 it (Ne.symm y)).trans t,r]
  .have L:b < s.heap.objs.size:=by
    have B:b=e\/b=it:=by simpa using g
    rcases B with rfl | rfl
    .exact l
    .obtain ⟨o,t,r⟩:=hit;exact GP t
   rw[ay (G4 L)]
   exact (hf b g).1
 done:=by
  intro X D hw J O i pins s Y H E I hf st F
  subst D hw J
  obtain ⟨xs,A,N⟩:=F
  obtain ⟨its,G,p,hz⟩:=I.list A
  obtain ⟨⟨old,he⟩,hit⟩:=st
  have hl:=G.length
  obtain ⟨f0,f1,f2,σ,f4,W⟩:=hf it (by simp)
  exact wpAny_pyNext_enum_end (I.ok.hd O) he hit p.isList (by simp;lia) λh' Q=>#[rfl,I.turned (t':=s.toks) (λb o g q=>Q b o g q) f0 f1 σ f4 W]
 self:=λ_ _ _ _ _ st h=>let #[_,he]:=st.1;wpAny_pyIter_enum he h
def Ds (K:FG) (ta:TA):TI:=λY H R=>ta Y H λb H1=>∃ a,b=[.ref a]/\(∃ xs,SqL K H1 a xs)/\R (Ite K a) H1
theorem BN {k:Nat} (m:Gl X "enumerate") (hm:X.mg "enumerate"=none) (n:PA X [a] ta) (f:starEach [a] X.env=[(false,eval a X.env)]:=by rfl):PI X (.Tuple elts k tp) (.Call (.Name "enumerate" p) [a] [] pos) (Ds X.K ta):=by
 intro pins s Y H R I h
 refine Call_ (j9 I m hm boot_enumerate (PyProof.Rows.callWith_type1 (thn (n pos pins s Y H _ I h) λus s1 #[v,H1,d,l,g]=>?_) f rfl))
 obtain ⟨a,e,⟨xs,o⟩,q⟩:=g
 subst e
 obtain ⟨u,rfl,r⟩:=eK l
 cases r
 obtain ⟨its,w,pl,hz⟩:=d.list o
 refine call_enumerate_list pl.isList λh' he hit hsz i=>?_
 refine wpAny_pyIter_enum he ?_
 have j:Inv X pins Y H1 { s1 with heap:=h' }:=d.kept (t':=s1.toks) i
 refine #[s1.heap.objs.size+1,[s1.heap.objs.size+1,s1.heap.objs.size],_,_,H1,rfl,j,vN a _ _ (Nat.succ_ne_self _),#[#[_,he],hit],λb t=>?_,q]
 have c:s1.heap.objs.size<=b:=by
  grind
 exact d.fpOk c (d.hok.fresh c)
end
structure Callee (P:Program) (w:World) (K:FG) (mg:Str->Option Value) (base:Heap) (x:Str) (k:Nat) (ps:List Str) (sp:Sp):Prop where
 ex:∃ (f:Addr) (fd:FuncData),FnOk P w K mg base CX0 k f fd ps sp/\mg x=some (.ref f)/\PySem.W.keepIn K (.ref f)=true/\Binds K fd ps []
structure DefAt (K:FG) (mg:Str->Option Value) (x:Str) (st:Stmt) (f:Addr) (fd:FuncData):Prop where
 fn:Fun K x x st f fd
 mg:mg x=some (.ref f)
def Def (K:FG) (mg:Str->Option Value) (x:Str) (st:Stmt):Prop:=∃ f fd,DefAt K mg x st f fd
theorem Def.callee {K:FG} {st:Stmt} {k:Nat} (D:Def K mg x st) (b:∀ (kV doc pm:Value) (an:Option Addr) (a ct:Value) (us:List Value),us.length=ps.length->bindArgs (PySem.W.fnOf x x (aX st) (aR st) (aj st) .none kV doc pm an a ct) #[us,[]]=pure (ps.zip us)) (h:∀ f fd,Fun K x x st f fd->FnOk P w K mg base CX0 k f fd ps sp):Callee P w K mg base x k ps sp :=
 let #[f,fd,d]:=D
 #[f,fd,h f fd d.fn,d.mg,d.fn.kp,d.fn.binds b]
section
variable {X:Cx} {x:Str} {p pos:Pos} {e:Expr} {es:List Expr} {t:TA} {k:Nat} {ps:List Str} {sp:Sp}
def tFn (sp:Sp) (t:TA):TE:=λY H Q=>t Y H λa H1=>sp a H1 Q E0
theorem pe_fn (c:Callee X.prog X.w X.K X.mg X.base x k ps sp) (i:Room k X.A) (j:PA X (e::es) t) (g:Gl X x:=by rfl) (b:(x == ("__debug__":Str))=false:=by decide)
  (he:starEach (e::es) X.env=(false,eval e X.env)::starEach es X.env:=by rfl) (d:(backTo pos (starEach es X.env)).any (·.1)=false:=by rfl):PE X (.Call (.Name x p) (e::es) [] pos) (tFn sp t):=by
 obtain ⟨f,fd,F,hm,l,m⟩:=c.ex
 have h:=BR (pos:=pos) (p:=p) (dvs:=[]) (E:=E0) F i g hm l m .nil pass0 j b he d
 intro pins s Y H Q I q
 refine h pins s Y H Q I ?_
 show t Y H λa H1=>sp (a++[]) H1 Q E0
 have n:t Y H (λa H1=>sp a H1 Q E0):=q
 simpa using n
end
def But (p:Addr) (H H':Hp):Prop:=∀ b o,H b=some o->b≠p->H' b=some o
theorem But.trans (a:But p H H1) (b:But p H1 H2):But p H H2:=λc o h n=>b c o (a c o h n) n
abbrev Pt:=Int×Int
def aS (p q r:Pt):Int:=(q.1 - p.1) * (r.2 - p.2) - (q.2 - p.2) * (r.1 - p.1)
def Small (p:Pt):Prop:=-(2 ^ 62) < p.1/\p.1 < 2 ^ 62/\-(2 ^ 62) < p.2/\p.2 < 2 ^ 62
def Rising (ps:List Pt):Prop:=∀ (i j:Nat) (p q:Pt),i < j->ps[i]?=some p->ps[j]?=some q->p.1 < q.1
def NoLine (ps:List Pt):Prop:=∀ (i j k:Nat) (p q r:Pt),i < j->j < k->ps[i]?=some p->ps[j]?=some q->ps[k]?=some r->aS p q r≠0
structure GoodSh (ps:List Pt):Prop where
 pos:0 < ps.length
 most:ps.length<=24
 small:∀ p∈ps,Small p
 rising:Rising ps
 noline:NoLine ps
def xr:Expr->Option Int
 | .Constant (.int i) _ _=>some i
 | _=>none
theorem uR:∀ {es:List Expr} (ns:List Int),es.map xr=ns.map some->PA X es (λ_ H Q=>Q (ns.map V.int) H)
 | [],[],_=>oN
 | [],_::_,h=>by simp at h
 | _::_,[],h=>by simp at h
 | e::es,n::ns,h=>by
  simp only[G6,List.cons.injEq] at h
  obtain ⟨h1,h2⟩:=h
  have b:=uR (X:=X) ns h2
  cases e with
  | Constant c j pos =>
   cases c with
   | int i =>
    have a:i=n:=by simpa[xr] using h1
    subst a
    exact jr oJ b
   | _=>simp[xr] at h1
  | _=>simp[xr] at h1
def fY:List Pt->List (Pt×Pt)
 | []=>[]
 | p::r=>r.map (λq=>(p,q))++fY r
theorem nC:∀ {ps:List Pt} {i j:Nat} {p q:Pt},i < j->ps[i]?=some p->ps[j]?=some q->(p,q)∈fY ps
 | [],_,_,_,_,_,h,_=>by simp at h
 | a::r,0,0,_,_,h,_,_=>by lia
 | a::r,0,j+1,p,q,_,h1,h2=>by
  simp at h1 h2;subst h1
  exact GK _ (GX.mpr #[q,GV h2,rfl])
 | a::r,i+1,0,_,_,h,_,_=>by lia
 | a::r,i+1,j+1,p,q,h,h1,h2=>GL _ (nC (ps:=r) (i:=i) (j:=j) (by lia) (by simpa using h1) (by simpa using h2))
theorem qj:∀ {ps:List Pt} {p q:Pt},(p,q)∈fY ps->∃ i j:Nat,i < j/\ps[i]?=some p/\ps[j]?=some q
 | [],_,_,h=>by simp[fY] at h
 | a::r,p,q,h=>by
  rcases GQ.mp h with h | h
  .obtain ⟨z,hz,e⟩:=GX.mp h
   cases e
   obtain ⟨j,b,e⟩:=List.mem_iff_getElem.mp hz
   exact #[0,j+1,by lia,rfl,by simp[b,e]]
  .obtain ⟨i,j,h0,h1,h2⟩:=qj h
   exact #[i+1,j+1,by lia,by simpa using h1,by simpa using h2]
theorem nv:∀ ps:List Pt,(fY ps).length<=ps.length * ps.length
 | []=>by simp[fY]
 | a::r=>by
  have D:=nv r
  simp only[fY,Hc,GS,Hd]
  have:(r.length+1) * (r.length+1)=r.length * r.length+2 * r.length+1:=by
   rw[Nat.add_mul,Nat.mul_add];lia
  lia
def AE (ps:List Pt) (z:Pt):Prop:=∀ (i j:Nat) (p q:Pt),i < j->ps[i]?=some p->ps[j]?=some q->aS p q z≠0
def above (ps:List Pt) (x y:Int):Nat:=((fY ps).filter λpr=>decide (aS pr.1 pr.2 (x,y)<=0)).length
theorem Ag {α:Type} {p q:α->Bool}:∀ {l:List α},(∀ a∈l,p a=true->q a=true)->(l.filter p).length<=(l.filter q).length
 | [],_=>by simp
 | a::l,h=>by
  have D:=Ag (l:=l) λb e=>h b (GH _ e)
  have f:=h a GG
  cases c:p a with
  | true=>rw[List.filter_cons_of_pos c,List.filter_cons_of_pos (f c)];simpa using D
  | false =>
   rw[List.filter_cons_of_neg (by simp[c])]
   cases d:q a with
   | true=>rw[List.filter_cons_of_pos d];simp;lia
   | false=>rw[List.filter_cons_of_neg (by simp[d])];exact D
theorem Af {α:Type} {p q:α->Bool}:∀ {l:List α} {z:α},(∀ a∈l,p a=true->q a=true)->z∈l->q z=true->p z=false->(l.filter p).length < (l.filter q).length
 | [],_,_,hz,_,_=>by simp at hz
 | a::l,z,h,hz,h1,h2=>by
  have D:∀ b∈l,p b=true->q b=true:=λb f=>h b (GH _ f)
  rcases GN.mp hz with rfl | hz
  .rw[List.filter_cons_of_neg (by simp[h2]),List.filter_cons_of_pos h1]
   have:=Ag D
   simp;lia
  .have d:=Af D hz h1 h2
   have g:=h a GG
   cases c:p a with
   | true=>rw[List.filter_cons_of_pos c,List.filter_cons_of_pos (g c)];simpa using d
   | false =>
    rw[List.filter_cons_of_neg (by simp[c])]
    cases e:q a with
    | true=>rw[List.filter_cons_of_pos e];simp;lia
    | false=>rw[List.filter_cons_of_neg (by simp[e])];exact d
theorem vF (p q:Pt) (x y:Int):aS p q (x,y+1)=aS p q (x,y)+(q.1 - p.1):=by
 unfold aS
 grind
theorem AB {x y:Int} (R:Rising ps) {i j:Nat} (a:i < j) (hi:ps[i]?=some p) (c:ps[j]?=some q) (h0:aS p q (x,y)=0):above ps x (y+1) < above ps x y:=by
 refine Af (z:=(p,q)) (λpr b h=>?_) (nC a hi c) (by simp[h0]) ?_
 .obtain ⟨f,e,h',e1,d⟩:=qj (p:=pr.1) (q:=pr.2) b
  have:=R f e _ _ h' e1 d
  have h:=of_decide_eq_true h
  rw[vF] at h
  exact G7 (by lia)
 .have:=R i j _ _ a hi c
  show decide (aS p q (x,y+1)<=0)=false
  rw[vF,h0]
  exact G8 (by lia)
theorem AC (ps:List Pt) (x y:Int):above ps x y<=ps.length * ps.length:=Ho (List.length_filter_le _ _) (nv ps)
theorem dm {α:Type} {l:List α} {z a:α} {i:Nat} (h:(l++[z])[i]?=some a):(l[i]?=some a/\i < l.length)\/(a=z/\i=l.length):=by grind
theorem Rising.snoc (R:Rising ps) (h:∀ p∈ps,p.1 < z.1):Rising (ps++[z]):=λi j p q a h1 h2=>by
 rcases dm h1 with ⟨a1,b1⟩ | ⟨rfl,b1⟩
 .rcases dm h2 with ⟨a2,b2⟩ | ⟨rfl,b2⟩
  .exact R i j p q a a1 a2
  .exact h p (GV a1)
 .rcases dm h2 with ⟨a2,b2⟩ | ⟨rfl,b2⟩
  .lia
  .lia
theorem NoLine.snoc (N:NoLine ps) (F:AE ps z):NoLine (ps++[z]):=λi j k p q r a b h1 h2 h3=>by
 rcases dm h1 with ⟨a1,b1⟩ | ⟨rfl,b1⟩
 .rcases dm h2 with ⟨a2,b2⟩ | ⟨rfl,b2⟩
  .rcases dm h3 with ⟨d,c⟩ | ⟨rfl,c⟩
   .exact N i j k p q r a b a1 a2 d
   .exact F i j p q a a1 a2
  .rcases dm h3 with ⟨d,c⟩ | ⟨rfl,c⟩ <;> lia
 .rcases dm h2 with ⟨a2,b2⟩ | ⟨rfl,b2⟩ <;> lia
def iP (a b c:Int) (p:Pt):Pt:=(a * p.1+c,b * p.2)
theorem ub (a b c:Int) (p q r:Pt):aS (iP a b c p) (iP a b c q) (iP a b c r)=(a * b) * aS p q r:=by
 unfold aS iP
 grind
theorem Rising.scale {a b c:Int} (h:0 < a) (R:Rising ps):Rising (ps.map (iP a b c)):=λi j p q d h1 h2=>by
 rw[GY] at h1 h2
 obtain ⟨e,e1,rfl⟩:=GJ.mp h1
 obtain ⟨f,g,rfl⟩:=GJ.mp h2
 have:=R i j e f d e1 g
 have h3:a * e.1 < a * f.1:=Int.mul_lt_mul_of_pos_left this h
 show a * e.1+c < a * f.1+c
 lia
theorem NoLine.scale {a b c:Int} (n:0 < a) (o:0 < b) (N:NoLine ps):NoLine (ps.map (iP a b c)):=λi j k p q r e d h1 h2 h3=>by
 rw[GY] at h1 h2 h3
 obtain ⟨f,e1,rfl⟩:=GJ.mp h1
 obtain ⟨l,h,rfl⟩:=GJ.mp h2
 obtain ⟨m,g,rfl⟩:=GJ.mp h3
 rw[ub]
 exact Int.mul_ne_zero (Int.mul_ne_zero (by lia) (by lia)) (N i j k f l m e d e1 h g)
section InBlock
variable {X:Cx} {NY:List Str} {scope:Scope} {s:Shared} {H:Hp} {C:Addr} {fp:List Addr}
end InBlock
mutual
inductive DV (K:FG) (H:Hp):V->PyData->Prop
 | non:DV K H .non .none
 | bl (b:Bool):DV K H (.bl b) (.bool b)
 | int (i:Int):DV K H (.int i) (.int i)
 | str (x:Str):DV K H (.str x) (.str x)
 | tup {a:Addr} {xs:List V} {ds:List PyData}:SqT K H a xs->DVs K H xs ds->DV K H (.ref a) (.tuple ds)
 | lst {a:Addr} {xs:List V} {ds:List PyData}:SqL K H a xs->DVs K H xs ds->DV K H (.ref a) (.list ds)
inductive DVs (K:FG) (H:Hp):List V->List PyData->Prop
 | nil:DVs K H [] []
 | cons {x:V} {d:PyData} {xs:List V} {ds:List PyData}:DV K H x d->DVs K H xs ds->DVs K H (x::xs) (d::ds)
end
section
variable {X:Cx} {pins:List (Addr×Obj)} {Y:St} {H:Hp} {s:Shared}
mutual
theorem DV.reads (I:Inv X pins Y H s):∀ {v:V} {d:PyData} {u:Value},DV X.K H v d->RelV v u->∃ as,Reads s.heap u d as
 | _,_,u,.non,r=>by cases (show u=Value.none from r);exact #[_,.none]
 | _,_,u,.bl b,r=>by cases (show u=Value.bool b from r);exact #[_,.bool b]
 | _,_,u,.int i,r=>by obtain ⟨t,rfl⟩:=r;exact #[_,.int i t]
 | _,_,u,.str x,r=>by obtain ⟨t,rfl⟩:=r;exact #[_,.str x t]
 | _,_,u,.tup (a:=a) h rs,r=>by
  cases (show u=Value.ref a from r)
  obtain ⟨its,f,⟨o,e,c,n,d⟩,_⟩:=I.tuple h
  obtain ⟨as,q⟩:=DVs.reads I rs f
  exact #[_,.tuple e c d (by simpa using q)]
 | _,_,u,.lst (a:=a) h rs,r=>by
  cases (show u=Value.ref a from r)
  obtain ⟨its,f,⟨o,n,e,c,_,d⟩,_⟩:=I.list h
  obtain ⟨as,q⟩:=DVs.reads I rs f
  exact #[_,.list e c d (by simpa using q)]
theorem DVs.reads (I:Inv X pins Y H s):∀ {v:List V} {d:List PyData} {us:List Value},DVs X.K H v d->Vals v us->∃ as,ReadsAll s.heap us d as
 | _,_,_,.nil,.nil=>#[_,.nil]
 | _,_,_,.cons h r,.cons q t=>by
  obtain ⟨as,e1⟩:=DV.reads I h q
  obtain ⟨bs,a⟩:=DVs.reads I r t
  exact #[_,.cons e1 a]
end
end
abbrev iV (i:Int):Str:=Str.ofString (toString i)
end L2
end
section
namespace PySem
open Sem (wp)
def RawAt (h:Heap) (d:Addr) (es:Array DictEntry) (ep:Nat):Prop:=∃ o,h.get? d=some o/\o.ExactDict/\o.data=.dict es ep
section
variable {prog:Program} {w:World} {A:Around} {E:Value->Shared->Prop} {s:Shared}
theorem RawAt.typeIs {ep:Nat} (x:RawAt s.heap d es ep):s.TypeIs (.ref d) "dict":=let #[o,a,b,_]:=x;#[o,a,b.1]
theorem gu {i ep:Nat} (hit:s.heap.IsKeyIter it d i es.size ep) (hm:RawAt s.heap d es ep) (e:i < es.size) (c:∀ h',h'.IsKeyIter it d (i+1) es.size ep->Heap.SameBut it s.heap h'->Q (some es[i].key) { s with heap:=h' }) :
  wpAny (model prog w) A (pyNext (.ref it)) Q E s:=by
 have ty:=hit.typeIs
 obtain ⟨⟨c1,d1,x1,s1⟩,h1,e1,a⟩:=hit
 obtain ⟨⟨c2,k,h,s2⟩,h2,_,b⟩:=hm
 obtain ⟨f,g,j,tk,os⟩:=s
 simp only at e1 a b
 subst e1 a b
 have hi:(if (i:Int) < 0 then none else es[(i:Int).toNat]?)=some es[i]:=by simp[e]
 unfold pyNext
 refine GC (wpAny_attempt (wpAny_callSpecial?_slot ty F.slot_dict_keyiterator_next
  (wpAny_call_entry F.slot_dict_keyiterator_next ty F.entry_dict_keyiterator_next ?_ (F.args_dict_keyiterator_next_1 _))))
 wp_walk
 rw[hi]
 wp_walk
 exact #[_,rfl,GD (c _ #[_,Hb _ h1 rfl,rfl,rfl] (Heap.SameBut.update ..))]
theorem iR {i ep:Nat} (h:A.handled=none) (hit:s.heap.IsKeyIter it d i es.size ep) (hm:RawAt s.heap d es ep) (j:es.size<=i) (f:∀ h',Heap.ExtBut it s.heap h'->Q none { s with heap:=h' }):wpAny (model prog w) A (pyNext (.ref it)) Q E s:=by
 have ty:=hit.typeIs
 obtain ⟨⟨c1,d1,x1,s1⟩,h1,e1,c⟩:=hit
 obtain ⟨⟨c2,n,l,s2⟩,h2,_,e⟩:=hm
 obtain ⟨k,g,m,tk,os⟩:=s
 simp only at e1 c e
 subst e1 c e
 have hi:(if (i:Int) < 0 then none else es[(i:Int).toNat]?)=none:=by simp[j]
 have a:A.in1.handled=none:=h
 unfold pyNext
 refine GC (wpAny_attempt (wpAny_callSpecial?_slot ty F.slot_dict_keyiterator_next
  (wpAny_call_entry F.slot_dict_keyiterator_next ty F.entry_dict_keyiterator_next ?_ (F.args_dict_keyiterator_next_1 _))))
 wp_walk
 rw[hi]
 wp_walk
 refine wpAny_raiseNew_none a ?_
 refine GC (wpAny_isInstance (v:=.ref _) (T:="StopIteration") (b:=true) ?_ isSubtype_stop ?_)
 .exact #[_,GR _ rfl,rfl]
 .exact GD (f _ (((Heap.SameBut.update ..).extBut.push _).push _))
theorem dJ {ep:Nat} (hd:(d == sysModules)=false) (hm:RawAt s.heap d es ep) (e:Q (.ref s.heap.objs.size) { s with heap:=s.heap.push { cls:=.type "dict_keyiterator",data:=.fields (List.toArray [.ref d,.int 0 0,.int es.size 0,.int ep 0]) } }) :
  wpAny (model prog w) A (pyIter (.ref d)) Q E s:=by
 have ty:=hm.typeIs
 obtain ⟨⟨c2,j,h,s2⟩,h2,c,b⟩:=hm
 obtain ⟨f,g,i,tk,os⟩:=s
 obtain ⟨a,_⟩:=c
 simp only at b a
 subst b a
 refine wpAny_pyIter_slot ty F.slot_dict_iter (wpAny_call_entry F.slot_dict_iter ty F.entry_dict_iter ?_ (F.args_dict_iter_1 _))
 wp_walk
 exact #[_,rfl,"dict_keyiterator",_,#[_,GR _ rfl,rfl],F.slot_dict_keyiterator_next.lookup,e]
end
end PySem
end
section
namespace L2
open PySem PySem.Spec PyProof.Rows
theorem iT:∀ {d:List α} {c:List β},Paired F d c->∀ {i:Nat} {a:α},d[i]?=some a->∃ b,c[i]?=some b/\F a b
 | _,_,.nil,i,a,h=>by simp at h
 | _,_,.cons r t,0,a,h=>by
  simp only[List.getElem?_cons_zero,Option.some.injEq] at h
  subst h
  exact #[_,rfl,r]
 | _,_,.cons r t,i+1,a,h=>by
  simp only[List.getElem?_cons_succ] at h
  exact iT t h
theorem Rd.dT_inj {n m:Int} (h:Rd H a (.dT x n)) (h':Rd H a (.dT y m)):x=y:=by
 rcases h with h | ⟨o,h⟩ <;> rcases h' with h' | ⟨o',h'⟩ <;> rw[h] at h' <;> cases h' <;> rfl
section
variable {P:Program} {w:World} {H:Hp} {h:Heap} {a:Addr}
theorem jK {kvs:List (List Key×V)} {n:Int} (ok:HOk P w H h) (e:Rd H a (.dT kvs n)):(a == sysModules)=false/\∃ (es:Array DictEntry) (ep:Nat),RawAt h a es ep/\(es.size:Int)=ep+n/\es.size=kvs.length /\
  ∀ i (hi:i < es.size) D,kvs[i]?=some D->∃ b,es[i].key=.ref b/\H b=some (.tup (D.1.map kV))/\RelV D.2 es[i].val:=by
 obtain ⟨z,y,xs,r,o,es,ep,h1,h2,h3,f,m,p,h7⟩:=ie ok e
 have k:es.size=xs.length:=by rw[<- Array.length_toList,f,GS]
 refine #[y,es,ep,#[o,h1,h2,h3],h7,by rw[k,<- Paired.length r],λi hi D j=>?_]
 obtain ⟨q,g,f1,f2,l⟩:=iT r j
 have d:es.toList[i]?=some (entryOfKey (tupleKind (aG P w)) q):=by rw[f,GY,g];rfl
 have c:es[i]=entryOfKey (tupleKind (aG P w)) q:=by
  rw[Array.getElem?_toList,Array.getElem?_eq_getElem hi] at d
  exact Hu d
 rw[c]
 exact #[q.2.1,rfl,f2,l]
theorem o9 (ok:HOk P w H h) (e:RdT H a kvs):(a == sysModules)=false/\∃ es:Array DictEntry,(∃ ep,RawAt h a es ep)/\es.size=kvs.length /\
  ∀ i (hi:i < es.size) kv,kvs[i]?=some kv->∃ b,es[i].key=.ref b/\H b=some (.tup (kv.1.map kV))/\RelV kv.2 es[i].val :=
 let #[_,e]:=e;let #[y,es,ep,raw,_,sz,ent]:=jK ok e;#[y,es,#[ep,raw],sz,ent]
end
def Itk (a:Addr) (n:Nat) (m:Int):It:=⟨λi H=>∃ kvs,Rd H a (.dT kvs m)/\kvs.length=n/\i < n,
 λi H x H'=>H'=H/\∀ kvs c,Rd H a (.dT kvs m)->kvs[i]?=some c->∃ b,x=.ref b/\H b=some (.tup (c.1.map kV)),λi H=>∃ kvs,Rd H a (.dT kvs m)/\kvs.length=n/\n<=i⟩
theorem m6 {P:Program} {w:World} {K:FG} {tg:Expr} (a it:Addr) (n:Nat) (m:Int):Turn P w K tg (Itk a n m) [it] it (λi h=>h.IsKeyIter it a i n ((n:Int) - m).toNat) where
 mem:=by simp
 obj:=λi h st b f=>by
  have e:b=it:=by simpa using f
  subst e
  obtain ⟨o,e,c,d⟩:=st
  exact #[o,e,λv z=>by rw[d] at z;cases z]
 keep:=λi h h' st k=>st.at λo e=>k it (by simp) o e
 item:=by
  intro X x hw q C i pins s Y H E I hf st A
  subst x hw q
  obtain ⟨kvs,p,J,hi⟩:=A
  obtain ⟨y,es,ep,raw,G,sz,ent⟩:=jK I.hok p
  obtain rfl:n=es.size:=by lia
  obtain rfl:ep=((es.size:Int) - m).toNat:=by omega
  obtain ⟨f0,f1,f2,u,f4,t⟩:=hf it (by simp)
  obtain ⟨r,l⟩:∃ r,kvs[i]?=some r:=#[kvs[i]'(by lia),GO _]
  obtain ⟨b,b1,b2,N⟩:=ent i hi r l
  refine gu st raw hi λh' j sb=>?_
  have M:Inv X pins Y H { s with heap:=h' }:=I.turned (t':=s.toks) (λb o f e=>(sb.2 b f).trans e) f0 f1 u f4 t
  obtain ⟨o,e,c,d⟩:=id j
  refine #[_,rfl,qT (s:={ s with heap:=h' }) e c d (by decide) #[.ref b,H,M,b1,#[rfl,λD L B g=>?_],j,λb f=>(hf b f).1]]
  rw[B.dT_inj p,l] at g
  cases g
  exact #[b,rfl,b2]
 done:=by
  intro X x hw q C i pins s Y H E I hf st A
  subst x hw q
  obtain ⟨kvs,p,J,hi⟩:=A
  obtain ⟨y,es,ep,raw,G,sz,ent⟩:=jK I.hok p
  obtain rfl:n=es.size:=by lia
  obtain rfl:ep=((es.size:Int) - m).toNat:=by omega
  obtain ⟨f0,f1,f2,u,f4,t⟩:=hf it (by simp)
  exact iR (I.ok.hd C) st raw hi λh' F=>#[rfl,I.turned (t':=s.toks) (λb o f e=>F b o f e) f0 f1 u f4 t]
 self:=λ_ _ _ _ _ st h=>wpAny_pyIter_keyiter st h
def Dr (tl:TE):TI:=λY H R=>tl Y H λx H1=>∃ a kvs m,x=.ref a/\Rd H1 a (.dT kvs m)/\R (Itk a kvs.length m) H1
theorem BM (i:PE X l tl):PI X tg l (Dr tl):=by
 intro pins s Y H R I h
 exact thn (i pins s Y H _ I h) λv s1 #[x,H1,c,j,d]=>by
  obtain ⟨a,kvs,m,e,f,q⟩:=d
  subst e
  cases j
  obtain ⟨y,es,ep,raw,k,sz,ent⟩:=jK c.hok f
  obtain rfl:ep=((es.size:Int) - m).toNat:=by omega
  refine dJ y raw ?_
  refine #[s1.heap.objs.size,[s1.heap.objs.size],_,_,H1,rfl,c.kept (t':=s1.toks) λb o e=>GI _ e,m6 a _ kvs.length m,#[_,GR _ rfl,rfl,by rw[sz];rfl],λb g=>?_,q]
  have e:b=s1.heap.objs.size:=by simpa using g
  subst e
  exact c.fpOk (GZ _) (c.hok.fresh (GZ _))
end L2
end
section
namespace PyProof.Rows
open PySem
end PyProof.Rows
end
section
namespace L2
open PySem PySem.Spec PyProof.Rows
end L2
end
section
namespace L2
open PySem
namespace Fz
theorem entry_dict_update_loop:entryFor table "dict.update.loop"=some Builtin.«dict.update.loop»:=entryFor_of_tree (by kernel_rfl)
theorem plain_dict_update_loop:plainId "dict.update.loop"=true:=by decide +kernel
end Fz
section
variable {prog:Program} {w:World} {K:Type} [DecidableEq K] {knd:HeapKind prog w K} {A:Around} {E:Value->Shared->Prop} {s:Shared}
set_option tactic.hygienic true in
theorem uh {a:List (K×Addr×Value)} (k:(a.map (·.1)).Nodup) {i:Nat} {t:K×Addr×Value} (e:a[i]?=some t):storedH (a.take i) t.1 t.2.1 t.2.2=a.take (i+1):=by
 have g:atKey (a.take i) t.1=none:=by
  refine atKey_none_of_get λj p d=>?_
  have c:i < a.length:=by obtain ⟨h,_⟩:=GU.mp e;exact h
  rw[List.getElem?_take] at d
  split at d
  .rename_i b
   have f:j < a.length:=Nat.lt_trans b c
   have e1:(a.map (·.1))[j]'(by simpa using f)=(a.map (·.1))[i]'(by simpa using c):=by
    have h1:=GU.mp d
    have h2:=GU.mp e
    simp only[List.getElem_map]
    rw[h1.2,h2.2]
   exact List.pairwise_iff_getElem.mp k j i _ _ b e1
  .cases d
 rw[storedH_new g,List.take_add_one,e]
 rfl
end
end L2
end
section
namespace L2
open PySem PySem.Spec PyProof.Rows
section
variable {prog:Program} {w:World} {A:Around} {E:Value->Shared->Prop} {s:Shared} {knd:KeyKind prog w Key}
theorem ze {xs:List (List Key×Addr×Value)} (b:(xs.map λx=>tupleKeyHash knd x.1).Nodup) {x:List Key×Addr×Value} (a:x∈xs) :
  ((xs.map (entryOfKey (tupleKind knd))).filter (·.hash == tupleKeyHash knd x.1)).length<=1:=by
 induction xs with
 | nil=>cases a
 | cons y ys ih =>
  obtain ⟨h1,h2⟩:=List.nodup_cons.mp b
  rw[G6,List.filter_cons]
  by_cases e:tupleKeyHash knd y.1=tupleKeyHash knd x.1
  .rw[if_pos (by exact beq_iff_eq.mpr e),Hd]
   have:(ys.map (entryOfKey (tupleKind knd))).filter (·.hash == tupleKeyHash knd x.1)=[]:=by
    refine List.filter_eq_nil_iff.mpr λz hz h=>?_
    obtain ⟨u,hu,rfl⟩:=GX.mp hz
    exact h1 (GX.mpr #[u,hu,(beq_iff_eq.mp h).trans e.symm])
   rw[this];exact GZ _
  .rw[if_neg (by intro h;exact e (beq_iff_eq.mp h))]
   rcases GN.mp a with z | a
   .exact absurd (by rw[z]) e
   .exact ih h2 a
theorem ly {id:String} {d:Addr} {o:Obj} {es ep} {xs:List (List Key×Addr×Value)} {Q:Array DictEntry->Shared->Prop} (j:s.heap.get? d=some o) (hd:o.data=.dict es ep)
  (he:es.toList=xs.map (entryOfKey (tupleKind knd))) (g:∀ x∈xs,IsTupleKey knd s.heap x.1 x.2.1) (i:(xs.map λx=>tupleKeyHash knd x.1).Nodup) (h:Q es s) :
  wpAny (model prog w) A (Builtin.Dict.entriesForEmpty id d) Q E s:=by
 unfold Builtin.Dict.entriesForEmpty
 refine GC (wpAny_dictEntries j hd ?_)
 refine GC ?_
 rw[<- Array.forIn_toList]
 refine wpAny_forIn_list _ (λdq _ s'=>s'=s/\∀ e∈dq,e∈es.toList) _ ?_ ?_ _ _ #[rfl,λ_ h=>h]
 .rintro e dq b s' ⟨rfl,a⟩
  have hm:=a e GG
  rw[he] at hm
  obtain ⟨x,f,rfl⟩:=GX.mp hm
  show wpAny _ _ (Builtin.Dict.quietEq (.ref x.2.1) >>= _) _ _ _
  refine GC ?_
  unfold Builtin.Dict.quietEq
  refine GC (wpAny_specialOf (g x f).typeIs F.slot_tuple_eq.lookup (GD ?_))
  have c:¬ (es.filter (·.hash == tupleKeyHash knd x.1)).size > 1:=by
   have:=ze i f
   rw[<- he] at this
   have k:(es.filter (·.hash == tupleKeyHash knd x.1)).size=(es.toList.filter (·.hash == tupleKeyHash knd x.1)).length:=by
    rw[<- Array.toList_filter,Array.length_toList]
   lia
  rw[if_pos (by decide)]
  show wpAny _ _ (ite ((es.filter (·.hash == tupleKeyHash knd x.1)).size > 1) _ _) _ _ _
  rw[if_neg c]
  exact GD #[rfl,λu hu=>a u (GH _ hu)]
 .rintro b s' ⟨rfl,_⟩
  exact GD h
theorem oR {nm:String} {d o:Addr} {f:Obj} {xs:List (List Key×Addr×Value)} {n:Int} {Q:Unit->Shared->Prop} (m:d≠o) (v:(o == sysModules)=false)
  (c:s.heap.get? d=some f) (i:f.ExactDict) (b:f.data=.dict (List.toArray []) 0) (I:DictOfHE (tupleKind knd) s.heap o xs n) (u:(xs.map λx=>tupleKeyHash knd x.1).Nodup) (hsz:xs.length<=sizeLine)
  (p:∀ h',DictOfHE (tupleKind knd) h' d xs ((xs.length - 1:Nat):Int)->Heap.SameBut d s.heap h'->Q () { s with heap:=h' }) :
  wpAny (model prog w) A (Builtin.Dict.mergeDict nm d o) Q E s:=by
 obtain ⟨r,es,ep,k,F,a,he,q,B,K⟩:=id I
 have j:es.size=xs.length:=by rw[<- Array.length_toList,he,GS]
 have C:(d == o)=false:=beq_eq_false_iff_ne.mpr m
 cases xs with
 | nil =>
  have z:es=(List.toArray []):=Array.toList_eq_nil_iff.mp he
  subst z
  have fin:=p s.heap #[f,(List.toArray []),0,c,i,b,rfl,λ_ h=>(by cases h),List.nodup_nil,by simp] (Heap.SameBut.refl _ _)
  obtain ⟨c1,d1,x1,s1⟩:=f
  obtain ⟨c2,D,H,s2⟩:=r
  obtain ⟨G,g,J,tk,os⟩:=s
  simp only at b a
  subst b a
  unfold Builtin.Dict.mergeDict
  wp_walk
  refine (?_:wpAny _ _ (forIn' [:((List.toArray []):Array DictEntry).size] PUnit.unit _) _ _ _)
  rw[Std.Legacy.Range.forIn'_eq_forIn'_range']
  exact GD (GD fin)
 | cons x xs =>
  have l:(decide (es.size<=8) && es.all λe=>(keyPart e.key).isSome)=false:=by
   rw[<- Array.all_toList,he,G6,List.all_cons]
   show (_ && (false && _))=false
   rw[Bool.false_and,Bool.and_false]
  have ne:es.isEmpty=false:=by
   cases h:es.isEmpty with
   | false=>rfl
   | true=>rw[Array.isEmpty_iff.mp h] at j;simp at j
  have fin:=λh' (h1:DictOfHE (tupleKind knd) h' d (x::xs) xs.length) h2=>p h' h1 h2
  have keep:=λh' (h2:Heap.SameBut d s.heap h') y (t:y∈x::xs)=>(tupleKind knd).keeps (q y t) c b h2
  have ent:=λ(A:Around) (E:Value->Shared->Prop) (Q:Array DictEntry->Shared->Prop)=>ly (A:=A) (E:=E) (Q:=Q) (id:=nm) (s:=s) k a he q u
  obtain ⟨c1,d1,x1,s1⟩:=f
  obtain ⟨c2,D,H,s2⟩:=r
  obtain ⟨G,g,J,tk,os⟩:=s
  simp only at b a
  subst b a
  unfold Builtin.Dict.mergeDict
  wp_walk
  rw[l,if_pos (by decide)]
  refine GC (wpAny_dictEntries c rfl ?_)
  rw[if_pos (by decide)]
  refine GC (ent _ _ _ ?_)
  rw[ne,if_pos (by decide)]
  refine GC (wpAny_updateDictKeysTo c rfl (GD (fin _ #[_,_,0+1,Hb _ c rfl,i.mapDictKeys _,rfl,he,keep _ (Heap.SameBut.update ..),B,?_] (Heap.SameBut.update ..))) (by rw[j];lia))
  rw[j,Hd];lia
end
section
variable {X:Cx}
def dj (ns:List Int):Int:=reduceHash (Builtin.Tuple.tupleHashOf (ns.map hashInt))
theorem qL {P:Program} {w:World} (ns:List Int):tupleKeyHash (aG P w) (ns.map Sum.inl)=dj ns:=by
 unfold tupleKeyHash dj
 rw[Hs]
 rfl
def yN:List V->Hp->VK->Prop:=λxs H Q=>∃ (a:Addr) (kvs:List (List Key×V)) (ns:List (List Int)),xs=[.ref a]/\RdT H a kvs/\kvs.map (·.1)=ns.map (λn=>n.map Sum.inl)/\(ns.map dj).Nodup /\
 ∀ p,H p=none->Q (.ref p) (upd H p (.dT kvs ((kvs.length - 1:Nat):Int)))
theorem KT.keys {H:Hp} {kvs:List (List Key×V)} {xs:List (List Key×Addr×Value)} (r:KT H kvs xs):kvs.map (·.1)=xs.map (·.1):=by
 induction r with
 | nil=>rfl
 | cons h _ ih=>rw[G6,G6,ih,h.1]
theorem tY:CallR X (.type "dict") yN:=by
 intro pins s Y H xs us Q I K h
 obtain ⟨a,kvs,ns,rfl,⟨m,P⟩,C,E,q⟩:=h
 obtain ⟨u,rfl,T⟩:=K.one
 cases T
 obtain ⟨z,y,xs,r,B⟩:=ie I.hok P
 have J:kvs.length=xs.length:=by have:=congrArg List.length r.keys;simpa using this
 have D:(xs.map λx=>tupleKeyHash (aG X.prog X.w) x.1).Nodup:=by
  have e:(xs.map λx=>tupleKeyHash (aG X.prog X.w) x.1)=ns.map dj:=by
   have:(xs.map λx=>tupleKeyHash (aG X.prog X.w) x.1)=(xs.map (·.1)).map (tupleKeyHash (aG X.prog X.w)):=by rw[Hs];rfl
   rw[this,<- r.keys,C,Hs]
   exact Ht λn _=>qL n
  rw[e];exact E
 obtain ⟨o,es,ep,g1,g2,g3,f,j,g,i⟩:=id B
 have N:=GP g1
 refine callType_codes (Q₁:=λobj l=>obj=.ref s.heap.objs.size/\l={ s with heap:=s.heap.push { cls:=.type "dict",data:=.dict (List.toArray []) } }) PySem.F.kt_called_dict (PySem.F.kt_typeCall_dict_1 _) PySem.F.entry_dict_init (kt_code_dict_new _ #[rfl,rfl]) ?_
 rintro obj l ⟨rfl,rfl⟩
 have p:(s.heap.push { cls:=.type "dict",data:=.dict (List.toArray []) }).get? s.heap.objs.size=some _:=GR _ rfl
 have R:Shared.TypeIs { s with heap:=s.heap.push { cls:=.type "dict",data:=.dict (List.toArray []) } } (.ref s.heap.objs.size) "dict":=#[_,p,rfl]
 have d:=GI { cls:=.type "dict",data:=.dict (List.toArray []) } g1
 have O:Shared.TypeIs { s with heap:=s.heap.push { cls:=.type "dict",data:=.dict (List.toArray []) } } (.ref a) "dict":=#[_,d,g2.1]
 refine #[R,PySem.F.args_dict_init_2 _ _,?_]
 have up:∀ c u,s.heap.get? c=some u->(s.heap.push { cls:=.type "dict",data:=.dict (List.toArray []) }).get? c=some u:=λc u e=>GI _ e
 have sub:=isSubtype_dict_dict
 have φ:=F.slot_dict_iter.lookup
 have k:=g2.1
 obtain ⟨σ,V,W,L⟩:=o
 simp only at k
 subst k
 unfold Builtin.«dict.__init__»
 wp_walk
 show wpAny _ _ (Builtin.Dict.mergeDict "dict.__init__" s.heap.objs.size a) _ _ _
 refine oR (knd:=aG X.prog X.w) (n:=m) (Nat.ne_of_gt N) y p #[rfl,rfl,rfl] rfl #[_,es,ep,d,g2,g3,f,λx S=>?_,g,i] D (by lia) λh' d' A=>?_
 .obtain ⟨o,its,n,e1,G,v,M⟩:=j x S
  exact #[o,its,n,up _ _ e1,G,v,M]
 show wpAny _ _ (Builtin.Dict.addKeywords s.heap.objs.size [] >>= _) _ _ _
 refine GC (GD (GD #[rfl,?_]))
 have t:=I.hok.fresh (GZ s.heap.objs.size)
 refine #[.ref s.heap.objs.size,_,I.laid (a:=s.heap.objs.size) (o:=.dT kvs ((kvs.length - 1:Nat):Int)) (t':=s.toks) (λb u e=>?_) (GZ _) #[z,beq_eq_false_iff_ne.mpr (Nat.ne_of_gt I.big),xs,r.keeps λb ys e=>?_,?_],rfl,q _ t]
 .exact (A.2 b (G4 (GP e))).trans (up b u e)
 .rw[ay]
  .exact e
  .intro x;rw[x] at e;rw[t] at e;cases e
 .obtain ⟨o,es,ep,g1,g2,g3,f,j,g,i⟩:=d'
  exact #[o,es,ep,g1,g2,g3,f,g,by rw[J];exact i]
end
theorem Rd.dK_inj (h:Rd H a (.dK x)) (h':Rd H a (.dK y)):x=y:=by
 rcases h with h | ⟨o,h⟩ <;> rcases h' with h' | ⟨o',h'⟩ <;> rw[h] at h' <;> cases h' <;> rfl
section
variable {P:Program} {w:World} {H:Hp} {h:Heap} {a:Addr}
theorem nw:∀ {es:List DictEntry} {a:List (Key×Value)},Pairs knd es a->∀ {i:Nat} {q:Key×Value},a[i]?=some q->∃ e,es[i]?=some e/\knd.is q.1 e.key=true/\e.val=q.2
 | _,_,.nil,i,q,h=>by simp at h
 | _,_,.cons h1 h2 t,0,q,h=>by
  simp only[List.getElem?_cons_zero,Option.some.injEq] at h
  subst h
  exact #[_,rfl,h1,h2]
 | _,_,.cons h1 h2 t,i+1,q,h=>by
  simp only[List.getElem?_cons_succ] at h
  exact nw t h
theorem is_kV (h:(aG P w).is k u=true):RelV (kV k) u:=by
 rcases aZ h with ⟨i,t,rfl,rfl⟩ | ⟨x,t,rfl,rfl⟩
 .exact #[t,rfl]
 .exact #[t,rfl]
theorem pc (ok:HOk P w H h) (e:Rd H a (.dK kvs)):(a == sysModules)=false/\∃ es:Array DictEntry,RawAt h a es es.size/\es.size=kvs.length /\
  ∀ i (hi:i < es.size) D,kvs[i]?=some D->RelV (kV D.1) es[i].key/\RelV D.2 es[i].val:=by
 obtain ⟨z,y,d,r,o,es,ep,h1,h2,h3,n,c,p,rfl⟩:=mE ok e
 have m:es.size=d.length:=by rw[<- Array.length_toList];exact c.length
 refine #[y,es,#[o,h1,h2,h3],by rw[m,<- Paired.length r],λi hi D k=>?_]
 obtain ⟨q,j,f1,f2⟩:=iT r k
 obtain ⟨g,e1,l,f⟩:=nw c j
 have b:es[i]=g:=by
  rw[Array.getElem?_toList,Array.getElem?_eq_getElem hi] at e1
  exact Hu e1
 rw[b,f1,f]
 exact #[is_kV l,f2]
end
def Iti (a:Addr) (n:Nat):It:=⟨λi H=>∃ kvs,Rd H a (.dK kvs)/\kvs.length=n/\i < n,
 λi H x H'=>H'=H/\∀ kvs b,Rd H a (.dK kvs)->kvs[i]?=some b->x=kV b.1,λi H=>∃ kvs,Rd H a (.dK kvs)/\kvs.length=n/\n<=i⟩
theorem r9 {P:Program} {w:World} {K:FG} {tg:Expr} (a it:Addr) (n:Nat):Turn P w K tg (Iti a n) [it] it (λi h=>h.IsKeyIter it a i n n) where
 mem:=by simp
 obj:=λi h st b f=>by
  have e:b=it:=by simpa using f
  subst e
  obtain ⟨o,e,c,d⟩:=st
  exact #[o,e,λv z=>by rw[d] at z;cases z]
 keep:=λi h h' st k=>st.at λo e=>k it (by simp) o e
 item:=by
  intro X u hw q B i pins s Y H E I hf st x
  subst u hw q
  obtain ⟨kvs,p,F,hi⟩:=x
  obtain ⟨y,es,raw,sz,ent⟩:=pc I.hok p
  obtain rfl:n=es.size:=by lia
  obtain ⟨f0,f1,f2,t,f4,r⟩:=hf it (by simp)
  obtain ⟨m,l⟩:∃ m,kvs[i]?=some m:=#[kvs[i]'(by lia),GO _]
  obtain ⟨b1,b2⟩:=ent i hi m l
  refine gu st raw hi λh' j sb=>?_
  have J:Inv X pins Y H { s with heap:=h' }:=I.turned (t':=s.toks) (λb o f e=>(sb.2 b f).trans e) f0 f1 t f4 r
  obtain ⟨o,e,c,d⟩:=id j
  refine #[_,rfl,qT (s:={ s with heap:=h' }) e c d (by decide) #[kV m.1,H,J,b1,#[rfl,λC G A g=>?_],j,λb f=>(hf b f).1]]
  rw[A.dK_inj p,l] at g
  cases g
  rfl
 done:=by
  intro X u hw q B i pins s Y H E I hf st x
  subst u hw q
  obtain ⟨kvs,p,F,hi⟩:=x
  obtain ⟨y,es,raw,sz,ent⟩:=pc I.hok p
  obtain rfl:n=es.size:=by lia
  obtain ⟨f0,f1,f2,t,f4,r⟩:=hf it (by simp)
  exact iR (I.ok.hd B) st raw hi λh' D=>#[rfl,I.turned (t':=s.toks) (λb o f e=>D b o f e) f0 f1 t f4 r]
 self:=λ_ _ _ _ _ st h=>wpAny_pyIter_keyiter st h
def IsNts (h:Heap) (b:Addr) (n:List Int):Prop:=∃ it:Array Value,IsTup h b it/\IntsAre it.toList n
theorem qG:∀ x:List Int,HT.lexLt x x=false
 | []=>rfl
 | a::x=>by rw[HT.lexLt_cons,if_pos rfl];exact qG x
section
variable {prog:Program} {w:World} {A:Around} {E:Value->Shared->Prop} {s:Shared}
theorem Fy (hu:A.units < cLine) (d:IsNts s.heap a x) (c:IsNts s.heap b y) (h:Q (.bool (HT.lexLt x y)) s) :
  wpAny (model prog w) A (richCompare .Lt (.ref a) (.ref b)) Q E s:=by
 obtain ⟨g,h1,f⟩:=d
 obtain ⟨i,h2,e⟩:=c
 exact (HT.lt_tupInts h1 h2 f e hu h:wpAny (model prog w) A (compareOp .Lt (.ref a) (.ref b)) Q E s)
end
abbrev aW (f:Bool):SortKind:=(sortPriv% PySem.Builtin.KeyKind.tuples) f
section
variable {prog:Program} {w:World} {A:Around} {E:Value->Shared->Prop} {s:Shared}
theorem sV (f:Bool) {a b:Int} (h:Q (decide (a < b)) s):wpAny (model prog w) A (oneLt' f (.int a t) (.int b u)) Q E s:=by
 cases f with
 | true=>exact oneLt_int h
 | false =>
  rw[oneLt'_eq]
  simp only[Hi,if_false]
  refine GC (HT.rcLt_int A s a t b u prog w E _ ?_)
  exact Hn h
set_option tactic.hygienic true in
theorem nF (f:Bool) (n m:Nat) {k:Option Bool×Unit->Sem Bool} (l:∀ p q i c,g ((p,q),i) c=(do
          let b <- eqBool p q
          if (!b)=true then do
            let r <- oneLt' (f && i == 0) p q
            pure (ForInStep.done (some r,()))
          else pure (ForInStep.yield (none,())))) (h:∀ b,k (some b,())=pure b) (d:k (none,())=pure (decide (n < m))):∀ (j ws:List Value) (ns ms:List Int) (i:Nat),IntsAre j ns->IntsAre ws ms->ns.length+m=ms.length+n->Q (HT.lexLt ns ms) s ->
    wpAny (model prog w) A (forIn ((j.zip ws).zipIdx i) ((none,()):Option Bool×Unit) g) (λr s'=>wpAny (model prog w) A (k r) Q E s') E s
  | [],ws,ns,ms,i,h1,h2,hl,q=>by
    cases h1
    have e:HT.lexLt [] ms=decide (n < m):=by
      cases ms with
      | nil=>simp at hl;rw[HT.lexLt_nil_nil];exact (G8 (by lia)).symm
      | cons a ms=>simp at hl;rw[HT.lexLt_nil_cons];exact (G7 (by lia)).symm
    rw[e] at q
    rw[List.zip_nil_left]
    simp only[List.zipIdx_nil,List.forIn_nil]
    refine GD ?_
    rw[d]
    exact GD q
  | v::j,[],ns,ms,i,h1,h2,hl,q=>by
    cases h2
    cases h1 with
    | cons a t h1 =>
    rename_i ns
    have e:HT.lexLt (a::ns) []=decide (n < m):=by
      simp at hl;rw[HT.lexLt_cons_nil];exact (G8 (by lia)).symm
    rw[e] at q
    rw[List.zip_nil_right]
    simp only[List.zipIdx_nil,List.forIn_nil]
    refine GD ?_
    rw[d]
    exact GD q
  | v::j,u::ws,ns,ms,i,h1,h2,hl,q=>by
    cases h1 with
    | cons a t h1 =>
    cases h2 with
    | cons b t2 h2 =>
    rename_i ns ms
    rw[List.zip_cons_cons,List.zipIdx_cons,List.forIn_cons,l]
    rw[HT.lexLt_cons] at q
    refine GC (GC ((intKind prog w).eqBool (a:=a) (b:=b) (by simp[intKind,Value.isInt]) (by simp[intKind,Value.isInt]) ?_))
    by_cases e:a=b
    . rw[if_pos e] at q
      rw[G7 e]
      simp only[Bool.not_true,Hi,if_false]
      refine GD ?_
      exact nF f n m l h d j ws ns ms (i+1) h1 h2 (by simp at hl;lia) q
    . rw[if_neg e] at q
      rw[G8 e]
      simp only[Bool.not_false,if_true]
      refine GC (sV _ (GD (GD ?_)))
      rw[h]
      exact GD q
theorem wM (j:IsNts s.heap a x) (i:IsNts s.heap b y) (h:Q (HT.lexLt x y) s):wpAny (model prog w) A (keyLt' (aW f) (.ref a) (.ref b)) Q E s:=by
 obtain ⟨c,⟨p,e1,c1,q,d1⟩,e⟩:=j
 obtain ⟨d,⟨r,l,c2,o,n⟩,g⟩:=i
 refine GC (listItems_at e1 d1 ?_)
 refine GC (listItems_at l n ?_)
 refine GC ?_
 have m:x.length=c.size:=by rw[<- e.length];simp
 have k:y.length=d.size:=by rw[<- g.length];simp
 exact nF f c.size d.size (λ_ _ _ _=>rfl) (λ_=>rfl) rfl c.toList d.toList x y 0 e g (by lia) h
end
section
variable {prog:Program} {w:World} {A:Around} {E:Value->Shared->Prop} {s:Shared}
theorem mz (v:Value):firstOfTuple' v=(do
  if (<- typeOf v) != .type "tuple" then return none
  return (<- Builtin.List.listItems v)[0]?):=rfl
theorem nP (f:IsNts s.heap b n) (h0:n≠[]) (h:∀ i t,Q (some (.int i t)) s):wpAny (model prog w) A (firstOfTuple' (.ref b)) Q E s:=by
 obtain ⟨it,⟨o,e,c,k,d⟩,j⟩:=f
 rw[mz]
 refine GC (wpAny_typeOf (T:="tuple") #[o,e,c] ?_)
 rw[if_neg (by decide)]
 refine GC (listItems_at e d ?_)
 cases a:it.toList with
 | nil=>rw[a] at j;cases j;exact absurd rfl h0
 | cons v vs =>
  rw[a] at j
  cases j with
  | cons i t j =>
   have:it[0]?=some (.int i t):=by rw[<- Array.getElem?_toList,a];rfl
   rw[this]
   exact GD (h i t)
theorem my:∀ (bs:List Addr),(∀ b∈bs,∃ n,n≠[]/\IsNts s.heap b n)->(∀ (a:List Value) (ns:List Int),IntsAre a ns->a.length=bs.length->Q (a.map some) s) ->
  wpAny (model prog w) A ((bs.map Value.ref).mapM firstOfTuple') Q E s
 | [],_,q=>by
  simp only[List.map_nil,List.mapM_nil]
  exact GD (q [] [] .nil rfl)
 | b::bs,h,q=>by
  rw[G6,List.mapM_cons]
  obtain ⟨n,h0,D⟩:=h b GG
  refine GC (nP D h0 λi t=>?_)
  refine GC (my bs (λc e=>h c (GH _ e)) λa ns hi d=>?_)
  exact GD (q (.int i t::a) (i::ns) (.cons i t hi) (by simp[d]))
theorem zD (h2:bs≠[]) (d:∀ b∈bs,∃ n,n≠[]/\IsNts s.heap b n) (h:Q (aW true) s):wpAny (model prog w) A (keyKind' (bs.map Value.ref).toArray) Q E s:=by
 rw[keyKind'_eq,List.mapM_toArray]
 refine GC ?_
 rw[map_eq_pure_bind]
 refine GC (my bs d λa ns hi e=>GD ?_)
 have f:(a.map some).toArray.all (·.isSome)=true:=by simp
 rw[if_pos f]
 refine GC (wpAny_rule ?_)
 have hf:(a.map some).toArray.filterMap id=a.toArray:=by simp
 rw[hf,oneTypeOnly'_eq,List.mapM_toArray,mapM_typeOf_ints hi]
 simp only[map_pure,pure_bind]
 cases a with
 | nil=>exact absurd (Hv.mp e.symm) h2
 | cons v a =>
  have c:((List.map (λ_=>Value.type "int") (v::a)).toArray.all λx=>x == Value.type "int")=true:=by
   simp only[List.all_toArray,List.all_map,List.all_eq_true]
   intro _ _
   rfl
  have h0:(List.map (λ_=>Value.type "int") (v::a)).toArray[0]?=some (Value.type "int"):=by simp
  rw[h0]
  simp only[c,if_true,pure_bind,Option.any_some]
  exact GD h
end
theorem IsNts.at (x:IsNts h b n) (e:∀ o,h.get? b=some o->h'.get? b=some o):IsNts h' b n:=by
 obtain ⟨it,⟨o,e1,r⟩,j⟩:=x
 exact #[it,#[o,e o e1,r],j]
structure NRow (h:Heap) (bs:List Addr) (ns:List (List Int)):Prop where
 len:ns.length=bs.length
 at':∀ (i:Nat) (b:Addr) (n:List Int),bs[i]?=some b->ns[i]?=some n->IsNts h b n/\n≠[]
 asc:∀ (i:Nat) (x y:List Int),ns[i]?=some y->ns[i+1]?=some x->HT.lexLt x y=false
theorem NRow.keep (r:NRow h bs ns) (k:∀ b∈bs,∀ o,h.get? b=some o->h'.get? b=some o):NRow h' bs ns :=
 #[r.len,λi b n e1 a=>#[(r.at' i b n e1 a).1.at (k b (GV e1)),(r.at' i b n e1 a).2],r.asc]
section
variable {prog:Program} {w:World} {A:Around} {R:Result->Shared->Prop}
theorem zV (y:A.handled=none) (q:d≠I) (g:S≠I) (l:S≠d) {ep:Nat} (hz:es.size<=sizeLine) (res:Value) :
  ∀ (k i:Nat) (s:Shared) (c:Nat),es.size - i=k->i<=es.size->s.heap.IsKeyIter I d i es.size ep->RawAt s.heap d es ep ->
  s.heap.get? S=some { cls:=.type "list",dict:=none,data:=.seq ((es.toList.take i).map (·.key)).toArray c,slots:=(List.toArray []) } ->
  (∀ h' B tk,h'.get? S=some { cls:=.type "list",dict:=none,data:=.seq (es.toList.map (·.key)).toArray B,slots:=(List.toArray []) }->(∀ b o,b≠I->b≠S->s.heap.get? b=some o->h'.get? b=some o)->R (.ok (.ret res)) { s with heap:=h',toks:=tk }) ->
  codeAny (model prog w) A (.builtin "list.extend.loop" #[[.ref S,.ref I,res],[]]) R s:=by
 intro k
 induction k with
 | zero =>
  intro i s c z hi hit hm n fin
  obtain rfl:i=es.size:=by lia
  refine codeAny_builtin F.entry_extend_loop ?_
  rw[Around.under_plainId F.plain_extend_loop _]
  show wpAny _ A.in1 (pyNext (.ref I) >>= _) _ _ s
  refine GC (iR (show A.in1.handled=none from y) hit hm (GZ _) λh' t=>?_)
  have a:=t S _ g n
  rw[List.take_of_length_le (by simp)] at a
  exact GD (fin h' c s.toks a λb o j _ e=>t b o j e)
 | succ k ih =>
  intro i s c z hi hit hm n fin
  have f:i < es.size:=by lia
  refine codeAny_builtin F.entry_extend_loop ?_
  rw[Around.under_plainId F.plain_extend_loop _]
  show wpAny _ A.in1 (pyNext (.ref I) >>= _) _ _ s
  refine GC (gu hit hm f λh' h sb=>?_)
  have a:h'.get? S=_:=(sb.2 S g).trans n
  have v:((es.toList.take i).map (·.key)).toArray.size=i:=by simp;lia
  show wpAny _ A.in1 (updateSeq S (·.push es[i].key) >>= _) _ _ _
  refine GC (wpAny_updateSeq a rfl (GD #[plainId_quiet F.plain_extend_loop _,?_]) (by rw[v];lia) (by rw[Array.size_push,v];lia))
  obtain ⟨c2,m⟩:∃ c2,(h'.update S (Obj.mapSeq (·.push es[i].key))).get? S=some (seqObj "list" (((es.toList.take i).map (·.key)).toArray.push es[i].key) c2):=#[_,get?_update_seq a (·.push es[i].key)]
  refine ih (i+1) _ c2 (by lia) f (h.at λo e=>(Hl _ _ g).trans e) ?_ ?_ λh3 x tk p k3=>?_
  .obtain ⟨o,e,r⟩:=hm
   exact #[o,(Hl _ _ l).trans ((sb.2 d q).trans e),r]
  .have e:((es.toList.take i).map (·.key)).toArray.push es[i].key=((es.toList.take (i+1)).map (·.key)).toArray:=by
    rw[List.take_add_one,Array.getElem?_toList,Array.getElem?_eq_getElem f]
    simp
   rw[<- e]
   exact m
  .exact fin h3 x tk p λb o j u e=>k3 b o j u ((Hl _ _ (Ne.symm u)).trans ((sb.2 b j).trans e))
end
section
variable {prog:Program} {w:World} {A:Around} {E:Value->Shared->Prop} {s:Shared}
theorem wS (a:s.TypeIs (.ref d) "dict") (h:Q false s):wpAny (model prog w) A (Builtin.List.listLengthHint (.ref d)) Q E s:=by
 unfold Builtin.List.listLengthHint
 refine GC (wpAny_specialOf a F.slot_dict_len.lookup ?_)
 have c:splitId "dict.__len__"=some ("dict","__len__"):=by kernel_rfl
 dsimp only
 simp only[c]
 refine GC (wpAny_isInstance (T:="dict") a (b:=true) (by rw[isSubtype_type];kernel_rfl) ?_)
 simp only[Bool.not_true,Hi,if_false]
 rw[if_pos (by kernel_rfl)]
 refine GC (wpAny_typeOf a ?_)
 exact GD h
end
section
variable {prog:Program} {w:World} {A:Around} {E:Value->Shared->Prop} {s:Shared}
theorem ph {ep:Nat} (H:A.handled=none) (hd:(d == sysModules)=false) (hm:RawAt s.heap d es ep) (hz:es.size<=sizeLine) (h:∀ h' tk,s.heap.objs.size<=h'.objs.size->(∀ b o,s.heap.get? b=some o->h'.get? b=some o)->Q (es.toList.map (·.key)) { s with heap:=h',toks:=tk }):wpAny (model prog w) A (collect (.ref d)) Q E s:=by
 have a:d < s.heap.objs.size:=by obtain ⟨o,e,_⟩:=hm;exact GP e
 unfold collect
 refine GC (wpAny_runValue (codeAny_builtin F.entry_proto_collect ?_))
 rw[Around.under_plainId F.plain_proto_collect _]
 show wpAny _ A.in1 (newList [] >>= λl=>again (.builtin "list.__iadd__" #[[l,.ref d],[]])) _ _ s
 refine GC (wpAny_newObj_type ?_)
 refine GD #[plainId_quiet F.plain_list_iadd _,codeAny_builtin F.entry_list_iadd ?_]
 rw[Around.under_plainId F.plain_list_iadd _]
 show wpAny _ A.in1 (Builtin.List.listExtendWith (.ref s.heap.objs.size) (.ref d) (.ref s.heap.objs.size)) _ _ { s with heap:=s.heap.push { cls:=.type "list",data:=.seq ([]:List Value).toArray } }
 unfold Builtin.List.listExtendWith
 have g:RawAt (s.heap.push { cls:=.type "list",data:=.seq ([]:List Value).toArray }) d es ep:=by
  obtain ⟨o,e,r⟩:=hm
  exact #[o,GI _ e,r]
 have D:Shared.TypeIs { s with heap:=s.heap.push { cls:=.type "list",data:=.seq ([]:List Value).toArray } } (.ref d) "dict":=RawAt.typeIs (s:={ s with heap:=s.heap.push { cls:=.type "list",data:=.seq ([]:List Value).toArray } }) g
 refine GC (wpAny_typeOf D ?_)
 have h1:Builtin.List.listSameRef (.ref s.heap.objs.size) (.ref d)=false:=beq_false_of_ne (Nat.ne_of_gt a)
 have h2:(Value.type "dict" == Value.type "list")=false:=by decide
 have h3:(Value.type "dict" == Value.type "tuple")=false:=by decide
 simp only[h1,h2,h3,Bool.or_false,Hi,if_false]
 have v:(s.heap.push { cls:=.type "list",data:=.seq ([]:List Value).toArray }).get? s.heap.objs.size=some (seqObj "list" (List.toArray []) 0):=GR _ rfl
 generalize j:s.heap.push { cls:=.type "list",data:=.seq ([]:List Value).toArray }=H1 at *
 have p:H1.objs.size=s.heap.objs.size+1:=by rw[<- j];exact Hm ..
 have G:∀ b o,s.heap.get? b=some o->H1.get? b=some o:=λb o e=>by rw[<- j];exact GI _ e
 refine GC (dJ (s:={ s with heap:=H1 }) hd g ?_)
 have B:Shared.TypeIs { s with heap:=H1.push { cls:=.type "dict_keyiterator",data:=.fields (List.toArray [.ref d,.int 0 0,.int es.size 0,.int ep 0]) } } (.ref d) "dict":=let #[o,e,c]:=D;#[o,GI _ e,c]
 refine GC (GF (wS B ?_))
 rw[if_pos (by kernel_rfl)]
 refine GC (wpAny_rule ?_)
 have m:(H1.push { cls:=.type "dict_keyiterator",data:=.fields (List.toArray [.ref d,.int 0 0,.int es.size 0,.int ep 0]) }).get? s.heap.objs.size=some (seqObj "list" (List.toArray []) 0):=GI _ v
 have x:Heap.IsKeyIter (H1.push { cls:=.type "dict_keyiterator",data:=.fields (List.toArray [.ref d,.int 0 0,.int es.size 0,.int ep 0]) }) H1.objs.size d 0 es.size ep:=#[_,GR _ rfl,rfl,rfl]
 have y:RawAt (H1.push { cls:=.type "dict_keyiterator",data:=.fields (List.toArray [.ref d,.int 0 0,.int es.size 0,.int ep 0]) }) d es ep:=by
  obtain ⟨o,e,r⟩:=g
  exact #[o,GI _ e,r]
 have k2:∀ b o,s.heap.get? b=some o->(H1.push { cls:=.type "dict_keyiterator",data:=.fields (List.toArray [.ref d,.int 0 0,.int es.size 0,.int ep 0]) }).get? b=some o:=λb o e=>GI _ (G b o e)
 have L:s.heap.objs.size<=(H1.push { cls:=.type "dict_keyiterator",data:=.fields (List.toArray [.ref d,.int 0 0,.int es.size 0,.int ep 0]) }).objs.size:=by rw[Hm];lia
 show wpAny (model prog w) A.in1 (Builtin.List.listTouch (.ref s.heap.objs.size) >>= λ_=>again (.builtin "list.extend.loop" #[[.ref s.heap.objs.size,.ref H1.objs.size,.ref s.heap.objs.size],[]])) _ _ { s with heap:=H1.push { cls:=.type "dict_keyiterator",data:=.fields (List.toArray [.ref d,.int 0 0,.int es.size 0,.int ep 0]) } }
 generalize H1.push { cls:=.type "dict_keyiterator",data:=.fields (List.toArray [.ref d,.int 0 0,.int es.size 0,.int ep 0]) }=H2 at *
 unfold Builtin.List.listTouch
 refine GC (GC (listUpdate_at (s:={ s with heap:=H2 }) m rfl ?_))
 obtain ⟨C,t⟩:∃ C,(H2.update s.heap.objs.size (Obj.mapSeq (·.push Value.none))).get? s.heap.objs.size=some (seqObj "list" ((List.toArray []).push Value.none) C):=#[_,get?_update_seq m (·.push Value.none)]
 refine listUpdate_at (s:={ s with heap:=H2.update s.heap.objs.size (Obj.mapSeq (·.push Value.none)) }) t rfl ?_
 obtain ⟨z,u⟩:∃ z,((H2.update s.heap.objs.size (Obj.mapSeq (·.push Value.none))).update s.heap.objs.size (Obj.mapSeq (·.pop))).get? s.heap.objs.size=some (seqObj "list" ((List.toArray []).push Value.none).pop z):=#[_,get?_update_seq t (·.pop)]
 have f:∀ b o,b≠s.heap.objs.size->H2.get? b=some o->((H2.update s.heap.objs.size (Obj.mapSeq (·.push Value.none))).update s.heap.objs.size (Obj.mapSeq (·.pop))).get? b=some o:=λb o i e=>(Hl _ _ (Ne.symm i)).trans ((Hl _ _ (Ne.symm i)).trans e)
 have q:d≠s.heap.objs.size:=G4 a
 have k:H1.objs.size≠s.heap.objs.size:=by lia
 refine GD #[plainId_quiet F.plain_extend_loop _,zV (I:=H1.objs.size) (d:=d) (S:=s.heap.objs.size) (es:=es) (ep:=ep) H (by rw[p];exact G4 (Nat.lt_succ_of_lt a)) (Ne.symm k) (Ne.symm q) hz (.ref s.heap.objs.size) es.size 0 _ z (by lia) (Nat.zero_le _) (x.at λo e=>f _ _ k e) ?_ u λh' K tk n J=>?_]
 .obtain ⟨o,e,r⟩:=y
  exact #[o,f _ _ q e,r]
 .show wpAny (model prog w) A (load s.heap.objs.size >>= _) _ _ _
  refine GC (wpAny_load n ?_)
  show wpAny _ _ (pure (es.toList.map (·.key)).toArray.toList) _ _ _
  refine GD (h h' tk ?_ λb o e=>?_)
  .exact Nat.le_of_lt (GP n)
  .have i:b < s.heap.objs.size:=GP e
   exact J b o (by rw[p];exact G4 (Nat.lt_succ_of_lt i)) (G4 i) (f b o (G4 i) (k2 b o e))
end
theorem fE:∀ bs:List Addr,Vals (bs.map V.ref) (bs.map Value.ref)
 | []=>.nil
 | _::bs=>.cons rfl (fE bs)
end L2
end
section
namespace L2
open PySem
abbrev Up (xs:Array Nat):Prop:=xs.toList.Pairwise (· < ·)
theorem Up.at (h:Up xs) {i k:Nat} (a:i < k) (b:k < xs.size):xs[i]'(by omega) < xs[k]:=by
 have:=List.pairwise_iff_getElem.mp h i k (by simp;lia) (by simpa using b) a
 simpa using this
structure Tab (b:Bool) (t:SetTable):Prop where
 up:Up t.place
 led:t.led=b
end L2
end
section
namespace L2
open PySem PyProof.Rows
abbrev Dm (w:World):Bool:=!w.params.followText "set-order"
def SetL (prog:Program) (w:World) (h:Heap) (a:Addr) (ns:List Int):Prop :=
 ∃ o es ep t ms,h.get? a=some o/\o.ExactSet/\o.data=.set es ep t/\ElemsOf (intKind prog w) es.toList/\IntsAre (es.toList.map (·.2)) ms/\ms.Perm ns/\es.size < scanBound/\t.fits es.size=true/\Tab (Dm w) t
theorem SetL.keep (x:SetL prog w h a ns) (k:∀ o,h.get? a=some o->h'.get? a=some o):SetL prog w h' a ns :=
 let #[o,es,ep,t,ms,e,r]:=x;#[o,es,ep,t,ms,k o e,r]
def met (ns:List Int) (k:Int):List Int:=if k∈ns then ns else ns++[k]
def SIt (w:World) (h:Heap) (I a:Addr) (es:Array (Int×Value)) (ep:Nat) (t:SetTable) (ord:List Value) (i:Nat):Prop :=
  ∃ first,h.get? I=some { cls:=.type "set_iterator",dict:=none,data:=.fields (List.toArray [first,rawInt i,.ref a,rawInt es.size,rawInt ep]),slots:=(List.toArray []) } /\
    ((w.params.followText "set-order"=true /\ first=rawInt 0 /\ ord=(pickOrder (w.params.setOrder a ep) es).toList.map (·.2)) \/
     (w.params.followText "set-order"=false /\ (!t.plain && es.size > 1)=false /\ (∃ k:Nat,first=rawInt k /\ SetTable.below t.place k=i) /\ ord=es.toList.map (·.2)) \/
     (∃ (T:Addr) (ps:List Nat),first=.ref T /\ T≠I /\ h.get? T=some { cls:=.type "tuple",data:=.seq (ps.map λ(p:Nat)=>rawInt p).toArray } /\ ps.Perm (List.range es.size) /\ ord=ps.filterMap λp=>es[p]?.map (·.2)))
structure SAt (w:World) (h:Heap) (a:Addr) (es:Array (Int×Value)) (ep:Nat) (t:SetTable):Prop where
 at':∃ o,h.get? a=some o/\o.data=.set es ep t
 fits:t.fits es.size=true
 tab:Tab (Dm w) t
section
variable {prog:Program} {w:World} {A:Around} {E:Value->Shared->Prop} {s:Shared}
theorem SAt.keep {ep:Nat} (x:SAt w h a es ep t) (k:∀ o,h.get? a=some o->h'.get? a=some o):SAt w h' a es ep t :=
 let #[#[o,e,d],f,t]:=x;#[#[o,k o e,d],f,t]
theorem SIt.keep {ep:Nat} {i:Nat} (x:SIt w h I a es ep t ord i) (l:I≠S) (j:∀ T ps,h.get? T=some { cls:=.type "tuple",data:=.seq ps }->T≠S) (k:∀ b o,b≠S->h.get? b=some o->h'.get? b=some o):SIt w h' I a es ep t ord i:=by
 obtain ⟨f,g,m⟩:=x
 refine #[f,k _ _ l g,?_]
 rcases m with m | m | ⟨T,ps,e1,d,c,e⟩
 .exact .inl m
 .exact .inr (.inl m)
 .exact .inr (.inr #[T,ps,e1,d,k _ _ (j _ _ c) c,e])
end
end L2
end
section
namespace L2
open PySem PySem.Spec PyProof.Rows
section
variable {X:Cx}
theorem qi (h:wpAny (model prog w) A (eval k env) (λx s1=>wpAny (model prog w) A (eval v env) (λy s2=>wpAny (model prog w) A (dictSet s.heap.objs.size x y) (λ_ s3=>Q (.ref s.heap.objs.size) s3) E s2) E s1) E { s with heap:=s.heap.push { cls:=.type "dict",data:=.dict (List.toArray []) } }) :
  wpAny (model prog w) A (eval (.Dict [some k] [v] pos) env) Q E s:=by
 rw[arm_eval_Dict]
 refine GC (wpAny_standAt ?_)
 have e:=dictDisplay_pairs [(eval k env,(do let x <- eval v env;standAt pos;pure x:Sem Value))] (by simp) (by simp)
 refine (show wpAny (model prog w) A (dictDisplay ([(eval k env,(do let x <- eval v env;standAt pos;pure x:Sem Value))].map λp=>(some p.1,p.2))) Q E s from ?_)
 rw[e]
 refine GC ?_
 unfold subDict
 refine GC (wpAny_alloc (GC (GF ?_)))
 rw[if_pos (by simp)]
 refine GC ?_
 unfold evalPairs
 refine GC (wpAny_mono h (λx s1 h1=>?_) λ_ _ z=>z)
 refine GC (GF (GC (wpAny_mono h1 (λy s2 h2=>?_) λ_ _ z=>z)))
 refine GC (wpAny_standAt (GD ?_))
 refine GC (GF (GD (GD (GF ?_))))
 simp only[List.forIn_cons,List.forIn_nil]
 refine GC (GC (GC (wpAny_mono h2 (λ_ s3 h3=>?_) λ_ _ z=>z)))
 exact GD (GD (GD (GD (GD h3))))
def tD1K (k:Key) (v:V):TE:=λ_ H Q=>∀ p,H p=none->Q (.ref p) (upd (upd H p (.dK [])) p (.dK [(k,v)]))
theorem Fb (j:PE X k (tC (kV key))) (u:PE X v (tC d)):PE X (.Dict [some k] [v] pos) (tD1K key d):=by
 intro pins s Y H Q I q
 have m:=I.hok.fresh (GZ s.heap.objs.size)
 have w:=I.laid (a:=s.heap.objs.size) (o:=.dK []) (h':=s.heap.push { cls:=.type "dict",data:=.dict (List.toArray []) }) (t':=s.toks) (λ_ _ q=>GI _ q) (GZ _) (Ab s.heap I.big)
 refine qi (thn (j pins _ Y _ (λx H2=>x=kV key/\H2=upd H s.heap.objs.size (.dK [])) w #[rfl,rfl]) λx s1 #[A,H1,l,n,e1,e]=>thn (u pins s1 Y H1 (λy H2=>y=d/\H2=upd H s.heap.objs.size (.dK [])) l #[rfl,e]) λy s2 #[c,H2,f,t,g,p]=>?_)
 subst e1 e g p
 obtain ⟨z,hd,B,rel,i⟩:=mE f.hok (.inl aD)
 cases rel
 refine ig (hsz:=Nat.zero_le _) (qJ n) i λh' b h=>?_
 have he:∃ q,h'.get? s.heap.objs.size=some q:=let #[q,_,_,r,_]:=b;#[q,r]
 have hz:[(key,c)].length<=sizeLine:=(by decide:1<=sizeLine)
 exact #[.ref s.heap.objs.size,_,jL f (by rw[aD];exact True.intro) h he (Aa (kvs:=[(key,c)]) hz hd (KV.put (kvs:=[]) .nil key t) b),rfl,q _ m]
def tD1T (ns:List Int) (v:V):TE:=λ_ H Q=>∀ p,H p=none->∀ b,upd H p (.dT [] 0) b=none->Q (.ref p) (upd (upd (upd H p (.dT [] 0)) b (.tup (ns.map V.int))) p (.dT [(ns.map Sum.inl,v)] 0))
theorem Fa {x1:Nat} (hu:X.A.units+1 < cLine) (h0:ns≠[]) (hz:ns.length<=100) (u:es.map xr=ns.map some) (L:PE X v (tC d)):PE X (.Dict [some (.Tuple es x1 pos')] [v] pos) (tD1T ns d):=by
 intro pins s Y H Q I q
 have C:=I.hok.fresh (GZ s.heap.objs.size)
 have M:=I.laid (a:=s.heap.objs.size) (o:=.dT [] 0) (h':=s.heap.push { cls:=.type "dict",data:=.dict (List.toArray []) }) (t':=s.toks) (λ_ _ q=>GI _ q) (GZ _) (qZ s.heap I.big)
 have G:=yY (X:=X) (x1:=x1) (pos:=pos') (uR ns u)
 have len:(ns.map V.int).length<=sizeLine:=by rw[GS,sizeLine_eq];omega
 refine qi (thn (G pins _ Y _ (λx H2=>∃ b,x=.ref b/\upd H s.heap.objs.size (.dT [] 0) b=none/\H2=upd (upd H s.heap.objs.size (.dT [] 0)) b (.tup (ns.map V.int))) M #[len,λb e=>#[b,rfl,e,rfl]]) λx s1 #[O,H1,B,E,b,e1,e,D]=>thn (L pins s1 Y H1 (λy H2=>y=d/\H2=H1) B #[rfl,rfl]) λy s2 #[n,H2,g,K,p,F]=>?_)
 subst e1 D p F
 have nb:b≠s.heap.objs.size:=λz=>by rw[z,aD] at e;cases e
 cases (show x=Value.ref b from E)
 have h:upd (upd H s.heap.objs.size (.dT [] 0)) b (.tup (ns.map V.int)) s.heap.objs.size=some (.dT [] 0):=by rw[ay (Ne.symm nb),aD]
 have hb2:upd (upd H s.heap.objs.size (.dT [] 0)) b (.tup (ns.map V.int)) b=some (.tup ((ns.map Sum.inl).map kV)):=by rw[aD,Hs];rfl
 obtain ⟨z,hd,xs,rel,t⟩:=ie g.hok (.inl h)
 cases rel
 refine fh (hsz:=Nat.zero_le _) (show (tupleKind (aG X.prog X.w)).room X.A from Nat.lt_of_succ_lt hu) (i5 g.hok hb2) t λh' j r=>?_
 obtain ⟨m,f,i,l,h2,h3,N,_,J⟩:=j
 refine #[.ref s.heap.objs.size,_,jL (ob:=.dT [(ns.map Sum.inl,n)] 0) g (by rw[h];exact True.intro) r #[m,l] #[(by decide:1<=sizeLine),hd,_,(KT.put (kvs:=[]) .nil (ns.map Sum.inl) hb2 K).keeps λc ys k=>?_,m,f,i,l,h2,h3,N,J],rfl,q _ C b e]
 rw[ay (zm k h (λz=>nomatch z))]
 exact k
end
section
variable {prog:Program} {w:World} {A:Around} {E:Value->Shared->Prop} {s:Shared}
theorem yD {d:Addr} {es:Array DictEntry} {ep:Nat} {Q:Value->Shared->Prop} (hd:(d == sysModules)=false) (hm:RawAt s.heap d es ep) (hz:(es.size:Int) < 2 ^ 63) (h:Q (.int es.size (s.toks+1)) { s with toks:=s.toks+1+1 }):wpAny (model prog w) A (call (.builtin "len") [.ref d]) Q E s:=by
 refine Calls.call_function_entry kind_len plain_len entry_len (args_len1 _) ?_
 have ty:=hm.typeIs
 obtain ⟨⟨c2,j,f,s2⟩,h2,c,b⟩:=hm
 obtain ⟨e,g,i,tk,os⟩:=s
 obtain ⟨a,_⟩:=c
 simp only at b a h2
 subst b a
 refine GC (GD (GC (wpAny_callSpecial?_slot ty F.slot_dict_len (wpAny_call_entry F.slot_dict_len ty F.entry_dict_len ?_ (F.args_dict_len_1 _)))))
 wp_walk
 refine #[_,rfl,?_]
 rw[show ((es.size:Int)+((0:Nat):Int))=es.size by omega]
 refine GC (GF ?_)
 wp_walk
 rw[if_neg (by omega)]
 wp_walk
 exact #[_,rfl,h]
end
section
variable {X:Cx}
theorem xk:CallR X (.builtin "len") (λxs H Q=>∃ p ys,xs=[.ref p]/\RdT H p ys/\Q (.int ys.length) H):=by
 intro pins s Y H xs us Q I r h
 obtain ⟨p,ys,rfl,a,q⟩:=h
 obtain ⟨u,rfl,b⟩:=eK r
 cases b
 have c:=j7
 obtain ⟨y,es,⟨ep,raw⟩,sz,ent⟩:=o9 I.hok a
 obtain ⟨_,a⟩:=a
 obtain ⟨hz,_⟩:=ie I.hok a
 exact yD y raw (by lia) #[.int ys.length,H,I.tok _,#[s.toks+1,by rw[sz]],q]
end
def sf (l:Array Value):Obj:=seqObj "tuple" l 0
def ev (cmp:Nat->Nat->Option Bool) {α:Type} (m:Sem α):Option Addr->Option (α×Option Addr):=by
 induction m with
 | pure a=>exact λp=>some (a,p)
 | rule _ k ih=>exact ih ()
 | load b _ k ih=>exact λp=>match p with
  | none=>ih (sf (List.toArray [])) (some b)
  | some a=>match cmp a b with
   | some true=>ih (sf (List.toArray [Value.none])) none
   | some false=>ih (sf (List.toArray [])) none
   | none=>none
 | _=>exact λ_=>none
theorem CG (m:Sem α) (f:α->Sem β):∀ p,ev cmp (m.bind f) p=(ev cmp m p).bind λr=>ev cmp (f r.1) r.2:=by
 induction m with
 | pure a=>exact λp=>rfl
 | rule _ k ih=>exact ih ()
 | load b _ k ih =>
  intro p
  cases p with
  | none=>exact ih _ _
  | some a =>
   show (match cmp a b with
    | some true=>ev cmp ((k (sf (List.toArray [Value.none]))).bind f) none
    | some false=>ev cmp ((k (sf (List.toArray []))).bind f) none
    | none=>none)=Option.bind (match cmp a b with
    | some true=>ev cmp (k (sf (List.toArray [Value.none]))) none
    | some false=>ev cmp (k (sf (List.toArray []))) none
    | none=>none) _
   grind
 | _=>exact λ_=>rfl
def iU (U:Keyed->Keyed) (k:SortKind):Prop:=(U (.none,.none)=(.none,.none)->k=aW true\/k=oneType')/\(U (.none,.none)≠(.none,.none)->k=aW false)
structure Fol (U:Keyed->Keyed) (st ps:SortSt):Prop where
 kind:iU U (kindOf st)
 kind':kindOf ps=aW true
 arr:arrOf st=(arrOf ps).map U
 pend:pendingOf st=pendingOf ps
 mg:gallopOf st=gallopOf ps
 fail:failedOf st=none
 fail':failedOf ps=none
class EqRl (α:Type) where
instance:EqRl Nat:=#[]
instance:EqRl Bool:=#[]
instance:EqRl PUnit:=#[]
instance {α:Type} [EqRl α]:EqRl (Option α):=#[]
instance {α:Type} [EqRl α]:EqRl (Array α):=#[]
instance {α β:Type} [EqRl α] [EqRl β]:EqRl (α×β):=#[]
instance {α:Type} [EqRl α]:EqRl (ForInStep α):=#[]
class Rl (U:Keyed->Keyed) (α:Type) where
 rel:α->α->Prop
variable {U:Keyed->Keyed}
instance rlO {α:Type} [Rl U α]:Rl U (Option α):=#[λx y=>match x,y with | none,none=>True | some a,some b=>Rl.rel U a b | _,_=>False]
instance rlP {α β:Type} [Rl U α] [Rl U β]:Rl U (α×β):=#[λx y=>Rl.rel U x.1 y.1/\Rl.rel U x.2 y.2]
instance rlF {α:Type} [Rl U α]:Rl U (ForInStep α):=#[λx y=>match x,y with | .done a,.done b=>Rl.rel U a b | .yield a,.yield b=>Rl.rel U a b | _,_=>False]
instance rlK:Rl U Keyed:=#[λp i=>p=U i]
instance rlA:Rl U (Array Keyed):=#[λp i=>p=i.map U]
instance rlS:Rl U SortSt:=#[Fol U]
instance (priority:=high) rlE {α:Type} [EqRl α]:Rl U α:=#[Eq]
section
variable {prog:Program} {w:World} {A:Around} {E:Value->Shared->Prop} {s:Shared} {cmp:Nat->Nat->Option Bool} {α β:Type}
def Sim (prog:Program) (w:World) (A:Around) (E:Value->Shared->Prop) (s:Shared) (U:Keyed->Keyed) (cmp:Nat->Nat->Option Bool) {α:Type} [Rl U α] (m p:StateT SortSt Sem α):Prop :=
 ∀ st ps b d q,Fol U st ps->ev cmp (p.run ps) none=some ((b,d),q)->∃ a c,Rl.rel U a b/\Fol U c d/\q=none/\∀ Q:α->SortSt->Prop,Q a c->wpS (model prog w) A E s m Q st
theorem aH [Rl U α] {a b:α} (h:Rl.rel U a b):Sim prog w A E s U cmp (pure a) (pure b):=by
 intro st ps g c d f e
 cases e
 exact #[a,st,h,f,rfl,λQ q=>wpS_pure q]
theorem cn [Rl U α] [Rl U β] {m p:StateT SortSt Sem α} {f g:α->StateT SortSt Sem β} (h:Sim prog w A E s U cmp m p) (k:∀ a b,Rl.rel U a b->Sim prog w A E s U cmp (f a) (g b)):Sim prog w A E s U cmp (m >>= f) (p >>= g):=by
 intro st ps t i u B e
 have e:ev cmp ((p.run ps).bind λx=>(g x.1).run x.2) none=some ((t,i),u):=e
 rw[CG] at e
 obtain ⟨⟨⟨b,d⟩,y⟩,e1,z⟩:=Hg.mp e
 obtain ⟨a,n,r,j,rfl,h1⟩:=h st ps b d y B e1
 obtain ⟨c,o,v,l,rfl,h2⟩:=k a b r n d t i u j z
 exact #[c,o,v,l,rfl,λQ q=>wpS_bind (h1 _ (h2 Q q))]
theorem aC [EqRl α] [Rl U β] {f g:α->StateT SortSt Sem β} (h:Sim prog w A E s U cmp m p) (k:∀ a,Sim prog w A E s U cmp (f a) (g a)):Sim prog w A E s U cmp (m >>= f) (p >>= g) :=
 cn h λa b (r:a=b)=>r ▸ k a
theorem bB [EqRl α] [Rl U β] {f g:Option α->StateT SortSt Sem β} (h:Sim prog w A E s U cmp m p) (c:Sim prog w A E s U cmp (f none) (g none)) (ks:∀ a,Sim prog w A E s U cmp (f (some a)) (g (some a))):Sim prog w A E s U cmp (m >>= f) (p >>= g) :=
 cn h λa b (r:a=b)=>r ▸ (match a with | none=>c | some a=>ks a)
theorem bH [Rl U α] [Decidable c] {m n p q:StateT SortSt Sem α} (h1:c->Sim prog w A E s U cmp m p) (h2:¬ c->Sim prog w A E s U cmp n q):Sim prog w A E s U cmp (if c then m else n) (if c then p else q):=by grind
theorem xT [Rl U α] {m p:StateT SortSt Sem α} (h:∀ ps,ev cmp (p.run ps) none=none):Sim prog w A E s U cmp m p:=λst ps b a q f e=>by
 rw[h] at e
 cases e
theorem cV [Rl U α]:Sim prog w A E s U cmp m (unsupported t:Sem α):=xT λ_=>rfl
theorem kD [Rl U α] (h:∀ i x y,Rl.rel U x y -> @Sim prog w A E s U cmp _ rlF (f i x) (g i y)):∀ (l:List Nat) (x y:α),Rl.rel U x y -> Sim prog w A E s U cmp (forIn l x f) (forIn l y g)
  | [],x,y,r=>by rw[List.forIn_nil,List.forIn_nil]; exact aH r
  | i::l,x,y,r=>by
    rw[List.forIn_cons,List.forIn_cons]
    refine @cn _ _ _ _ _ _ _ _ _ rlF _ _ _ _ _ (h i x y r) λa b D=>?_
    cases a <;> cases b <;> first | exact False.elim D | skip
    . exact aH D
    . exact kD h l _ _ D
theorem fG [Rl U α] {a b:Nat} {x y:α} (r:Rl.rel U x y) (h:∀ i x y,Rl.rel U x y->@Sim prog w A E s U cmp _ rlF (f i x) (g i y)):Sim prog w A E s U cmp (forIn [a:b] x f) (forIn [a:b] y g):=by
 rw[Std.Legacy.Range.forIn_eq_forIn_range',Std.Legacy.Range.forIn_eq_forIn_range']
 exact kD h _ _ _ r
theorem iu [EqRl α] {a b:Nat} {x:α} (h:∀ i x,Sim prog w A E s U cmp (f i x) (g i x)):Sim prog w A E s U cmp (forIn [a:b] x f) (forIn [a:b] x g):=by
 refine fG rfl λi x y r=>?_
 cases r
 intro st ps b d q k e
 obtain ⟨c,j,r,dq⟩:=h i x st ps b d q k e
 refine #[c,j,?_,dq]
 obtain rfl:c=b:=r
 cases c <;> exact (rfl:_=_)
theorem uy:Sim prog w A E s U cmp (get:StateT SortSt Sem SortSt) get:=by
 intro st ps b a q f e
 cases e
 exact #[st,st,f,f,rfl,λQ q=>wpS_get q]
theorem eh (h:∀ st ps,Fol U st ps->Fol U (f st) (g ps)):Sim prog w A E s U cmp (modify f:StateT SortSt Sem PUnit) (modify g):=by
 intro st ps b a q c e
 cases e
 exact #[_,_,rfl,h st ps c,rfl,λQ q=>wpS_modify q]
theorem A0 (h:Fol U a D):Sim prog w A E s U cmp (set a:StateT SortSt Sem PUnit) (set D):=by
 intro st ps b D q c e
 cases e
 exact #[_,_,rfl,h,rfl,λQ q=>GD #[rfl,q]]
theorem eg:Sim prog w A E s U cmp (liftM (PySem.rule r:Sem Unit):StateT SortSt Sem Unit) (liftM (PySem.rule r:Sem Unit)):=by
 intro st ps b a q c e
 cases e
 exact #[_,st,rfl,c,rfl,λQ q=>wpS_lift (wpAny_rule #[rfl,q])]
theorem xW {i:Nat}:Sim prog w A E s U cmp (elem' (arr.map U) i) (elem' arr i):=by
 rw[elem'_eq,elem'_eq]
 cases e:arr[i]? with
 | none=>exact cV
 | some x =>
  have:(arr.map U)[i]?=some (U x):=by rw[Array.getElem?_map,e];rfl
  rw[this]
  exact aH rfl
theorem bK [Rl U α] {i:Nat} {f g:Keyed->StateT SortSt Sem α} (k:∀ u,Sim prog w A E s U cmp (f (U u)) (g u)):Sim prog w A E s U cmp (elem' (arr.map U) i >>= f) (elem' arr i >>= g) :=
 cn xW λu u' (hu:u=U u')=>hu ▸ k u'
end
def jJ (bs:List Addr) (x:Keyed):Keyed:=match x.1 with
 | .ref i=>(.ref (bs.getD i 0),.ref (bs.getD i 0))
 | _=>(.none,.none)
def iM (ns:List (List Int)) (i j:Nat):Option Bool:=match ns[i]?,ns[j]? with
 | some x,some y=>some (HT.lexLt x y)
 | _,_=>none
section
variable {prog:Program} {w:World} {A:Around} {E:Value->Shared->Prop} {s:Shared} {bs:List Addr} {ns:List (List Int)}
set_option tactic.hygienic true in
theorem qK (h:∀ a,v≠.ref a):∃ t,Builtin.List.listItems v=Sem.unsupported t:=by
 cases v
 case ref a=>exact absurd rfl (h a)
 case builtin id =>
  by_cases b:(withoutEnding? id "#opaque").isSome=true
  .have e:notAStandIn (.builtin id)=Sem.unsupported id:=if_pos b
   refine #[id,?_]
   show Sem.bind (Sem.bind (notAStandIn (.builtin id)) _) _=_
   rw[e]
   rfl
  .have e:notAStandIn (.builtin id)=Sem.pure ():=if_neg b
   have c:Builtin.List.listItems (.builtin id)=Sem.bind (Sem.bind (notAStandIn (.builtin id)) _) _:=rfl
   rw[e] at c
   exact #[_,c]
 all_goals exact #[_,rfl]
theorem Ct (h:∀ a,v≠.ref a):∃ t,keyLt' (aW true) v y=Sem.unsupported t:=by
 obtain ⟨t,e⟩:=qK h
 obtain ⟨G,e1⟩:∃ G,keyLt' (aW true) v y=(Builtin.List.listItems v).bind G:=#[_,rfl]
 exact #[t,by rw[e1,e];rfl]
theorem Cs (h:∀ a,v≠.ref a):∃ t,keyLt' (aW true) (.ref i) v=(Builtin.List.listItems (.ref i)).bind λ_=>Sem.unsupported t:=by
 obtain ⟨t,e⟩:=qK h
 obtain ⟨G,e1⟩:∃ G:Array Value->Array Value->Sem Bool,keyLt' (aW true) (.ref i) v=(Builtin.List.listItems (.ref i)).bind λxs=>(Builtin.List.listItems v).bind (G xs):=#[_,rfl]
 exact #[t,by rw[e1,e];rfl]
theorem wq (p:IsNts s.heap a x) (o:IsNts s.heap b y) (hu:A.units < cLine) (h:Q (HT.lexLt x y) s):wpAny (model prog w) A (oneLt' true (.ref a) (.ref b)) Q E s:=by
 obtain ⟨j,⟨⟨c1,e,m,f⟩,e1,c1,t,d1⟩,n⟩:=p
 obtain ⟨l,⟨⟨c2,d,i,c⟩,r,c2,k,g⟩,q⟩:=o
 simp only at c1 d1 c2 g
 subst c1 d1 c2 g
 rw[oneLt'_eq]
 simp only[if_true]
 refine GC (wpAny_cRoomFor hu ?_)
 refine GC (wpAny_callSpecialIfBound?_slot (T:="tuple") #[_,e1,rfl] PySem.F.slot_tuple_lt (call_meets PySem.F.slot_tuple_lt (T:="tuple") #[_,e1,rfl] PySem.F.entry_tuple_lt (PySem.F.args_tuple_lt_2 _ _) (HT.tuple_lt_ints a b j l t k e d f c x y n q) #[e1,r,?_]))
 exact Hn h
theorem ux {U:Keyed->Keyed} (hφ:∀ i v,U (.ref i,v)=(.ref (bs.getD i 0),.ref (bs.getD i 0))) (z:∀ k,iU U k->∀ (i j:Nat) (n m:List Int),ns[i]?=some n->ns[j]?=some m->∀ (u:Value->Shared->Prop) (Q:Bool->Shared->Prop),Q (HT.lexLt n m) s->wpAny (model prog w) A (keyLt' k (.ref (bs.getD i 0)) (.ref (bs.getD j 0))) Q u s) (x y:Keyed):Sim prog w A E s U (iM ns) (lt' (U x) (U y)) (lt' x y):=by
 intro st ps b c q f e
 obtain ⟨x1,C⟩:=x
 obtain ⟨l,B⟩:=y
 have p:=f.kind'
 cases ps with
 | mk k a pd g fl =>
 have p:k=aW true:=p
 subst p
 by_cases d:∀ a,x1≠.ref a
 .obtain ⟨t,h⟩:=Ct (y:=l) d
  rw[lt'_eq] at e
  have e:ev (iM ns) (Sem.bind (Sem.bind (Sem.attempt (keyLt' (aW true) x1 l)) _) _) none=some ((b,c),q):=e
  rw[h] at e
  cases e
 .by_cases o:∀ a,l≠.ref a
  .obtain ⟨i,d⟩:=Classical.not_forall.mp d
   obtain rfl:x1=.ref i:=Classical.not_not.mp d
   obtain ⟨t,h⟩:=Cs (i:=i) o
   rw[lt'_eq] at e
   have e:ev (iM ns) (Sem.bind (Sem.bind (Sem.attempt (keyLt' (aW true) (.ref i) l)) _) _) none=some ((b,c),q):=e
   rw[h] at e
   cases e
  .obtain ⟨i,d⟩:=Classical.not_forall.mp d
   obtain rfl:x1=.ref i:=Classical.not_not.mp d
   obtain ⟨j,o⟩:=Classical.not_forall.mp o
   obtain rfl:l=.ref j:=Classical.not_not.mp o
   have e:(match iM ns i j with
    | some true=>some ((some true,SortSt.mk' (aW true) a pd g fl),none)
    | some false=>some ((some false,SortSt.mk' (aW true) a pd g fl),none)
    | none=>none)=some ((b,c),q):=e
   unfold iM at e
   cases e1:ns[i]? with
   | none=>rw[e1] at e;cases e
   | some n =>
    cases r:ns[j]? with
    | none=>rw[e1,r] at e;cases e
    | some m =>
     rw[e1,r] at e
     have e:(match some (HT.lexLt n m) with
      | some true=>some ((some true,SortSt.mk' (aW true) a pd g fl),none)
      | some false=>some ((some false,SortSt.mk' (aW true) a pd g fl),none)
      | none=>none)=some ((b,c),q):=e
     have e:some ((some (HT.lexLt n m),SortSt.mk' (aW true) a pd g fl),(none:Option Addr))=some ((b,c),q):=by
      rw[<- e]
      cases HT.lexLt n m <;> rfl
     cases e
     refine #[_,st,rfl,f,rfl,λQ q=>?_]
     rw[lt'_eq]
     refine wpS_bind (wpS_get ?_)
     rw[hφ,hφ]
     refine wpS_bind (wpS_lift (wpAny_attempt (z (kindOf st) f.kind i j n m e1 r _ _ #[rfl,?_])))
     exact wpS_pure q
theorem Ej (hu:A.units < cLine) (b:∀ (i:Nat) (n:List Int),ns[i]?=some n->IsNts s.heap (bs.getD i 0) n) (x y:Keyed):Sim prog w A E s (jJ bs) (iM ns) (lt' (jJ bs x) (jJ bs y)) (lt' x y) :=
 ux (λ_ _=>rfl) (λk a i j n m e1 c d Q q=>by
  rcases a.1 rfl with a | a <;> rw[a]
  .exact wM (b i n e1) (b j m c) q
  .rw[keyLt'_oneType]
   exact wq (b i n e1) (b j m c) hu q) x y
end
end L2
end
section
namespace L2
open PySem PySem.Spec PyProof.Rows
def vh:Bool->Keyed->Array Keyed->Nat->Nat->Nat->StateT SortSt Sem (Option Nat):=sortPriv% PySem.Builtin.gallop
def qr:Array Keyed->Array Keyed->StateT SortSt Sem (Array Keyed):=sortPriv% PySem.Builtin.mergeLo
def qt:Array Keyed->Array Keyed->StateT SortSt Sem (Array Keyed):=sortPriv% PySem.Builtin.mergeHi
def x4:Nat->StateT SortSt Sem Unit:=sortPriv% PySem.Builtin.setMinGallop
section
variable {prog:Program} {w:World} {A:Around} {E:Value->Shared->Prop} {s:Shared} {U:Keyed->Keyed} {cmp:Nat->Nat->Option Bool}
theorem nc {g:Nat}:Sim prog w A E s U cmp (x4 g) (x4 g) :=
 eh λst ps f=>#[f.kind,f.kind',f.arr,f.pend,rfl,f.fail,f.fail']
theorem iw [EqRl γ] [EqRl δ] [Rl U β] {m p:StateT SortSt Sem (Option γ×δ)} {f g:Option γ×δ->StateT SortSt Sem β} (h:Sim prog w A E s U cmp m p) (a:∀ d,Sim prog w A E s U cmp (f (none,d)) (g (none,d))) (ks:∀ c d,Sim prog w A E s U cmp (f (some c,d)) (g (some c,d))):Sim prog w A E s U cmp (m >>= f) (p >>= g) :=
 aC h λx=>match x with
  | (none,d)=>a d
  | (some c,d)=>ks c d
theorem pX (a:∀ x y:Keyed,Sim prog w A E s U cmp (lt' (U x) (U y)) (lt' x y)) {i j:Nat}:Sim prog w A E s U cmp (ltAt' i j) (ltAt' i j):=by
 rw[ltAt'_eq]
 refine cn uy λst ps f=>?_
 have e:arrOf st=(arrOf ps).map U:=Fol.arr f
 dsimp only
 rw[e]
 exact bK λu=>bK λv=>a u v
theorem dy {β:Type} (p q:β->Nat):∀ (l:List β) (xs:Array Keyed),l.foldl (λa k=>a.swapIfInBounds (p k) (q k)) (xs.map U)=(l.foldl (λa k=>a.swapIfInBounds (p k) (q k)) xs).map U
 | [],xs=>rfl
 | k::l,xs=>by
  rw[List.foldl_cons,List.foldl_cons,<- dy p q l]
  congr 1
  apply Array.ext_getElem?
  intro i
  rw[Array.getElem?_map]
  by_cases h1:p k < xs.size
  .by_cases h2:q k < xs.size
   .rw[getElem?_swapIB (by simpa using h1) (by simpa using h2),getElem?_swapIB h1 h2]
    simp only[Array.getElem?_map]
    repeat' split
    all_goals rfl
   .rw[Array.swapIfInBounds_def,Array.swapIfInBounds_def,dif_pos (by simpa using h1),dif_neg (by simpa using h2),dif_pos h1,dif_neg h2,Array.getElem?_map]
  .rw[Array.swapIfInBounds_def,Array.swapIfInBounds_def,dif_neg (by simpa using h1),dif_neg h1,Array.getElem?_map]
theorem uu {i j:Nat}:Sim prog w A E s U cmp (reverseSlice' i j) (reverseSlice' i j):=by
 rw[reverseSlice'_eq]
 refine eh λst ps f=>#[f.kind,f.kind',?_,f.pend,f.mg,f.fail,f.fail']
 show mirror (arrOf st) _ _ _=(mirror (arrOf ps) _ _ _).map U
 rw[f.arr]
 exact dy _ _ _ _
theorem pY {i j:Nat}:Sim prog w A E s U cmp (moveDown' i j) (moveDown' i j):=by
 rw[moveDown'_eq]
 refine eh λst ps f=>#[f.kind,f.kind',?_,f.pend,f.mg,f.fail,f.fail']
 show bubble (arrOf st) _ _=(bubble (arrOf ps) _ _).map U
 rw[f.arr]
 exact dy _ _ _ _
theorem A3 (a:∀ x y:Keyed,Sim prog w A E s U cmp (lt' (U x) (U y)) (lt' x y)) {lo n ok:Nat}:Sim prog w A E s U cmp (binarySort' lo n ok) (binarySort' lo n ok):=by
 rw[binarySort'_eq]
 repeat' first
  | exact aH rfl
  | exact cV
  | refine bH (λ_=>?_) (λ_=>?_)
  | (refine bB (pX a) ?_ (λu=>?_) <;> try dsimp only)
  | (refine aC uu (λu=>?_);try dsimp only)
  | (refine aC pY (λu=>?_);try dsimp only)
  | (refine aC eg (λu=>?_);try dsimp only)
  | (refine iw (iu λi x=>?_) (λd=>?_) (λc d=>?_) <;> try dsimp only)
  | (refine aC (iu λi x=>?_) (λx=>?_) <;> try dsimp only)
theorem A2 (a:∀ x y:Keyed,Sim prog w A E s U cmp (lt' (U x) (U y)) (lt' x y)) {lo n:Nat}:Sim prog w A E s U cmp (countRun' lo n) (countRun' lo n):=by
 rw[countRun'_eq]
 repeat' first
  | exact aH rfl
  | exact cV
  | refine bH (λ_=>?_) (λ_=>?_)
  | (refine bB (pX a) ?_ (λu=>?_) <;> try dsimp only)
  | (refine aC uu (λu=>?_);try dsimp only)
  | (refine aC pY (λu=>?_);try dsimp only)
  | (refine aC eg (λu=>?_);try dsimp only)
  | (refine iw (iu λi x=>?_) (λd=>?_) (λc d=>?_) <;> try dsimp only)
  | (refine aC (iu λi x=>?_) (λx=>?_) <;> try dsimp only)
end
section
variable {prog:Program} {w:World} {A:Around} {E:Value->Shared->Prop} {s:Shared} {U:Keyed->Keyed} {cmp:Nat->Nat->Option Bool}
theorem fF (a:∀ x y:Keyed,Sim prog w A E s U cmp (lt' (U x) (U y)) (lt' x y)) {base n hint:Nat}:Sim prog w A E s U cmp (vh left (U key) (arr.map U) base n hint) (vh left key arr base n hint):=by
 refine bB (bK λu=>bH (λ_=>a _ _) (λ_=>aC (a _ _) λr=>aH rfl)) (aH rfl) (λu=>?_)
 dsimp only
 repeat' first
  | exact aH rfl
  | refine bH (λ_=>?_) (λ_=>?_)
  | (refine bB (bK λu=>bH (λ_=>a _ _) (λ_=>aC (a _ _) λr=>aH rfl)) ?_ (λu=>?_) <;> try dsimp only)
  | (refine iw (iu λi x=>?_) (λd=>?_) (λc d=>?_) <;> try dsimp only)
end
section
variable {prog:Program} {w:World} {A:Around} {E:Value->Shared->Prop} {s:Shared} {U:Keyed->Keyed} {cmp:Nat->Nat->Option Bool}
theorem kF [EqRl α]:@Rl.rel U α rlE a a:=rfl
theorem gr {X σ:Array Keyed} (h:X=σ.map U):Rl.rel U X σ:=h
theorem eO [Rl U α] {a b:α} (h:Rl.rel U a b):@Rl.rel U _ rlO (some a) (some b):=h
theorem eQ [Rl U α]:@Rl.rel U _ rlO (none:Option α) none:=trivial
theorem eR [Rl U α] {a b:α} (h:Rl.rel U a b):@Rl.rel U _ rlF (ForInStep.done a) (ForInStep.done b):=h
theorem de [Rl U α] {a b:α} (h:Rl.rel U a b):@Rl.rel U _ rlF (ForInStep.yield a) (ForInStep.yield b):=h
theorem eP [Rl U α] [Rl U β] {a b:α} {c d:β} (h:Rl.rel U a b) (h':Rl.rel U c d):@Rl.rel U _ rlP (a,c) (b,d):=#[h,h']
set_option tactic.hygienic true in
theorem xV [EqRl γ] {a b:Nat} {x y:Option (Array Keyed)×Array Keyed×γ} {f g:Nat -> Option (Array Keyed)×Array Keyed×γ -> StateT SortSt Sem (ForInStep (Option (Array Keyed)×Array Keyed×γ))} (r:Rl.rel U x y) (h:∀ i o d c,Sim prog w A E s U cmp (f i (o.map (Array.map U),d.map U,c)) (g i (o,d,c))):Sim prog w A E s U cmp (forIn [a:b] x f) (forIn [a:b] y g):=by
  refine fG r λi x y r=>?_
  obtain ⟨x1,t,j⟩:=x
  obtain ⟨u,e,n⟩:=y
  obtain ⟨k,l,m⟩:=r
  obtain rfl:t=e.map U:=l
  obtain rfl:j=n:=m
  cases x1 <;> cases u <;> first | exact False.elim k | skip
  . exact h i none e j
  . rename_i p q
    obtain rfl:p=q.map U:=k
    exact h i (some q) e j
set_option tactic.hygienic true in
theorem vX [EqRl γ] [Rl U β] {m p:StateT SortSt Sem (Option (Array Keyed)×Array Keyed×γ)} {f g:Option (Array Keyed)×Array Keyed×γ -> StateT SortSt Sem β} (h:Sim prog w A E s U cmp m p) (n:∀ d c,Sim prog w A E s U cmp (f (none,d.map U,c)) (g (none,d,c))) (ks:∀ r d c,Sim prog w A E s U cmp (f (some (r.map U),d.map U,c)) (g (some r,d,c))):Sim prog w A E s U cmp (m >>= f) (p >>= g):=by
  refine cn h λx y r=>?_
  obtain ⟨x1,l,b⟩:=x
  obtain ⟨o,a,k⟩:=y
  obtain ⟨e,i,j⟩:=r
  obtain rfl:l=a.map U:=i
  obtain rfl:b=k:=j
  cases x1 <;> cases o <;> first | exact False.elim e | skip
  . exact n a b
  . rename_i p q
    obtain rfl:p=q.map U:=e
    exact ks q a b
theorem cW [Rl U β] {f g:SortSt->StateT SortSt Sem β} (k:∀ st ps,Fol U st ps->Sim prog w A E s U cmp (f st) (g ps)):Sim prog w A E s U cmp (get >>= f) (get >>= g) :=
 cn uy λst ps a=>k st ps a
theorem pU (e:∀ x y:Keyed,Sim prog w A E s U cmp (lt' (U x) (U y)) (lt' x y)) (a b:Array Keyed):Sim prog w A E s U cmp (qr (a.map U) (b.map U)) (qr a b):=by
 refine aC eg λ_=>?_
 refine bK λy=>?_
 rw[Array.size_map,Array.size_map]
 refine bH (λ_=>aH (by (repeat' first | with_reducible exact eQ | with_reducible apply eR | with_reducible apply de | with_reducible apply eO | (with_reducible apply gr;simp only[Array.map_append,Array.map_push,Array.map_extract,Array.map_reverse,List.map_toArray,G6,List.map_nil];done) | with_reducible apply eP | with_reducible exact kF))) λ_=>?_
 refine bH (λ_=>aH (by (repeat' first | with_reducible exact eQ | with_reducible apply eR | with_reducible apply de | with_reducible apply eO | (with_reducible apply gr;simp only[Array.map_append,Array.map_push,Array.map_extract,Array.map_reverse,List.map_toArray,G6,List.map_nil];done) | with_reducible apply eP | with_reducible exact kF))) λ_=>?_
 refine cW λst ps g=>?_
 have f:=g.mg
 simp only[gallopOf] at f
 rw[f]
 repeat' first
  | exact aH (by (repeat' first | with_reducible exact eQ | with_reducible apply eR | with_reducible apply de | with_reducible apply eO | (with_reducible apply gr;simp only[Array.map_append,Array.map_push,Array.map_extract,Array.map_reverse,List.map_toArray,G6,List.map_nil];done) | with_reducible apply eP | with_reducible exact kF))
  | exact cV
  | refine bH (λ_=>?_) (λ_=>?_)
  | refine aC nc (λ_=>?_)
  | refine aC eg (λ_=>?_)
  | refine bK λu=>?_
  | (refine bB (fF e) ?_ (λu=>?_))
  | (refine bB (e _ _) ?_ (λu=>?_))
  | (refine vX (xV (by (repeat' first | with_reducible exact eQ | with_reducible apply eR | with_reducible apply de | with_reducible apply eO | (with_reducible apply gr;simp only[Array.map_append,Array.map_push,Array.map_extract,Array.map_reverse,List.map_toArray,G6,List.map_nil];done) | with_reducible apply eP | with_reducible exact kF)) λi o d c=>?_) (λd c=>?_) (λr d c=>?_))
end
section
variable {prog:Program} {w:World} {A:Around} {E:Value->Shared->Prop} {s:Shared} {U:Keyed->Keyed} {cmp:Nat->Nat->Option Bool}
set_option tactic.hygienic true in
theorem xU [EqRl γ] {a b:Nat} {x y:Option (Array Keyed)×Nat×Nat×Array Keyed×γ} {f g:Nat -> Option (Array Keyed)×Nat×Nat×Array Keyed×γ -> StateT SortSt Sem (ForInStep (Option (Array Keyed)×Nat×Nat×Array Keyed×γ))} (r:Rl.rel U x y) (h:∀ i o m n d c,Sim prog w A E s U cmp (f i (o.map (Array.map U),m,n,d.map U,c)) (g i (o,m,n,d,c))):Sim prog w A E s U cmp (forIn [a:b] x f) (forIn [a:b] y g):=by
  refine fG r λi x y r=>?_
  obtain ⟨x1,G,H,D,j⟩:=x
  obtain ⟨F,t,z,e,C⟩:=y
  obtain ⟨k,B,v,l,u⟩:=r
  obtain rfl:G=t:=B
  obtain rfl:H=z:=v
  obtain rfl:D=e.map U:=l
  obtain rfl:j=C:=u
  cases x1 <;> cases F <;> first | exact False.elim k | skip
  . exact h i none _ _ e j
  . rename_i p q
    obtain rfl:p=q.map U:=k
    exact h i (some q) _ _ e j
set_option tactic.hygienic true in
theorem vW [EqRl γ] [Rl U β] {m p:StateT SortSt Sem (Option (Array Keyed)×Nat×Nat×Array Keyed×γ)} {f g:Option (Array Keyed)×Nat×Nat×Array Keyed×γ -> StateT SortSt Sem β} (h:Sim prog w A E s U cmp m p) (v:∀ m n d c,Sim prog w A E s U cmp (f (none,m,n,d.map U,c)) (g (none,m,n,d,c))) (ks:∀ r m n d c,Sim prog w A E s U cmp (f (some (r.map U),m,n,d.map U,c)) (g (some r,m,n,d,c))):Sim prog w A E s U cmp (m >>= f) (p >>= g):=by
  refine cn h λx y r=>?_
  obtain ⟨x1,z,D,u,b⟩:=x
  obtain ⟨B,C,l,a,t⟩:=y
  obtain ⟨e,o,k,i,j⟩:=r
  obtain rfl:z=C:=o
  obtain rfl:D=l:=k
  obtain rfl:u=a.map U:=i
  obtain rfl:b=t:=j
  cases x1 <;> cases B <;> first | exact False.elim e | skip
  . exact v _ _ a b
  . rename_i p q
    obtain rfl:p=q.map U:=e
    exact ks q _ _ a b
theorem pV (f:∀ x y:Keyed,Sim prog w A E s U cmp (lt' (U x) (U y)) (lt' x y)) (a b:Array Keyed):Sim prog w A E s U cmp (qt (a.map U) (b.map U)) (qt a b):=by
 refine aC eg λ_=>?_
 rw[Array.size_map,Array.size_map]
 refine bK λy=>?_
 refine bH (λ_=>aH (by (repeat' first | with_reducible exact eQ | with_reducible apply eR | with_reducible apply de | with_reducible apply eO | (with_reducible apply gr;simp only[Array.map_append,Array.map_push,Array.map_extract,Array.map_reverse,List.map_toArray,G6,List.map_nil];done) | with_reducible apply eP | with_reducible exact kF))) λ_=>?_
 refine bH (λ_=>aH (by (repeat' first | with_reducible exact eQ | with_reducible apply eR | with_reducible apply de | with_reducible apply eO | (with_reducible apply gr;simp only[Array.map_append,Array.map_push,Array.map_extract,Array.map_reverse,List.map_toArray,G6,List.map_nil];done) | with_reducible apply eP | with_reducible exact kF))) λ_=>?_
 refine cW λst ps g=>?_
 have e:=g.mg
 simp only[gallopOf] at e
 rw[e]
 repeat' first
  | exact aH (by (repeat' first | with_reducible exact eQ | with_reducible apply eR | with_reducible apply de | with_reducible apply eO | (with_reducible apply gr;simp only[Array.map_append,Array.map_push,Array.map_extract,Array.map_reverse,List.map_toArray,G6,List.map_nil];done) | with_reducible apply eP | with_reducible exact kF))
  | exact cV
  | refine bH (λ_=>?_) (λ_=>?_)
  | refine aC nc (λ_=>?_)
  | refine aC eg (λ_=>?_)
  | refine bK λu=>?_
  | (refine bB (fF f) ?_ (λu=>?_))
  | (refine bB (f _ _) ?_ (λu=>?_))
  | (refine vW (xU (by (repeat' first | with_reducible exact eQ | with_reducible apply eR | with_reducible apply de | with_reducible apply eO | (with_reducible apply gr;simp only[Array.map_append,Array.map_push,Array.map_extract,Array.map_reverse,List.map_toArray,G6,List.map_nil];done) | with_reducible apply eP | with_reducible exact kF)) λi o m n d c=>?_) (λm n d c=>?_) (λr m n d c=>?_))
end
section
variable {prog:Program} {w:World} {A:Around} {E:Value->Shared->Prop} {s:Shared} {U:Keyed->Keyed} {cmp:Nat->Nat->Option Bool}
theorem nN (b:∀ a p j,G (a.map U) (U p,j)=(G a (p,j)).map U):∀ (l:List (Keyed×Nat)) (xs:Array Keyed),(l.map λx=>(U x.1,x.2)).foldl G (xs.map U)=(l.foldl G xs).map U
 | [],xs=>rfl
 | (p,j)::l,xs=>by
  rw[G6,List.foldl_cons,List.foldl_cons,<- nN b l]
  dsimp only
  rw[b]
theorem uw {f:SortSt->Array Keyed->SortSt} (hf:∀ st X,f st X=setArr st (X.toList.zipIdx.foldl G (arrOf st))) (c:∀ a p j,G (a.map U) (U p,j)=(G a (p,j)).map U):Sim prog w A E s U cmp (modify λst=>f st (m.map U)) (modify λst=>f st m):=by
 refine eh λst ps b=>?_
 rw[hf,hf]
 refine #[b.kind,b.kind',?_,b.pend,b.mg,b.fail,b.fail']
 show _=Array.map U (m.toList.zipIdx.foldl G (arrOf ps))
 rw[<- nN c,<- b.arr]
 show (m.map U).toList.zipIdx.foldl G (arrOf st)=_
 congr 1
 rw[Array.toList_map,List.zipIdx_map]
 rfl
theorem ng [Rl U β] {f g:Array Keyed->StateT SortSt Sem β} (h:Sim prog w A E s U cmp m p) (k:∀ d,Sim prog w A E s U cmp (f (d.map U)) (g d)):Sim prog w A E s U cmp (m >>= f) (p >>= g):=by
 refine cn h λx y (r:x=y.map U)=>?_
 rw[r]
 exact k y
theorem pW (e:∀ x y:Keyed,Sim prog w A E s U cmp (lt' (U x) (U y)) (lt' x y)) (i:Nat):Sim prog w A E s U cmp (mergeAt' i) (mergeAt' i):=by
 refine cW λst ps c=>?_
 have h1:=c.arr
 have h2:=c.pend
 simp only[arrOf,pendingOf] at h1 h2
 rw[h2]
 generalize (pendingOf ps)[i]?=a
 generalize (pendingOf ps)[i+1]?=b
 cases a with
 | none=>exact cV
 | some a =>
 cases b with
 | none=>exact cV
 | some b =>
 obtain ⟨sa,na,h⟩:=a
 obtain ⟨sb,nb,g⟩:=b
 refine aC (A0 #[c.kind,c.kind',c.arr,rfl,c.mg,c.fail,c.fail']) λ_=>?_
 rw[h1]
 refine bK λu=>?_
 refine bB (fF e) (aH rfl) λk=>?_
 refine bH (λ_=>aH rfl) λ_=>?_
 refine bK λu=>?_
 refine bB (fF e) (aH rfl) λk=>?_
 refine bH (λ_=>aH rfl) λ_=>?_
 simp only[<- Array.map_extract]
 refine bH (λ_=>?_) λ_=>?_
 .refine ng (pU e _ _) λd=>aC (uw (λ_ _=>rfl) λ_ _ _=>Array.map_setIfInBounds.symm) λ_=>cW λst ps f=>aH ?_
  show (failedOf st).isNone=(failedOf ps).isNone
  rw[f.fail,f.fail']
 .refine ng (pV e _ _) λd=>aC (uw (λ_ _=>rfl) λ_ _ _=>Array.map_setIfInBounds.symm) λ_=>cW λst ps f=>aH ?_
  show (failedOf st).isNone=(failedOf ps).isNone
  rw[f.fail,f.fail']
theorem pS (F:Array (Nat×Nat×Nat)->Array (Nat×Nat×Nat)) (hf:∀ st,f st=setPending st (F (pendingOf st))):Sim prog w A E s U cmp (modify f) (modify f) :=
 eh λst ps a=>by
  rw[hf,hf]
  exact #[a.kind,a.kind',a.arr,congrArg F a.pend,a.mg,a.fail,a.fail']
theorem xS (a:∀ x y:Keyed,Sim prog w A E s U cmp (lt' (U x) (U y)) (lt' x y)):Sim prog w A E s U cmp sortRuns' sortRuns':=by
 rw[sortRuns'_eq]
 refine cW λst ps b=>?_
 have hsz:(arrOf st).size=(arrOf ps).size:=by rw[b.arr,Array.size_map]
 dsimp only
 rw[hsz]
 generalize (arrOf ps).size=n
 repeat' first
  | exact aH rfl
  | refine bH (λ_=>?_) (λ_=>?_)
  | (refine bB (A2 a) ?_ (λu=>?_) <;> try dsimp only)
  | (refine aC (A3 a) (λu=>?_);try dsimp only)
  | (refine aC (pW a _) (λu=>?_);try dsimp only)
  | (refine aC eg (λu=>?_);try dsimp only)
  | (refine aC (pS (λp=>p.push _) λ_=>rfl) (λu=>?_);try dsimp only)
  | (refine aC (pS (λp=>p.modify (p.size - 1) _) λ_=>rfl) (λu=>?_);try dsimp only)
  | (refine cW λst ps b=>?_;rw[b.pend];generalize pendingOf ps=p;try dsimp only)
  | (refine iw (iu λi x=>?_) (λd=>?_) (λc d=>?_) <;> try dsimp only)
  | (generalize Array.back? _=d;rcases d with _ | ⟨s1,e,x⟩ <;> dsimp only)
  | (generalize (if p.size > 1 then p[p.size - 2]? else none)=d;rcases d with _ | ⟨s1,e,x⟩ <;> dsimp only)
end
def lY (n:Nat):Array Keyed:=((List.range n).map λi=>((Value.ref i,Value.ref i):Keyed)).toArray
def uV (x:Keyed):Option Nat:=match x.1 with
 | .ref i=>some i
 | _=>none
def bh (ns:List (List Int)):Option (List Nat) :=
 match ev (iM ns) (sortRuns'.run (SortSt.mk' (aW true) (lY ns.length) (List.toArray []) 7 none)) none with
 | some ((_,st),_)=>(arrOf st).toList.mapM uV
 | none=>none
structure NRs (h:Heap) (bs:List Addr) (ns:List (List Int)):Prop where
 len:ns.length=bs.length
 at':∀ (i:Nat) (b:Addr) (n:List Int),bs[i]?=some b->ns[i]?=some n->IsNts h b n
theorem NRs.tail (r:NRs h (b::bs) (n::ns)):NRs h bs ns :=
 #[by simpa using r.len,λi b n e1 a=>r.at' (i+1) b n (by simpa using e1) (by simpa using a)]
theorem NRs.keep (r:NRs h bs ns) (k:∀ b∈bs,∀ o,h.get? b=some o->h'.get? b=some o):NRs h' bs ns :=
 #[r.len,λi b n e1 a=>(r.at' i b n e1 a).at (k b (GV e1))]
theorem NRs.mem (r:NRs h bs ns):∀ b∈bs,∃ n∈ns,IsNts h b n:=λb c=>by
 obtain ⟨i,hi⟩:=List.getElem?_of_mem c
 have a:i < ns.length:=by rw[r.len];exact (GU.mp hi).1
 exact #[ns[i],List.getElem_mem _,r.at' i b _ hi (GO a)]
def kOk (ns:List (List Int)):Prop:=(∀ n∈ns,n≠[])\/ns.head?=some []
theorem lD:bh []=some []:=by kernel_rfl
theorem lC (n:List Int):bh [n]=some [0]:=by kernel_rfl
section
variable {prog:Program} {w:World} {A:Around} {E:Value->Shared->Prop} {s:Shared}
theorem zU (a:IsNts s.heap b []) (h:Q none s):wpAny (model prog w) A (firstOfTuple' (.ref b)) Q E s:=by
 obtain ⟨it,⟨o,e,c,k,d⟩,j⟩:=a
 refine GC (wpAny_typeOf (T:="tuple") #[o,e,c] ?_)
 rw[if_neg (by decide)]
 refine GC (listItems_at e d ?_)
 have:it[0]?=none:=by
  rw[<- Array.getElem?_toList]
  generalize it.toList=l at j
  cases j
  rfl
 rw[this]
 exact GD h
theorem i8:∀ (bs:List Addr) (ns:List (List Int)),NRs s.heap bs ns->(∀ os:List (Option Value),(ns.head?=some []->os.head?=some none)->Q os s) ->
  wpAny (model prog w) A ((bs.map Value.ref).mapM firstOfTuple') Q E s
 | [],[],_,q=>by
  simp only[List.map_nil,List.mapM_nil]
  exact GD (q [] λh=>by cases h)
 | [],_::_,r,_=>by have:=r.len;cases this
 | _::_,[],r,_=>by have:=r.len;cases this
 | b::bs,n::ns,r,q=>by
  rw[G6,List.mapM_cons]
  have a:=r.at' 0 b n rfl rfl
  cases n with
  | nil=>exact GC (zU a (GC (i8 bs ns r.tail λos _=>GD (q (none::os) λ_=>rfl))))
  | cons i n=>exact GC (nP a (by simp) λj t=>GC (i8 bs ns r.tail λos _=>GD (q (some (.int j t)::os) λh=>by simp at h)))
theorem m5:∀ (bs:List Addr) (ns:List (List Int)),NRs s.heap bs ns->Q (bs.map λ_=>.type "tuple") s->wpAny (model prog w) A ((bs.map Value.ref).mapM typeOf) Q E s
 | [],_,_,q=>by
  simp only[List.map_nil,List.mapM_nil]
  exact GD q
 | _::_,[],r,_=>by have:=r.len;cases this
 | b::bs,n::ns,r,q=>by
  rw[G6,List.mapM_cons]
  obtain ⟨it,⟨o,e,c,k,d⟩,j⟩:=r.at' 0 b n rfl rfl
  exact GC (wpAny_typeOf (T:="tuple") #[o,e,c] (GC (m5 bs ns r.tail (GD q))))
theorem zE (h2:bs≠[]) (r:NRs s.heap bs ns) (c:kOk ns) (h:∀ k,iU (jJ bs) k->Q k s):wpAny (model prog w) A (keyKind' (bs.map Value.ref).toArray) Q E s:=by
 rcases c with c | c
 .refine zD h2 (λb e=>?_) (h _ #[λ_=>.inl rfl,λz=>absurd rfl z])
  obtain ⟨n,f,x⟩:=r.mem b e
  exact #[n,c n f,x]
 .rw[keyKind'_eq,List.mapM_toArray]
  refine GC ?_
  rw[map_eq_pure_bind]
  refine GC (i8 bs ns r λos d=>GD ?_)
  have d:=d c
  obtain ⟨os,rfl⟩:∃ l,os=none::l:=by
   cases os with
   | nil=>cases d
   | cons x l=>cases d;exact #[l,rfl]
  rw[if_neg (by simp),if_neg (by simp),oneTypeOnly'_eq,List.mapM_toArray]
  refine GC (GC ?_)
  rw[map_eq_pure_bind]
  refine GC (m5 bs ns r (GD ?_))
  have h0:(List.map (λ_:Addr=>Value.type "tuple") bs).toArray[0]?=some (Value.type "tuple"):=by
   cases bs with
   | nil=>exact absurd rfl h2
   | cons b bs=>simp
  have a:((List.map (λ_:Addr=>Value.type "tuple") bs).toArray.all λx=>x == Value.type "tuple")=true:=by
   simp only[List.all_toArray,List.all_map,List.all_eq_true]
   intro _ _
   rfl
  rw[h0]
  dsimp only
  rw[if_pos a]
  exact GD (GD (h _ #[λ_=>.inr rfl,λz=>absurd rfl z]))
theorem wo (bs:List Addr):(bs.map Value.ref).toArray.zip (bs.map Value.ref).toArray=(lY bs.length).map (jJ bs):=by
 apply Array.ext_getElem?
 intro i
 rw[List.zip_toArray,Array.getElem?_map]
 unfold lY
 simp only[List.getElem?_toArray,GY]
 by_cases hi:i < bs.length
 .rw[List.getElem?_range hi]
  have e:bs[i]?=some bs[i]:=GO hi
  have:((bs.map Value.ref).zip (bs.map Value.ref))[i]?=some (Value.ref bs[i],Value.ref bs[i]):=by
   simp[List.getElem?_zip_eq_some,e]
  rw[this]
  simp[jJ,List.getD,e]
 .grind
theorem nB {U:Keyed->Keyed} {bs:List Addr} (hφ:∀ i v,U (.ref i,v)=(.ref (bs.getD i 0),.ref (bs.getD i 0))):∀ {l:List Keyed} {is:List Nat},l.mapM uV=some is->l.map (λx=>(U x).2)=is.map λi=>Value.ref (bs.getD i 0)
 | [],is,h=>by cases h;rfl
 | (x1,x2)::l,is,h=>by
  rw[List.mapM_cons] at h
  obtain ⟨i,e1,h⟩:=Hg.mp h
  obtain ⟨b,a,h⟩:=Hg.mp h
  cases h
  rw[G6,G6,nB hφ a]
  congr 1
  unfold uV at e1
  cases x1 <;> cases e1
  rw[hφ]
theorem lJ {U:Keyed->Keyed} {bs:List Addr} {ns:List (List Int)} {is:List Nat} {k:SortKind} {Q:Unit->SortSt->Prop} (hφ:∀ i v,U (.ref i,v)=(.ref (bs.getD i 0),.ref (bs.getD i 0))) (g:ns.length=bs.length) (c:∀ x y:Keyed,Sim prog w A E s U (iM ns) (lt' (U x) (U y)) (lt' x y)) (d:iU U k) (b:bh ns=some is)
  (h:∀ D,(arrOf D).map (·.2)=(is.map λi=>Value.ref (bs.getD i 0)).toArray->failedOf D=none->Q () D) :
  wpS (model prog w) A E s sortRuns' Q (SortSt.mk' k ((bs.map Value.ref).toArray.zip (bs.map Value.ref).toArray) (List.toArray []) 7 none):=by
 unfold bh at b
 cases e:ev (iM ns) (sortRuns'.run (SortSt.mk' (aW true) (lY ns.length) (List.toArray []) 7 none)) none with
 | none=>rw[e] at b;cases b
 | some p =>
  obtain ⟨⟨u,ps⟩,q⟩:=p
  rw[e] at b
  have b:(arrOf ps).toList.mapM uV=some is:=b
  have j:(bs.map Value.ref).toArray.zip (bs.map Value.ref).toArray=(lY ns.length).map U:=by
   rw[wo,<- g]
   unfold lY
   rw[List.map_toArray,List.map_toArray,Hs,Hs]
   congr 1
   refine Ht λi _=>?_
   show jJ bs (.ref i,.ref i)=U (.ref i,.ref i)
   rw[hφ];rfl
  obtain ⟨a,D,_,f,_,hw⟩:=xS c (SortSt.mk' k ((bs.map Value.ref).toArray.zip (bs.map Value.ref).toArray) (List.toArray []) 7 none) (SortSt.mk' (aW true) (lY ns.length) (List.toArray []) 7 none) u ps q
   #[d,rfl,j,rfl,rfl,rfl,rfl] e
  refine hw _ (h D ?_ f.fail)
  rw[f.arr,Array.map_map]
  apply Array.ext'
  rw[Array.toList_map]
  exact nB hφ b
theorem wb (hu:A.units < cLine) (r:NRs s.heap bs ns) (b:iU (jJ bs) k) (c:bh ns=some is) (h:∀ D,(arrOf D).map (·.2)=(is.map λi=>Value.ref (bs.getD i 0)).toArray->failedOf D=none->Q () D) :
  wpS (model prog w) A E s sortRuns' Q (SortSt.mk' k ((bs.map Value.ref).toArray.zip (bs.map Value.ref).toArray) (List.toArray []) 7 none):=by
 refine lJ (U:=jJ bs) (λ_ _=>rfl) r.len (Ej hu λi n e=>?_) b c h
 have hi:i < bs.length:=by rw[<- r.len];exact (GU.mp e).1
 have a:bs[i]?=some bs[i]:=GO hi
 rw[List.getD,a]
 exact r.at' i _ n a e
theorem pQ {a:Addr} {bs:List Addr} {is:List Nat} {n:Nat} {ok:SortKind->Prop} {P:Fin->Shared->Prop} (j:s.heap.get? a=some (seqObj "list" (bs.map Value.ref).toArray n)) (hsz:bs.length<=sizeLine) (q:is.length<=sizeLine) (p:bs.length < 2->(is.map λi=>Value.ref (bs.getD i 0))=bs.map Value.ref)
  (l:bs≠[]->∀ h':Heap,(∀ b o,b≠a->s.heap.get? b=some o->h'.get? b=some o)->∀ (Q:SortKind->Shared->Prop),(∀ k,ok k->Q k { s with heap:=h' })->wpAny (model prog w) A (keyKind' (bs.map Value.ref).toArray) Q E { s with heap:=h' })
  (u:∀ h':Heap,(∀ b o,b≠a->s.heap.get? b=some o->h'.get? b=some o)->∀ k,ok k->wpS (model prog w) A E { s with heap:=h' } sortRuns' (λ_ f=>(arrOf f).map (·.2)=(is.map λi=>Value.ref (bs.getD i 0)).toArray/\failedOf f=none) (SortSt.mk' k ((bs.map Value.ref).toArray.zip (bs.map Value.ref).toArray) (List.toArray []) 7 none))
  (h:P (.done (.ret .none)) { s with heap:=sortedHeap s.heap a (bs.map Value.ref) (is.map λi=>Value.ref (bs.getD i 0)).toArray }) :
  wpAny (model prog w) A (Builtin.«list.sort» #[[.ref a],[]]) P E s:=by
 rw[list_sort_plain]
 have x:a < s.heap.objs.size:=GP j
 have hsz2:(bs.map Value.ref).toArray.size<=sizeLine:=by simpa using hsz
 have d:(is.map λi=>Value.ref (bs.getD i 0)).toArray.size<=sizeLine:=by simpa using q
 refine GC (listItems_at j rfl ?_)
 refine GC (listUpdate_at j rfl ?_)
 obtain ⟨e1,g⟩:∃ e1,(s.heap.update a (Obj.mapSeq λ_=>(List.toArray []))).get? a=some (seqObj "list" (List.toArray []) e1):=#[_,get?_update_seq j (λ_=>(List.toArray []))]
 refine GC (seqEpoch_at g rfl ?_)
 refine GC (wpAny_newTuple ?_)
 refine GC (wpAny_newList ?_)
 refine GF ?_
 have c:(((s.heap.update a (Obj.mapSeq λ_=>(List.toArray []))).push (seqObj "tuple" (bs.map Value.ref).toArray 0)).push (seqObj "list" (List.toArray []) 0)).get? a=some (seqObj "list" (List.toArray []) e1) :=
  GI _ (GI _ g)
 have r:∀ b o,b≠a->s.heap.get? b=some o->(((s.heap.update a (Obj.mapSeq λ_=>(List.toArray []))).push (seqObj "tuple" (bs.map Value.ref).toArray 0)).push (seqObj "list" (List.toArray []) 0)).get? b=some o:=λb o t e =>
  GI _ (GI _ ((Hl _ _ (Ne.symm t)).trans e))
 show wpAny (model prog w) A _ P E { s with heap:=((s.heap.update a (Obj.mapSeq λ_=>(List.toArray []))).push (seqObj "tuple" (bs.map Value.ref).toArray 0)).push (seqObj "list" (List.toArray []) 0) }
 dsimp only
 by_cases h2:(bs.map Value.ref).toArray.size < 2
 .rw[if_pos h2,if_pos h2]
  refine GC (GD ?_)
  rw[StateT.run_pure]
  refine GC (GD ?_)
  dsimp only
  have out:((bs.map Value.ref).toArray.zip (bs.map Value.ref).toArray).map (·.2)=(is.map λi=>Value.ref (bs.getD i 0)).toArray:=by
   rw[p (by simpa using h2)]
   match bs,h2 with
   | [],_=>simp
   | [b],_=>simp[List.zip_toArray]
   | _::_::_,h2=>simp at h2;omega
  refine GC (seqEpoch_at c rfl ?_)
  show wpAny _ _ (Builtin.List.listUpdate (.ref a) (λ_=>((bs.map Value.ref).toArray.zip (bs.map Value.ref).toArray).map (·.2)) >>= _) _ _ _
  rw[out]
  refine GC (listUpdate_at c rfl ?_ (hsz2:=Nat.le_succ_of_le d))
  simp only[bne_self_eq_false,Hi,if_false]
  exact GD h
 .rw[if_neg h2,if_neg h2]
  have m:bs≠[]:=λz=>by subst z;simp at h2
  refine GC (l m _ r _ λk l=>?_)
  refine GC (wpAny_mono (u _ r k l) ?_ λ_ _ e=>e)
  rintro ⟨⟨⟩,f⟩ s' ⟨rfl,v,hf⟩
  dsimp only
  refine GC (seqEpoch_at c rfl ?_)
  rw[v]
  refine GC (listUpdate_at c rfl ?_ (hsz2:=Nat.le_succ_of_le d))
  rw[hf]
  simp only[bne_self_eq_false,Hi,if_false]
  exact GD h
theorem xR {n:Nat} (hu:A.units < cLine) (p:s.heap.get? a=some (seqObj "list" (bs.map Value.ref).toArray n)) (r:NRs s.heap bs ns) (t:kOk ns) (d:bh ns=some is) (hsz:bs.length<=sizeLine) (j:is.length<=sizeLine) (h:P (.done (.ret .none)) { s with heap:=sortedHeap s.heap a (bs.map Value.ref) (is.map λi=>Value.ref (bs.getD i 0)).toArray }) :
  wpAny (model prog w) A (Builtin.«list.sort» #[[.ref a],[]]) P E s:=by
 have f:∀ b∈bs,b≠a:=λb g z=>by
  obtain ⟨m,_,it,⟨o,e1,c,_⟩,_⟩:=r.mem b g
  rw[z,p] at e1
  cases e1
  have c:Value.type "list"=Value.type "tuple":=c
  injection c with c
  exact absurd c (by decide)
 refine pQ p hsz j (λh2=>?_) (λl h' k Q q=>zE (s:={ s with heap:=h' }) l (r.keep λb g o e=>k b o (f b g) e) t q) (λh' k κ hκ=>wb (s:={ s with heap:=h' }) hu (r.keep λb g o e=>k b o (f b g) e) hκ d λu a1 a2=>#[a1,a2]) h
 have v:=r.len
 match bs,ns,v,h2 with
 | [],[],_,_=>rw[lD] at d;cases d;rfl
 | [b],[n],_,_=>rw[lC] at d;cases d;rfl
 | _::_::_,_,_,h2=>simp at h2;lia
end
section
variable {prog:Program} {w:World} {A:Around} {E:Value->Shared->Prop} {s:Shared}
theorem oh {d:Addr} {es:Array DictEntry} {ep:Nat} {bs:List Addr} {ns:List (List Int)} {is:List Nat} {Q:Value->Shared->Prop} (hu:A.units+2 < cLine) (n:A.handled=none) (hd:(d == sysModules)=false) (hm:RawAt s.heap d es ep) (hz:es.size<=sizeLine)
  (j:es.toList.map (·.key)=bs.map Value.ref) (r:NRs s.heap bs ns) (q:kOk ns) (l:bh ns=some is) (f:is.length<=sizeLine)
  (h:∀ h' tk p,s.heap.objs.size<=p->(∀ b o,s.heap.get? b=some o->h'.get? b=some o)->(∃ e,h'.get? p=some (seqObj "list" (is.map λi=>Value.ref (bs.getD i 0)).toArray e))->Q (.ref p) { s with heap:=h',toks:=tk }) :
  wpAny (model prog w) A (call (.builtin "sorted") [.ref d]) Q E s:=by
 refine Calls.call_function_entry kind_sorted plain_sorted entry_sorted (args_sorted1 _) ?_
 unfold Builtin.«sorted»
 refine GC (m:=checkCount "sorted" 1 1 _) (GD ?_)
 refine GC (ph (A:=A.in1) n hd hm hz λh1 tk t g=>?_)
 rw[j]
 have k:bs.length<=sizeLine:=by
  have:(es.toList.map (·.key)).length=(bs.map Value.ref).length:=by rw[j]
  simp at this
  lia
 refine GC (wpAny_newList ?_ (by rw[GS];exact k))
 have a:(h1.push (seqObj "list" (bs.map Value.ref).toArray 0)).get? h1.objs.size=some (seqObj "list" (bs.map Value.ref).toArray 0):=GR _ rfl
 have k2:∀ b o,s.heap.get? b=some o->(h1.push (seqObj "list" (bs.map Value.ref).toArray 0)).get? b=some o:=λb o e=>GI _ (g b o e)
 show wpAny _ _ _ _ _ { s with heap:=h1.push (seqObj "list" (bs.map Value.ref).toArray 0),toks:=tk }
 refine GC (GF (wpAny_call_entry slot_list_sort #[_,a,rfl] entry_list_sort (xR (s:={ s with heap:=h1.push (seqObj "list" (bs.map Value.ref).toArray 0),toks:=tk }) ?_ a (r.keep λb _ o e=>k2 b o e) q l k f #[_,rfl,?_]) (args_list_sort _)))
 .exact hu
 refine GD #[_,rfl,h _ tk h1.objs.size t (λb o e=>?_) ?_]
 .have hb1:b < h1.objs.size:=GP (g b o e)
  unfold sortedHeap
  refine (Hl _ _ (Nat.ne_of_gt hb1)).trans (GI _ (GI _ ?_))
  exact (Hl _ _ (Nat.ne_of_gt hb1)).trans (k2 b o e)
 .unfold sortedHeap
  obtain ⟨e1,c⟩:∃ e1,((h1.push (seqObj "list" (bs.map Value.ref).toArray 0)).update h1.objs.size (Obj.mapSeq λ_=>(List.toArray []))).get? h1.objs.size=some (seqObj "list" (List.toArray []) e1):=#[_,get?_update_seq a (λ_=>(List.toArray []))]
  exact #[_,get?_update_seq (GI _ (GI _ c)) (λ_=>(is.map λi=>Value.ref (bs.getD i 0)).toArray)]
end
section
variable {X:Cx}
def uD:List V->Hp->VK->Prop:=λxs H Q=>∃ (a:Addr) (kvs:List (List Key×V)) (ns:List (List Int)) (is:List Nat),xs=[.ref a]/\RdT H a kvs/\kvs.map (·.1)=ns.map (λn=>n.map Sum.inl)/\kOk ns/\bh ns=some is/\ns.length<=sizeLine/\is.length<=sizeLine /\
 ∀ bs:List Addr,bs.length=ns.length->(∀ (i:Nat) (b:Addr) (n:List Int),bs[i]?=some b->ns[i]?=some n->H b=some (.tup (n.map V.int)))->∀ p,H p=none->Q (.ref p) (upd H p (.lst (is.map λi=>V.ref (bs.getD i 0))))
theorem rC (E:X.calm=true) (hu:X.A.units+2 < cLine):CallR X (.builtin "sorted") uD:=by
 intro pins s Y H xs us Q I F h
 obtain ⟨a,kvs,ns,is,rfl,G,z,h0,D,hz,g,q⟩:=h
 obtain ⟨u,rfl,L⟩:=eK F
 cases (show u=Value.ref a from L)
 obtain ⟨y,es,⟨ep,raw⟩,sz,ent⟩:=o9 I.hok G
 have M:kvs.length=ns.length:=by have:=congrArg List.length z;simpa using this
 have key:∀ (i:Nat) (n:List Int),ns[i]?=some n->∃ (hi:i < es.size) (b:Addr),es[i].key=.ref b/\H b=some (.tup (n.map V.int)):=λi n B=>by
  have hi:i < ns.length:=(GU.mp B).1
  have f:kvs[i]?=some (kvs[i]'(by lia)):=GO _
  obtain ⟨b,b1,b2,_⟩:=ent i (by lia) _ f
  refine #[by lia,b,b1,?_]
  have e1:(kvs[i]'(by lia)).1=n.map Sum.inl:=by
   have:(kvs.map (·.1))[i]?=(ns.map λn=>n.map Sum.inl)[i]?:=by rw[z]
   rw[GY,GY,f,B] at this
   exact Hu this
  rw[e1,Hs] at b2
  exact b2
 obtain ⟨bs,d⟩:∃ bs:List Addr,es.toList.map (·.key)=bs.map Value.ref:=by
  have:∀ l:List DictEntry,(∀ e∈l,∃ b:Addr,e.key=.ref b)->∃ bs:List Addr,l.map (·.key)=bs.map Value.ref:=λl=>by
   induction l with
   | nil=>exact λ_=>#[[],rfl]
   | cons e l ih =>
    intro h
    obtain ⟨b,d⟩:=h e GG
    obtain ⟨bs,w⟩:=ih λx K=>h x (GH _ K)
    exact #[b::bs,by rw[G6,G6,d,w]]
  refine this es.toList λe he=>?_
  obtain ⟨i,hi⟩:=List.getElem?_of_mem he
  have m:i < es.size:=by have:=(GU.mp hi).1;simpa using this
  obtain ⟨_,b,b1,_⟩:=key i _ (GO (show i < ns.length by lia))
  rw[Array.getElem?_toList,Array.getElem?_eq_getElem m] at hi
  cases hi
  exact #[b,b1]
 have c:bs.length=ns.length:=by
  have:=congrArg List.length d
  simp at this
  lia
 have at':∀ (i:Nat) (b:Addr) (n:List Int),bs[i]?=some b->ns[i]?=some n->H b=some (.tup (n.map V.int)):=λi b n e1 j=>by
  obtain ⟨hi,N,b1,b2⟩:=key i n j
  have:(es.toList.map (·.key))[i]?=(bs.map Value.ref)[i]?:=by rw[d]
  rw[GY,GY,e1,Array.getElem?_toList,Array.getElem?_eq_getElem hi] at this
  have t:es[i].key=Value.ref b:=Hu this
  rw[b1] at t
  cases t
  exact b2
 refine oh hu (I.ok.hd E) y raw (by lia) d #[c.symm,λi b n e1 j=>?_] h0 D g λh' tk p C k #[e,he]=>?_
 .obtain ⟨its,r,p,_⟩:=I.tuple (SqT.of (at' i b n e1 j))
  exact #[_,p,mh r]
 .have J:(is.map λi=>V.ref (bs.getD i 0))=(is.map λi=>bs.getD i 0).map V.ref:=by rw[Hs];rfl
  have v:(is.map λi=>Value.ref (bs.getD i 0))=(is.map λi=>bs.getD i 0).map Value.ref:=by rw[Hs];rfl
  refine #[.ref p,_,I.laid (a:=p) (o:=.lst (is.map λi=>V.ref (bs.getD i 0))) (t':=tk) (λb o q=>k b o q) C #[by rw[GS];exact g,is.map (λi=>Value.ref (bs.getD i 0)),e,?_,he],rfl,q bs c at' p (I.hok.fresh C)]
  rw[J,v]
  exact fE _
end
def zL (tl:TE):TI:=λY H R=>tl Y H λx H1=>(∃ a kvs m,x=.ref a/\Rd H1 a (.dT kvs m)/\R (Itk a kvs.length m) H1)\/∃ a kvs,x=.ref a/\Rd H1 a (.dK kvs)/\R (Iti a kvs.length) H1
theorem yW {X:Cx} {tg l:Expr} {tl:TE} (j:PE X l tl):PI X tg l (zL tl):=by
 intro pins s Y H R I h
 exact thn (j pins s Y H _ I h) λv s1 #[x,H1,c,g,i]=>by
  rcases i with ⟨a,kvs,m,e,f,q⟩ | ⟨a,kvs,e,f,q⟩
  .subst e
   cases g
   obtain ⟨y,es,ep,raw,k,sz,ent⟩:=jK c.hok f
   obtain rfl:ep=((es.size:Int) - m).toNat:=by lia
   refine dJ y raw ?_
   refine #[s1.heap.objs.size,[s1.heap.objs.size],_,_,H1,rfl,c.kept (t':=s1.toks) λb o e=>GI _ e,m6 a _ kvs.length m,#[_,GR _ rfl,rfl,by rw[sz];rfl],λb d=>?_,q]
   have e:b=s1.heap.objs.size:=by simpa using d
   subst e
   exact c.fpOk (GZ _) (c.hok.fresh (GZ _))
  .subst e
   cases g
   obtain ⟨y,es,raw,sz,ent⟩:=pc c.hok f
   refine dJ y raw ?_
   refine #[s1.heap.objs.size,[s1.heap.objs.size],_,_,H1,rfl,c.kept (t':=s1.toks) λb o e=>GI _ e,r9 a _ kvs.length,#[_,GR _ rfl,rfl,by rw[sz];rfl],λb d=>?_,q]
   have e:b=s1.heap.objs.size:=by simpa using d
   subst e
   exact c.fpOk (GZ _) (c.hok.fresh (GZ _))
section
variable {X:Cx}
theorem xl:CallR X (.builtin "len") (λxs H Q=>∃ p ys,xs=[.ref p]/\Rd H p (.dK ys)/\Q (.int ys.length) H):=by
 intro pins s Y H xs us Q I r h
 obtain ⟨p,ys,rfl,a,q⟩:=h
 obtain ⟨u,rfl,b⟩:=eK r
 cases b
 have c:=j7
 obtain ⟨y,es,raw,sz,ent⟩:=pc I.hok a
 have hz:ys.length<=sizeLine:=(mE I.hok a).1
 exact yD y raw (by lia) #[.int ys.length,H,I.tok _,#[s.toks+1,by rw[sz]],q]
end
end L2
end
section
namespace L2
open PySem PySem.W PySem.Spec PyProof.Rows
abbrev excO (a:Addr) (cls:Value):HO:=.ext λh=>∃ o,h.get? a=some o/\o.cls=cls
abbrev zX (ob:Obj) (a:Addr) (cls:Value):HO:=.frz ob (excO a cls)
structure ExcK (K:FG) (D:Addr):Prop where
 ga:findIn K (.ref D) "__getattribute__"=some (some (.builtin "BaseException.__getattribute__"))
 gt:findIn K (.ref D) "__getattr__"=some none
 cl:(clsIn K D).isSome=true
 ca:findIn K (.ref D) "__class__"=some (some (.builtin "object.__class__"))
 sp:specialIn K (.builtin "object.__class__") "__get__"=some (some (.builtin "getset_descriptor.__get__"))
 tk:takesIn K (.builtin "object.__class__")=some true
 ob:mroIn K D (.type "object")=some true
 be:mroIn K D (.type "BaseException")=some true
structure XName (K:FG) (c:String) (D:Addr):Prop where
 ns:nsIn K mainGlobals (Str.ofString c)=some (some (.ref D))
 ex:ExcK K D
theorem XName.inj {K:FG} (a:XName K c D) (b:XName K c D'):D=D':=by
 have:=a.ns.symm.trans b.ns
 cases this
 rfl
end L2
end
section
namespace L2
open PySem
section
variable {K:FG} {h:Heap} {mg:Str->Option Value}
theorem zy {h:Heap} {i:Nat} {p:Obj} {q:Nat×Obj} (a:h.objs[i]?=some p) (e:qF (i,p)=some q):q.1=i /\ h.get? i=some q.2:=by
  obtain ⟨c,d,x,y⟩:=p
  unfold Heap.get?
  rw[a]
  cases x <;> first | (cases e; exact #[rfl,rfl]) | cases e
theorem j6:∀ {is:List Nat} {l:List Obj} {a:Nat} {o:Obj},(∀ (j i:Nat) (p:Obj),is[j]?=some i->l[j]?=some p->h.objs[i]?=some p)->((is.zip l).filterMap qF).lookup a=some o->h.get? a=some o
 | [],_,_,_,_,e=>by cases e
 | _::_,[],_,_,_,e=>by cases e
 | b::is,p::l,a,o,hj,e=>by
  have D:=hj 0 b p rfl rfl
  have f:∀ (j i:Nat) (p:Obj),is[j]?=some i->l[j]?=some p->h.objs[i]?=some p:=λj i p h1 h2=>hj (j+1) i p (by simpa using h1) (by simpa using h2)
  rw[List.zip_cons_cons,List.filterMap_cons] at e
  cases d:qF (b,p) with
  | none=>rw[d] at e;exact j6 f e
  | some q =>
   rw[d] at e
   obtain ⟨h1,h2⟩:=zy D d
   obtain ⟨g,k⟩:=q
   cases h1
   replace e:List.lookup a ((g,k)::(is.zip l).filterMap qF)=some o:=e
   rw[List.lookup_cons] at e
   cases c:a == g with
   | true=>rw[c] at e;cases eq_of_beq c;cases e;exact h2
   | false=>rw[c] at e;exact j6 f e
theorem fragAt_in (h:Heap):(zS h).In h:=λ_ _ e=>j6 (λj i p h1 h2=>by
 obtain ⟨a,rfl⟩:=GU.mp h1
 simpa using h2) e
def stPos (s:Stmt):Pos:=match s with
 | .FunctionDef _ _ _ _ _ _ _ _ _ p=>p
 | _=>#[0,0,0,0]
set_option tactic.hygienic true in
theorem Gi (X:K.In h) (G:h.Ns mainGlobals mg) (e:qX K n=mw n st):Def K mg n st:=by
 unfold qX at e
 split at e
 .rename_i f hf
  split at e
  .rename_i d c fd sl a
   unfold mw at e
   obtain ⟨name,qual,params,body,scope,globals,closure,defaults,kw,doc,pm,an,cd,ct,bi⟩:=fd
   simp only[Option.some.injEq,Prod.mk.injEq] at e
   obtain ⟨rfl,rfl,rfl,rfl,rfl,rfl,rfl,rfl,rfl,b⟩:=e
   exact #[f,_,Ga (st:=st) a b (by unfold PySem.W.keepIn;simp only[a]),PySem.W.mg_of X G hf]
  .cases e
 .cases e
theorem sW {α β:Type} {f g:α->β} {l:List α} (e:l.map f=l.map g) (i:Nat) {a:α} (h:l[i]?=some a):f a=g a:=List.map_inj_left.mp e a (GV h)
theorem aK {ds:List (Str×Stmt)} (X:K.In h) (G:h.Ns mainGlobals mg) (e:ds.map (λp=>qX K p.1)=ds.map (λp=>mw p.1 p.2)) (i:Nat) (hi:ds[i]?=some (n,st)):Def K mg n st:=Gi X G (sW e i hi)
theorem bY {l:List Str} (X:K.In h) (G:h.Ns mainGlobals mg) (e:l.map (PySem.W.nsIn K mainGlobals)=l.map (λ_=>some none)) (i:Nat) (hi:l[i]?=some n):mg n=none:=PySem.W.mg_none_of X G (sW e i hi)
set_option tactic.hygienic true in
theorem tF {l:List (Str×Int)} {v:Int} (X:K.In h) (G:h.Ns mainGlobals mg) (e:l.map (λp=>oZ K p.1)=l.map (λp=>some p.2)) (i:Nat) (hi:l[i]?=some (n,v)):∃ t,mg n=some (.int v t):=by
 have e:=sW e i hi
 unfold oZ at e
 dsimp only at e
 split at e
 .rename_i b t a;cases e;exact #[t,PySem.W.mg_of X G a]
 .cases e
theorem walk_ofS {l:PySem.W.OpenLaw} {n k:Nat} {S:FG->Prop} {sp:FG->Sp} (C:l.most=some n) (t:n<=sizeLine) (r:d.params.defaults=[]) (J:Room k callerA) (N:∀ (w:World) (h:Heap),YP w h->∃ K:FG,K.In h/\S K) (F:∀ (w:World) (mg:Str->Option Value) (i:Addr) (h:Heap) (K:FG),S K->K.In h->h.Ns mainGlobals mg->mg d.name=some (.ref i) ->
   ∃ fd:FuncData,(∀ (s:Shared) (u:Value),BindsTo s fd #[[u],[]] [(x,u)]) /\
    ∀ base:Heap,K.In base->base.Ns mainGlobals mg->FnOk l.prog w K mg base CX k i fd [x] (sp K)) (y:∀ (K:FG) (H:Hp) (a:Addr) (ns:List Int),ns.length<=n->C0 H->SqL K H a (ns.map V.int)->sp K [.ref a] H (λv _=>v=.bl true) λ_ _ _=>False) (j:∀ (H:Hp) (s:Shared) (e:Value) (s':Shared),CX [] H s (λ_ _ _=>False) e s'->False) :
  PySem.W.WalkO q loose XP YP l.row.toRowW d [] (λf D=>PySem.call f D):=by
 refine Att.attach_call C r λw s₀ E mg mb i o pm cd doc a D ns G σ O hd L m c hints hlen I=>?_
 obtain ⟨K,z,p⟩:=N w _ σ
 obtain ⟨fd,B,M⟩:=F w mg i _ K p z G.T.g m
 exact zA z G.T.g G.T.b G.T.builtins G.T.nolimit I c hints (Ho hlen t) J M B (λH A p=>y K H a ns hlen A p) λH e s'=>j H E e s'
end
end L2
end
section
namespace L3
open PySem L2
theorem nsE {α:Type} {p:α} {P:Prop} (e:(none:Option α)=some p):P:=nomatch e
inductive D where
 | non | bl (b:Bool) | int (i:Int) | str (x:Str)
 | tup (xs:List D) | lst (xs:List D) | fls (xs:List D) | dk (kvs:List (Key×D)) | dt (kvs:List (List Key×D))
 | exc (c:String) (fs:List (String×D))
 | desk (p:D) (hs:List D)
def jC:D->Bool
 | .lst _=>true
 | .dk _=>true
 | .dt _=>true
 | .desk _ _=>true
 | _=>false
def FzL (K:FG) (H:Hp) (a:Addr) (b:List V):Prop:=(∃ o,H a=some (.frz o (.lst b)))\/∃ (o:Obj) (its:Array Value) (n:Nat),K.lookup a=some o/\o.cls=.type "list"/\o.dict=none/\o.data=.seq its n/\its.size<=sizeLine/\Vals b its.toList
theorem FzL.sq (h:FzL K H a vs):SqL K H a vs:=h.elim (λ#[o,e]=>.inl (.inr #[o,e])) .inr
inductive Reps (R:D->V->List Addr->Prop):List D->List V->List Addr->Prop where
 | nil:Reps R [] [] []
 | cons {d v L ds vs L'}:R d v L->Reps R ds vs L'->Reps R (d::ds) (v::vs) (L++L')
inductive Rep (K:FG) (H:Hp):D->V->List Addr->Prop where
 | non:Rep K H .non .non []
 | bl (b:Bool):Rep K H (.bl b) (.bl b) []
 | int (i:Int):Rep K H (.int i) (.int i) []
 | str (x:Str):Rep K H (.str x) (.str x) []
 | tup {xs a vs L}:H a=some (.tup vs)->Reps (Rep K H) xs vs L->Rep K H (.tup xs) (.ref a) L
 | lst {xs a vs L}:H a=some (.lst vs)->Reps (Rep K H) xs vs L->Rep K H (.lst xs) (.ref a) (a::L)
 | lstF {xs a vs L}:FzL K H a vs->Reps (Rep K H) xs vs L->Rep K H (.fls xs) (.ref a) L
 | dK {kvs a ps L}:H a=some (.dK ps)->kvs.map (·.1)=ps.map (·.1)->Reps (Rep K H) (kvs.map (·.2)) (ps.map (·.2)) L->Rep K H (.dk kvs) (.ref a) (a::L)
 | dT {kvs a ps n L}:H a=some (.dT ps n)->kvs.map (·.1)=ps.map (·.1)->Reps (Rep K H) (kvs.map (·.2)) (ps.map (·.2)) L->Rep K H (.dt kvs) (.ref a) (a::L)
 | exc {c a D ob}:XName K c D->H a=some (zX ob a (.ref D))->Rep K H (.exc c []) (.ref a) []
 | excV {c a D ob n x v d od u}:XName K c D->H a=some (zX ob a (.ref D))->ob.dict=some d->H d=some (zX od d od.cls)->PySem.W.lookIn (Str.ofString n) od=some (some u)->RelV v u->PySem.W.notCls ob=true->Rep K H x v []->Rep K H (.exc c [(n,x)]) (.ref a) []
 | desk {p hs a C dx e vp vs}:H a=some (.dsk C dx e vp vs)->PySem.W.nsIn K mainGlobals (Str.ofString "Desk")=some (some (.ref C))->Rep K H p vp []->Reps (Rep K H) hs vs []->Rep K H (.desk p hs) (.ref a) [a]
def PayX (K:FG) (H:Hp) (da:Option Addr):List (String×D)->Prop
 | []=>True
 | [(n,x)]=>∃ v d F u,da=some d/\H d=some (zX F d F.cls)/\PySem.W.lookIn (Str.ofString n) F=some (some u)/\RelV v u/\Rep K H x v []
 | _=>False
def RepV (K:FG) (H:Hp) (d:D) (v:V) (L:List Addr):Prop:=match d with
 | .non=>v=.non/\L=[]
 | .bl b=>v=.bl b/\L=[]
 | .int i=>v=.int i/\L=[]
 | .str x=>v=.str x/\L=[]
 | .tup xs=>∃ a f,v=.ref a/\H a=some (.tup f)/\Reps (Rep K H) xs f L
 | .lst xs=>∃ a f L',v=.ref a/\L=a::L'/\H a=some (.lst f)/\Reps (Rep K H) xs f L'
 | .fls xs=>∃ a f,v=.ref a/\FzL K H a f/\Reps (Rep K H) xs f L
 | .dk kvs=>∃ a ps L',v=.ref a/\L=a::L'/\H a=some (.dK ps)/\kvs.map (·.1)=ps.map (·.1)/\Reps (Rep K H) (kvs.map (·.2)) (ps.map (·.2)) L'
 | .dt kvs=>∃ a ps L',v=.ref a/\L=a::L'/\HdT H a ps/\kvs.map (·.1)=ps.map (·.1)/\Reps (Rep K H) (kvs.map (·.2)) (ps.map (·.2)) L'
 | .exc c fs=>L=[]/\∃ a D ob,v=.ref a/\XName K c D/\H a=some (zX ob a (.ref D))/\PayX K H ob.dict fs/\(fs≠[]->PySem.W.notCls ob=true)
 | .desk p hs=>∃ a C h e g f,v=.ref a/\L=[a]/\H a=some (.dsk C h e g f)/\PySem.W.nsIn K mainGlobals (Str.ofString "Desk")=some (some (.ref C))/\Rep K H p g []/\Reps (Rep K H) hs f []
theorem Rep.view (r:Rep K H d v L):RepV K H d v L:=by
 cases r with
 | non=>exact #[rfl,rfl]
 | bl b=>exact #[rfl,rfl]
 | int i=>exact #[rfl,rfl]
 | str x=>exact #[rfl,rfl]
 | tup h r=>exact #[_,_,rfl,h,r]
 | lst h r=>exact #[_,_,_,rfl,rfl,h,r]
 | lstF h r=>exact #[_,_,rfl,h,r]
 | dK h k r=>exact #[_,_,_,rfl,rfl,h,k,r]
 | dT h k r=>exact #[_,_,_,rfl,rfl,#[_,h],k,r]
 | exc n h=>exact #[rfl,_,_,_,rfl,n,h,trivial,λz=>absurd rfl z]
 | excV n h1 h2 h3 h4 h5 h7 h6=>exact #[rfl,_,_,_,rfl,n,h1,#[_,_,_,_,h2,h3,h4,h5,h6],λ_=>h7]
 | desk h1 h2 h3 h4=>exact #[_,_,_,_,_,_,rfl,rfl,h1,h2,h3,h4]
def MutAt (H:Hp) (b:Addr):Prop:=(∃ xs,H b=some (.lst xs))\/(∃ ps,H b=some (.dK ps))\/(∃ ps n,H b=some (.dT ps n))\/∃ C c e a d,H b=some (.dsk C c e a d)
theorem MutAt.ex (m:MutAt H b):∃ o,H b=some o:=by
 rcases m with ⟨_,h⟩ | ⟨_,h⟩ | ⟨_,_,h⟩ | ⟨_,_,_,_,_,h⟩ <;> exact #[_,h]
theorem MutAt.notup (m:MutAt H b) (h:H b=some (.tup vs)):False:=by
 rcases m with ⟨_,e⟩ | ⟨_,e⟩ | ⟨_,_,e⟩ | ⟨_,_,_,_,_,e⟩ <;> rw[e] at h <;> cases h
theorem MutAt.nofrz (m:MutAt H b) (h:H b=some (.frz o u)):False:=by
 rcases m with ⟨_,e⟩ | ⟨_,e⟩ | ⟨_,_,e⟩ | ⟨_,_,_,_,_,e⟩ <;> rw[e] at h <;> cases h
theorem FzL.keep {M:Addr->Prop} (h:FzL K H a vs) (k:∀ b o,H b=some o->¬ M b->H' b=some o) (hm:∀ b,M b->MutAt H b):FzL K H' a vs:=h.elim (λ#[o,e]=>.inl #[o,k a _ e λz=>(hm a z).nofrz e]) .inr
section
variable {K:FG} {H H':Hp} {d:D} {v:V} {L:List Addr}
set_option tactic.hygienic true in
theorem Rep.inH (r:Rep K H d v L):∀ b∈L,MutAt H b:=by
 refine Rep.rec (motive_1:=λ_ _ L _=>∀ b∈L,MutAt H b) (motive_2:=λ_ _ L _=>∀ b∈L,MutAt H b) ?_ ?_ ?_ ?_ ?_ ?_ ?_ ?_ ?_ ?_ ?_ ?_ ?_ ?_ r
 .intro b a;cases a
 .intro _ b a;cases a
 .intro _ b a;cases a
 .intro _ b a;cases a
 .intro _ _ _ _ _ _ c;exact c
 .intro _ _ _ _ h _ c b a
  rcases GN.mp a with e | a
  .rw[e];exact .inl #[_,h]
  .exact c b a
 .intro _ _ _ _ _ _ c;exact c
 .intro _ _ _ _ h _ _ c b a
  rcases GN.mp a with e | a
  .rw[e];exact .inr (.inl #[_,h])
  .exact c b a
 .intro _ _ _ _ _ h _ _ c b a
  rcases GN.mp a with e | a
  .rw[e];exact .inr (.inr (.inl #[_,_,h]))
  .exact c b a
 .intro _ _ _ _ _ _ b a;cases a
 .intros;rename_i a;cases a
 .intro _ _ _ _ _ _ _ _ h _ _ _ _ _ b a
  cases Hh.mp a
  exact .inr (.inr (.inr #[_,_,_,_,_,h]))
 .intro b a;cases a
 .intro _ _ _ _ _ _ _ _ f g b a
  rcases GQ.mp a with h | h
  .exact f b h
  .exact g b h
theorem Reps.inH (r:Reps (Rep K H) ds vs L):∀ b∈L,MutAt H b:=by
 induction r with
 | nil=>intro b a;cases a
 | cons r _ ih =>
  intro b a
  rcases GQ.mp a with h | h
  .exact r.inH b h
  .exact ih b h
theorem Rep.keep {M:Addr->Prop} (k:∀ b o,H b=some o->¬ M b->H' b=some o) (hm:∀ b,M b->MutAt H b) (r:Rep K H d v L):(∀ b∈L,¬ M b)->Rep K H' d v L:=by
 refine Rep.rec (motive_1:=λd v L _=>(∀ b∈L,¬ M b)->Rep K H' d v L) (motive_2:=λds j L _=>(∀ b∈L,¬ M b)->Reps (Rep K H') ds j L) ?_ ?_ ?_ ?_ ?_ ?_ ?_ ?_ ?_ ?_ ?_ ?_ ?_ ?_ r
 .intro _;exact .non
 .intro b _;exact .bl b
 .intro b _;exact .int b
 .intro b _;exact .str b
 .intro xs a j L h _ g f
  exact .tup (k a _ h λz=>(hm a z).notup h) (g f)
 .intro xs a j L h _ g f
  exact .lst (k a _ h (f a GG)) (g λb i=>f b (GH _ i))
 .intro xs a j L h _ g f
  exact .lstF (h.keep k hm) (g f)
 .intro kvs a ps L h e _ g f
  exact .dK (k a _ h (f a GG)) e (g λb i=>f b (GH _ i))
 .intro kvs a ps n L h e _ g f
  exact .dT (k a _ h (f a GG)) e (g λb i=>f b (GH _ i))
 .intro c a D ob n h _
  exact .exc n (k a _ h λz=>(hm a z).nofrz h)
 .intro c a D ob n x v d F u e1 q t s B A y _ g _
  exact .excV e1 (k a _ q λz=>(hm a z).nofrz q) t (k d _ s λz=>(hm d z).nofrz s) B A y (g λ_ h=>nomatch h)
 .intro p E a C I e G j h w _ _ m l f
  exact .desk (k a _ h (f a GG)) w (m λ_ h=>nomatch h) (l λ_ h=>nomatch h)
 .intro _;exact .nil
 .intro d v L ds j L' _ _ m l f
  exact .cons (m λb i=>f b (GK _ i)) (l λb i=>f b (GL _ i))
theorem Rep.same (r:Rep K H d v L) (s:Same H H'):Rep K H' d v L:=r.keep (M:=λ_=>False) (λb o h _=>s b o h) (λ_ z=>z.elim) λ_ _ z=>z
theorem Reps.keep {M:Addr->Prop} (k:∀ b o,H b=some o->¬ M b->H' b=some o) (hm:∀ b,M b->MutAt H b) (r:Reps (Rep K H) ds vs L):(∀ b∈L,¬ M b)->Reps (Rep K H') ds vs L:=by
 induction r with
 | nil=>intro _;exact .nil
 | cons r _ ih=>intro c;exact .cons (r.keep k hm λb a=>c b (GK _ a)) (ih λb a=>c b (GL _ a))
theorem Reps.same (r:Reps (Rep K H) ds vs L) (s:Same H H'):Reps (Rep K H') ds vs L:=r.keep (M:=λ_=>False) (λb o h _=>s b o h) (λ_ z=>z.elim) λ_ _ z=>z
end
inductive Fl where
 | u | l | z
 deriving DecidableEq
structure It3 where
 d:D
 v:V
 L:List Addr
 f:Fl
abbrev Sto:=List (Option (D×Fl))
structure Gm where
 H0:Hp
 bw:Addr->Prop
 pr:Nat->Bool
 Y0:St
 orig:Hp
 src:Addr->Prop
 lv:Nat->Option V
def OwnOk (G:Gm) (x:It3):Prop:=jC x.d=true/\∃ a L',x.v=.ref a/\x.L=a::L'/\a ∉ L'/\(x.f=.u->G.H0 a=none\/G.bw a)
structure ItOk (K:FG) (G:Gm) (H:Hp) (x:It3):Prop where
 rep:Rep K H x.d x.v x.L
 own:x.f≠.z->OwnOk G x
 src:∀ c∈x.L,G.H0 c=none\/G.src c
structure Fx (G:Gm) (H:Hp) (T:List It3) (g:Nat->Option It3):Prop where
 frT:∀ x∈T,x.f≠.z->∀ a,x.v=.ref a->G.orig a=none
 frS:∀ i x,g i=some x->G.pr i=false->x.f≠.z->∀ a,x.v=.ref a->G.orig a=none
 bin:∀ b,G.bw b->∃ o,H b=some o
 ob:∀ b o,G.orig b=some o->∃ o',H b=some o'
 lvS:∀ i x,g i=some x->x.f=.l->G.lv i=some x.v
def NoRoot (x y:It3):Prop:=x.f≠.z->∀ a,x.v=.ref a->a ∉ y.L
def Apart3 (x y:It3):Prop:=NoRoot x y/\NoRoot y x
structure Wf (K:FG) (G:Gm) (H:Hp) (Y:St) (Z:Sto) (T:List It3) (g:Nat->Option It3):Prop where
 len:Y.length=Z.length
 sl:∀ i,(g i).map (λx=>(x.d,x.f))=(Z[i]?).join
 sv:∀ i x,g i=some x->Y[i]?=some (some x.v)
 okS:∀ i x,g i=some x->ItOk K G H x
 okT:∀ x∈T,ItOk K G H x
 ss:∀ i j x y,i≠j->g i=some x->g j=some y->NoRoot x y
 st:∀ i x,g i=some x->∀ y∈T,Apart3 x y
 tt:T.Pairwise Apart3
 base:∀ b o,G.H0 b=some o->¬ G.bw b->H b=some o
 pro:∀ i,G.pr i=true->Y[i]?=G.Y0[i]?
 fx:Fx G H T g
structure Le (K:FG) (G:Gm) (W:D->Sto->Prop) (G0:Gm) (W0:D->Sto->Prop):Prop where
 pr:G.pr=G0.pr
 ex:∀ (H:Hp) (Y:St) (Z:Sto) (T:List It3) (g:Nat->Option It3) (e:D),Wf K G H Y Z T g->W e Z->∃ Z0 T0 g0,Wf K G0 H Y Z0 T0 g0/\W0 e Z0
theorem Le.refl (K:FG) (G:Gm) (W:D->Sto->Prop):Le K G W G W:=#[rfl,λ_ _ Z T g _ w h=>#[Z,T,g,w,h]]
theorem Le.trans (a:Le K G W G1 W1) (b:Le K G1 W1 G2 W2):Le K G W G2 W2:=⟨a.pr.trans b.pr,λH Y Z T g e w h=>by
 obtain ⟨Z1,c,g1,d,h1⟩:=a.ex H Y Z T g e w h
 exact b.ex H Y Z1 c g1 e d h1⟩
section
variable {K:FG} {G:Gm} {H H':Hp} {Y:St} {Z:Sto} {T T':List It3} {g:Nat->Option It3} {x y z:It3}
theorem ItOk.keep {M:Addr->Prop} (h:ItOk K G H x) (k:∀ b o,H b=some o->¬ M b->H' b=some o) (hm:∀ b,M b->MutAt H b) (a:∀ b∈x.L,¬ M b):ItOk K G H' x:=#[h.rep.keep k hm a,h.own,h.src]
theorem ItOk.same (h:ItOk K G H x) (s:Same H H'):ItOk K G H' x:=#[h.rep.same s,h.own,h.src]
theorem Fx.more (f:Fx G H T g) (s:∀ b o,H b=some o->∃ o',H' b=some o'):Fx G H' T g:=#[f.frT,f.frS,λb h=>let #[o,e]:=f.bin b h;s b o e,λb o h=>let #[o',e]:=f.ob b o h;s b o' e,f.lvS]
theorem Fx.sub (f:Fx G H T g) (h:∀ x∈T',x∈T):Fx G H T' g:=#[λx a=>f.frT x (h x a),f.frS,f.bin,f.ob,f.lvS]
theorem Wf.grow (w:Wf K G H Y Z T g) (s:Same H H'):Wf K G H' Y Z T g :=
 #[w.len,w.sl,w.sv,λi x e=>(w.okS i x e).same s,λx a=>(w.okT x a).same s,w.ss,w.st,w.tt,λb o e n=>s b o (w.base b o e n),w.pro,w.fx.more λb o h=>#[o,s b o h]]
theorem Wf.sub (w:Wf K G H Y Z T g) (h:T'.Sublist T):Wf K G H Y Z T' g :=
 #[w.len,w.sl,w.sv,w.okS,λx a=>w.okT x (h.subset a),w.ss,λi x e y b=>w.st i x e y (h.subset b),w.tt.sublist h,w.base,w.pro,w.fx.sub λx a=>h.subset a]
def Itm (T:List It3) (g:Nat->Option It3) (y:It3):Prop:=(∃ i,g i=some y)\/y∈T
def dX (T:List It3) (g:Nat->Option It3) (c:Addr):Prop:=(∀ i z,g i=some z->z.f≠.z->z.v≠.ref c)/\∀ z∈T,z.f≠.z->z.v≠.ref c
theorem Wf.itm (w:Wf K G H Y Z T g) (h:Itm T g y):ItOk K G H y:=by
 rcases h with ⟨i,e⟩ | h
 .exact w.okS i y e
 .exact w.okT y h
theorem oM {α:Type} {R:α->α->Prop} {l:List α} (p:l.Pairwise R) (h:∀ a b,R a b->R b a):∀ a∈l,∀ b∈l,a≠b->R a b:=by
 induction p with
 | nil=>intro a e;cases e
 | @cons c l hc _ ih =>
  intro a e b d n
  rcases GN.mp e with g | e
  .rcases GN.mp d with f | d
   .exact absurd (g.trans f.symm) n
   .rw[g];exact hc b d
  .rcases GN.mp d with f | d
   .rw[f];exact h _ _ (hc a e)
   .exact ih a e b d n
theorem Apart3.symm (h:Apart3 x y):Apart3 y x:=#[h.2,h.1]
theorem Wf.kid (w:Wf K G H Y Z T g) (h:Itm T g y) (d:c∈y.L) (l:y.f≠.z->y.v≠.ref c):dX T g c:=by
 refine #[λi z e hz a=>?_,λz hm hz a=>?_]
 .rcases h with ⟨j,b⟩ | k
  .by_cases m:i=j
   .subst m
    rw[e] at b
    cases b
    exact l hz a
   .exact w.ss i j z y m e b hz c a d
  .exact (w.st i z e y k).1 hz c a d
 .rcases h with ⟨j,b⟩ | k
  .exact (w.st j y b z hm).2 hz c a d
  .by_cases e:z=y
   .subst e;exact l hz a
   .exact (oM w.tt (λ_ _=>Apart3.symm) z hm y k e).1 hz c a d
structure New (K:FG) (H H':Hp) (Ks:Addr->Prop) (x:It3):Prop where
 same:Same H H'
 rep:Rep K H' x.d x.v x.L
 sub:∀ c∈x.L,H c=none\/Ks c
 own:x.f≠.z->jC x.d=true/\∃ a L',x.v=.ref a/\x.L=a::L'/\a ∉ L'/\H a=none
theorem Wf.h0none (w:Wf K G H Y Z T g) (h:H a=none):G.H0 a=none:=by
 cases e:G.H0 a with
 | none=>rfl
 | some o =>
  by_cases b:G.bw a
  .obtain ⟨o,e⟩:=w.fx.bin a b
   rw[h] at e;cases e
  .have:=w.base a o e b
   rw[h] at this;cases this
theorem Wf.ornone (w:Wf K G H Y Z T g) (h:H a=none):G.orig a=none:=by
 cases e:G.orig a with
 | none=>rfl
 | some o =>
  obtain ⟨o,e⟩:=w.fx.ob a o e
  rw[h] at e;cases e
theorem Wf.push (w:Wf K G H Y Z T g) (n:New K H H' Ks x) (m:∀ c,Ks c->dX T g c/\(G.H0 c=none\/G.src c)):Wf K G H' Y Z (x::T) g:=by
 have d:=w.grow n.same
 have a1:∀ y:It3,ItOk K G H y->(∀ c,Ks c->y.f≠.z->y.v≠.ref c)->Apart3 y x:=λy p b=>by
  refine #[λhf a e hm=>?_,λhf a e hm=>?_]
  .obtain ⟨_,r,L',e1,j,_,_⟩:=p.own hf
   rw[e] at e1
   cases e1
   rcases n.sub a hm with h | h
   .obtain ⟨o,k⟩:=(p.rep.inH a (by rw[j];exact GG)).ex
    rw[h] at k;cases k
   .exact b a h hf e
  .obtain ⟨_,r,L',e1,j,_,h⟩:=n.own hf
   rw[e] at e1
   cases e1
   obtain ⟨o,k⟩:=(p.rep.inH a hm).ex
   rw[h] at k;cases k
 refine #[d.len,d.sl,d.sv,d.okS,?_,d.ss,?_,?_,d.base,d.pro,#[λy b hf a t=>?_,d.fx.frS,d.fx.bin,d.fx.ob,d.fx.lvS]]
 .intro y b
  rcases GN.mp b with rfl | b
  .refine #[n.rep,λhf=>?_,λc l=>?_]
   .obtain ⟨u,a,L',e1,j,s,q⟩:=n.own hf
    exact #[u,a,L',e1,j,s,λ_=>.inl (w.h0none q)]
   .rcases n.sub c l with h | h
    .exact .inl (w.h0none h)
    .exact (m c h).2
  .exact d.okT y b
 .intro i z e y b
  rcases GN.mp b with rfl | b
  .exact a1 z (w.okS i z e) λc l=>(m c l).1.1 i z e
  .exact d.st i z e y b
 .refine List.pairwise_cons.mpr #[λy b=>(a1 y (w.okT y b) λc l=>(m c l).1.2 y b).symm,d.tt]
 .rcases GN.mp b with h | b
  .subst h
   obtain ⟨u,r,L',e1,j,s,q⟩:=n.own hf
   rw[t] at e1
   cases e1
   exact w.ornone q
  .exact d.fx.frT y b hf a t
def eG (ys:List It3) (c:Addr):Prop:=∃ y∈ys,c∈y.L/\(y.f≠.z->y.v≠.ref c)
theorem Wf.kids (w:Wf K G H Y Z T g) (a:∀ y∈ys,Itm T g y) (h:eG ys c):dX T g c/\(G.H0 c=none\/G.src c):=by
 obtain ⟨y,m,b,d⟩:=h
 exact #[w.kid (a y m) b d,(w.itm (a y m)).src c b]
structure Arg (K:FG) (H:Hp) (p:It3):Prop where
 rep:Rep K H p.d p.v p.L
 own:p.f≠.z->jC p.d=true/\∃ a L',p.v=.ref a/\p.L=a::L'/\a ∉ L'
theorem ItOk.arg (h:ItOk K G H x):Arg K H x:=⟨h.rep,λhf=>by
 obtain ⟨m,a,L',v1,v2,b,_⟩:=h.own hf
 exact ⟨m,a,L',v1,v2,b⟩⟩
end
inductive R3 where
 | pl (i:Nat) | val (d:D) (f:Fl)
abbrev M3 (α:Type):=Sto->Option (Except D α×Sto)
abbrev EM:=M3 R3
noncomputable def ag {α β:Type} (m:M3 α) (k:α->M3 β):M3 β:=λZ=>match m Z with
 | none=>none
 | some (.error e,Z')=>some (.error e,Z')
 | some (.ok a,Z')=>k a Z'
noncomputable def aY {α:Type} (a:α):M3 α:=λZ=>some (.ok a,Z)
noncomputable def a9 {α:Type} (o:Option α):M3 α:=λZ=>o.map λa=>(.ok a,Z)
noncomputable def der (r:R3):M3 D:=λZ=>match r with
 | .pl i=>((Z[i]?).join).map λp=>(.ok p.1,Z)
 | .val d _=>some (.ok d,Z)
inductive Ar (Y:St):R3->V->List It3->Prop where
 | pl {i:Nat} {v:V}:Y[i]?=some (some v)->Ar Y (.pl i) v []
 | val (x:It3):Ar Y (.val x.d x.f) x.v [x]
def Got (K:FG) (G:Gm) (Y:St) (Z:Sto) (T:List It3) (r:R3) (v:V) (H:Hp):Prop:=∃ Ts g,Wf K G H Y Z (Ts++T) g/\Ar Y r v Ts
def tE (K:FG) (G0:Gm) (W0:D->Sto->Prop) (m:EM):TE:=λY H Q=>∃ G W,Le K G W G0 W0/\∃ Z T g r Z',Wf K G H Y Z T g/\m Z=some (r,Z')/\match r with
 | .ok r=>∀ v H',Got K G Y Z' T r v H'->Q v H'
 | .error e=>W e Z'
def tT (K:FG) (G0:Gm) (W0:D->Sto->Prop) (m:M3 Bool):TT:=λY H Q=>∃ G W,Le K G W G0 W0/\∃ Z T g r Z',Wf K G H Y Z T g/\m Z=some (r,Z')/\match r with
 | .ok b=>∀ H' g',Wf K G H' Y Z' T g'->Q b H'
 | .error e=>W e Z'
inductive Ars (Y:St):List R3->List V->List It3->Prop where
 | nil:Ars Y [] [] []
 | cons {r v Ts rs vs Us}:Ar Y r v Ts->Ars Y rs vs Us->Ars Y (r::rs) (v::vs) (Us++Ts)
def tA (K:FG) (G0:Gm) (W0:D->Sto->Prop) (m:M3 (List R3)):TA:=λY H Q=>∃ G W,Le K G W G0 W0/\∃ Z T g r Z',Wf K G H Y Z T g/\m Z=some (r,Z')/\match r with
 | .ok rs=>∀ a H' Ts g',Wf K G H' Y Z' (Ts++T) g'->Ars Y rs a Ts->Q a H'
 | .error e=>W e Z'
inductive Flw where
 | nx | br | ct | rt (d:D) (f:Fl)
abbrev SM:=M3 Flw
def tS (K:FG) (G0:Gm) (W0:D->Sto->Prop) (m:SM):TS:=λE Y H=>∃ G W,Le K G W G0 W0/\∃ Z T g r Z',Wf K G H Y Z T g/\m Z=some (r,Z')/\match r with
 | .ok .nx=>∀ Y' H' g',Wf K G H' Y' Z' T g'->E.nx Y' H'
 | .ok .br=>∀ Y' H' g',Wf K G H' Y' Z' T g'->E.bk Y' H'
 | .ok .ct=>∀ Y' H' g',Wf K G H' Y' Z' T g'->E.ct Y' H'
 | .ok (.rt d f)=>∀ x Y' H' g',Wf K G H' Y' Z' (x::T) g'->x.d=d->x.f=f->E.rt x.v H'
 | .error e=>W e Z'
section
variable {K:FG} {G G0:Gm} {W W0:D->Sto->Prop} {H H':Hp} {Y:St} {Z Z':Sto} {T T':List It3} {g:Nat->Option It3} {x y z:It3} {α β:Type}
theorem aI (e:ag (der r) k Z=some (o,Z')):∃ d,der r Z=some (.ok d,Z)/\k d Z=some (o,Z'):=by
 cases r with
 | pl i =>
  have a:der (.pl i) Z=((Z[i]?).join).map λp=>(.ok p.1,Z):=rfl
  unfold ag at e
  rw[a] at e ⊢
  cases h:(Z[i]?).join with
  | none=>rw[h] at e;exact nsE e
  | some p=>rw[h] at e;exact #[p.1,rfl,e]
 | val d f=>exact #[d,rfl,e]
theorem bA (e:a9 o Z=some (r,Z')):∃ a,o=some a/\r=.ok a/\Z'=Z:=by
 unfold a9 at e
 cases o with
 | none=>exact nsE e
 | some a=>cases e;exact #[a,rfl,rfl,rfl]
theorem Wf.slot (w:Wf K G H Y Z T g) {i:Nat} (e:(Z[i]?).join=some (d,f)):∃ y,g i=some y/\y.d=d/\y.f=f/\Y[i]?=some (some y.v):=by
 have h:=w.sl i
 rw[e] at h
 cases q:g i with
 | none=>rw[q] at h;exact nsE h
 | some y =>
  rw[q] at h
  cases h
  exact #[y,rfl,rfl,rfl,w.sv i y q]
theorem Ar.item (w:Wf K G H Y Z T g) (a:Ar Y r v Ts) (c:∀ x∈Ts,x∈T) (e:der r Z=some (.ok d,Z)):∃ y,Itm T g y/\y.d=d/\y.v=v:=by
 cases a with
 | @pl i v h =>
  have l:der (.pl i) Z=((Z[i]?).join).map λp=>(.ok p.1,Z):=rfl
  rw[l] at e
  cases q:(Z[i]?).join with
  | none=>rw[q] at e;exact nsE e
  | some p =>
   rw[q] at e
   obtain ⟨y,e1,j,m,b⟩:=w.slot (d:=p.1) (f:=p.2) q
   have k:p.1=d:=by cases e;rfl
   rw[h] at b
   refine #[y,.inl #[i,e1],j.trans k,?_]
   cases b;rfl
 | val x=>cases e;exact #[x,.inr (c x (by simp)),rfl,rfl]
theorem Wf.done (w:Wf K G H Y Z (Us++T) g) (a:∀ y∈ys,Itm (Us++T) g y) (n:New K H H' (eG ys) x):Got K G Y Z T (.val x.d x.f) x.v H' :=
 #[[x],g,(w.push n λc h=>w.kids a h).sub (by simpa using List.Sublist.cons_cons x (GW Us T)),.val x]
theorem tE.seq (le:Le K G W G0 W0) (w:Wf K G H Y Z T g) (e:ag ma k Z=some (r,Z')) (he:∀ x,r=.error x->W x Z') (h:∀ ra Z1,k ra Z1=some (r,Z')->∀ v H1,Got K G Y Z1 T ra v H1->P v H1):tE K G0 W0 ma Y H P:=by
 unfold ag at e
 cases q:ma Z with
 | none=>rw[q] at e;exact nsE e
 | some p =>
  obtain ⟨o,Z1⟩:=p
  rw[q] at e
  cases o with
  | error x=>cases e;exact #[G,W,le,Z,T,g,.error x,Z',w,q,he x rfl]
  | ok ra=>exact #[G,W,le,Z,T,g,.ok ra,Z1,w,q,h ra Z1 e]
theorem tT.seq (le:Le K G W G0 W0) (w:Wf K G H Y Z T g) (e:ag ma k Z=some (r,Z')) (he:∀ x,r=.error x->W x Z') (h:∀ b Z1,k b Z1=some (r,Z')->∀ H1 g1,Wf K G H1 Y Z1 T g1->P b H1):tT K G0 W0 ma Y H P:=by
 unfold ag at e
 cases q:ma Z with
 | none=>rw[q] at e;exact nsE e
 | some p =>
  obtain ⟨o,Z1⟩:=p
  rw[q] at e
  cases o with
  | error x=>cases e;exact #[G,W,le,Z,T,g,.error x,Z',w,q,he x rfl]
  | ok ra=>exact #[G,W,le,Z,T,g,.ok ra,Z1,w,q,h ra Z1 e]
theorem tA.seq (le:Le K G W G0 W0) (w:Wf K G H Y Z T g) (e:ag ma k Z=some (r,Z')) (he:∀ x,r=.error x->W x Z') (h:∀ rs Z1,k rs Z1=some (r,Z')->∀ D H1 Ts g1,Wf K G H1 Y Z1 (Ts++T) g1->Ars Y rs D Ts->P D H1):tA K G0 W0 ma Y H P:=by
 unfold ag at e
 cases q:ma Z with
 | none=>rw[q] at e;exact nsE e
 | some p =>
  obtain ⟨o,Z1⟩:=p
  rw[q] at e
  cases o with
  | error x=>cases e;exact #[G,W,le,Z,T,g,.error x,Z',w,q,he x rfl]
  | ok ra=>exact #[G,W,le,Z,T,g,.ok ra,Z1,w,q,h ra Z1 e]
def EndE (K:FG) (G:Gm) (W:D->Sto->Prop) (Y:St) (T:List It3) (Z':Sto) (Q:VK):Except D R3->Prop
 | .ok r=>∀ v H',Got K G Y Z' T r v H'->Q v H'
 | .error e=>W e Z'
theorem EndE.err (h:EndE K G W Y T Z' Q r):∀ x,r=.error x->W x Z':=by
 intro x e;subst e;exact h
theorem tE.open (h:tE K G0 W0 m Y H Q):∃ G W,Le K G W G0 W0/\∃ Z T g r Z',Wf K G H Y Z T g/\m Z=some (r,Z')/\EndE K G W Y T Z' Q r:=by
 obtain ⟨G,W,le,Z,T,g,r,Z',w,e,q⟩:=h
 refine #[G,W,le,Z,T,g,r,Z',w,e,?_]
 cases r with
 | ok r=>exact q
 | error x=>exact q
theorem tE.use (h:tE K G0 W0 m Y H Q) {P:Prop} (k:∀ G W,Le K G W G0 W0->∀ Z T g r Z',Wf K G H Y Z T g->m Z=some (r,Z')->EndE K G W Y T Z' Q r->P):P:=by
 obtain ⟨G,W,le,Z,T,g,r,Z',w,e,q⟩:=h.open
 exact k G W le Z T g r Z' w e q
theorem tE.mk (le:Le K G W G0 W0) (w:Wf K G H Y Z T g) (e:m Z=some (r,Z')) (h:EndE K G W Y T Z' Q r):tE K G0 W0 m Y H Q:=by
 refine #[G,W,le,Z,T,g,r,Z',w,e,?_]
 cases r with
 | ok r=>exact h
 | error x=>exact h
def ac (i:Nat):EM:=λZ=>((Z[i]?).join).map λ_=>(.ok (.pl i),Z)
theorem DU {i:Nat} (h:tE K G0 W0 (ac i) Y H Q):vR i Y H Q:=by
 refine h.use λG W le Z T g r Z' w e q=>?_
 unfold ac at e
 cases h:(Z[i]?).join with
 | none=>rw[h] at e;exact nsE e
 | some p =>
  rw[h] at e
  cases e
  obtain ⟨y,_,_,_,a⟩:=w.slot (d:=p.1) (f:=p.2) h
  exact #[y.v,a,q y.v H #[[],g,w,.pl a]]
def mC (d:D):EM:=aY (.val d .z)
theorem Wf.const (w:Wf K G H Y Z T g) (r:Rep K H d v []):Got K G Y Z T (.val d .z) v H :=
 Wf.done (Us:=[]) (ys:=[]) (x:=#[d,v,[],.z]) w (λ_ h=>(by cases h)) #[Same.refl _,r,λ_ h=>(by cases h),λh=>absurd rfl h]
theorem gk (r:∀ H,Rep K H d v []) (h:tE K G0 W0 (mC d) Y H Q):tC v Y H Q:=by
 refine h.use λG W le Z T g o Z' w e q=>?_
 cases e
 exact q v H (w.const (r H))
def ah (f:D->D->Option (D×Fl)) (ma mb:EM):EM:=ag ma λra=>ag mb λrb=>ag (der ra) λda=>ag (der rb) λdb=>a9 ((f da db).map λp=>R3.val p.1 p.2)
def OpD (K:FG) (r:R2) (f:D->D->Option (D×Fl)):Prop:=∀ (a b:It3) (H:Hp) (Q:VK) (p:D×Fl),Arg K H a->Arg K H b->f a.d b.d=some p ->
 (∀ w H',New K H H' (eG [a,b]) w->w.d=p.1->w.f=p.2->Q w.v H')->r a.v b.v H Q
theorem nQ (w:Wf K G H Y Z (Us++T) g) (a:∀ y∈ys,Itm (Us++T) g y) (q:EndE K G W Y T Z Q (.ok (.val d f))) :
  ∀ D H',New K H H' (eG ys) D->D.d=d->D.f=f->Q D.v H':=by
 intro D H' n e1 b
 subst e1 b
 exact q D.v H' (w.done a n)
theorem n9 (B:OpD K r f) (h:tE K G0 W0 (ah f ma mb) Y H Q):tOp r (tE K G0 W0 ma) (tE K G0 W0 mb) Y H Q:=by
 refine h.use λG W le Z T g o Z' w e q=>?_
 refine tE.seq le w e q.err λra Z1 e1 E H1 #[Ts,g1,z,a1]=>?_
 refine tE.seq le z e1 q.err λrb Z2 u D H2 #[Us,g2,a,a2]=>?_
 obtain ⟨da,d1,t⟩:=aI u
 obtain ⟨db,C,v⟩:=aI t
 obtain ⟨p,b,rfl,rfl⟩:=bA v
 obtain ⟨m,k,f1,f2⟩:=a1.item a (λx l=>GL _ (GK _ l)) d1
 obtain ⟨n,c,A,f4⟩:=a2.item a (λx l=>GK _ l) C
 subst f1 f2 A f4
 cases i:f m.d n.d with
 | none=>rw[i] at b;exact nsE b
 | some s =>
  rw[i] at b
  cases b
  rw[<- List.append_assoc] at a k c
  refine B m n H2 Q s (a.itm k).arg (a.itm c).arg i (nQ a (λy j=>?_) q)
  rcases GN.mp j with h | j
  .rw[h];exact k
  .rw[Hh.mp j];exact c
def mUn (f:D->Option (D×Fl)) (ma:EM):EM:=ag ma λra=>ag (der ra) λda=>a9 ((f da).map λp=>R3.val p.1 p.2)
def UnD (K:FG) (r:V->Hp->VK->Prop) (f:D->Option (D×Fl)):Prop:=∀ (a:It3) (H:Hp) (Q:VK) (p:D×Fl),Arg K H a->f a.d=some p ->
 (∀ w H',New K H H' (eG [a]) w->w.d=p.1->w.f=p.2->Q w.v H')->r a.v H Q
theorem C4 (n:UnD K r f) (h:tE K G0 W0 (mUn f ma) Y H Q):tUn r (tE K G0 W0 ma) Y H Q:=by
 refine h.use λG W le Z T g o Z' w e q=>?_
 refine tE.seq le w e q.err λra Z1 e1 t H1 #[Ts,g1,c,a1]=>?_
 obtain ⟨da,d1,k⟩:=aI e1
 obtain ⟨p,a,rfl,rfl⟩:=bA k
 obtain ⟨j,i,f1,f2⟩:=a1.item c (λx m=>GK _ m) d1
 subst f1 f2
 cases b:f j.d with
 | none=>rw[b] at a;exact nsE a
 | some s =>
  rw[b] at a
  cases a
  exact n j H1 Q s (c.itm i).arg b (nQ c (λy l=>by rw[Hh.mp l];exact i) q)
def ai:M3 (List R3):=aY []
def aa (m:EM) (ms:M3 (List R3)):M3 (List R3):=ag m λr=>ag ms λrs=>aY (r::rs)
def EndA (K:FG) (G:Gm) (W:D->Sto->Prop) (Y:St) (T:List It3) (Z':Sto) (Q:List V->Hp->Prop):Except D (List R3)->Prop
 | .ok rs=>∀ F H' Ts g',Wf K G H' Y Z' (Ts++T) g'->Ars Y rs F Ts->Q F H'
 | .error e=>W e Z'
theorem EndA.err (h:EndA K G W Y T Z' Q r):∀ x,r=.error x->W x Z':=by
 intro x e;subst e;exact h
theorem tA.open (h:tA K G0 W0 m Y H Q):∃ G W,Le K G W G0 W0/\∃ Z T g r Z',Wf K G H Y Z T g/\m Z=some (r,Z')/\EndA K G W Y T Z' Q r:=by
 obtain ⟨G,W,le,Z,T,g,r,Z',w,e,q⟩:=h
 refine #[G,W,le,Z,T,g,r,Z',w,e,?_]
 cases r with
 | ok r=>exact q
 | error x=>exact q
theorem tA.use (h:tA K G0 W0 m Y H Q) {P:Prop} (k:∀ G W,Le K G W G0 W0->∀ Z T g r Z',Wf K G H Y Z T g->m Z=some (r,Z')->EndA K G W Y T Z' Q r->P):P:=by
 obtain ⟨G,W,le,Z,T,g,r,Z',w,e,q⟩:=h.open
 exact k G W le Z T g r Z' w e q
theorem xN (h:tA K G0 W0 ai Y H Q):DR Y H Q:=by
 refine h.use λG W le Z T g r Z' w e q=>?_
 cases e
 exact q [] H [] g w .nil
theorem ut (h:tA K G0 W0 (aa m ms) Y H Q):uq (tE K G0 W0 m) (tA K G0 W0 ms) Y H Q:=by
 refine h.use λG W le Z T g r Z' w e q=>?_
 refine tE.seq le w e q.err λra Z1 e1 b H1 #[Ts,g1,f,a1]=>?_
 refine tA.seq le f e1 q.err λrs Z2 c a H2 Us g2 d a2=>?_
 cases c
 refine q (b::a) H2 (Us++Ts) g2 ?_ (.cons a1 a2)
 rw[List.append_assoc]
 exact d
def dz:List R3->M3 (List D)
 | []=>aY []
 | r::rs=>ag (der r) λd=>ag (dz rs) λds=>aY (d::ds)
theorem vt:∀ {rs:List R3} {Z Z':Sto} {o:Except D (List D)},dz rs Z=some (o,Z')->∃ ds,o=.ok ds/\Z'=Z
 | [],Z,Z',o,e=>by cases e;exact #[[],rfl,rfl]
 | r::rs,Z,Z',o,e=>by
  obtain ⟨d,e1,F⟩:=aI (k:=λd=>ag (dz rs) λds=>aY (d::ds)) e
  unfold ag at F
  cases q:dz rs Z with
  | none=>rw[q] at F;exact nsE F
  | some p =>
   obtain ⟨o',Z1⟩:=p
   obtain ⟨ds,rfl,rfl⟩:=vt q
   rw[q] at F
   cases F
   exact #[d::ds,rfl,rfl]
theorem bL (e:ag (dz rs) k Z=some (o,Z')):∃ ds,dz rs Z=some (.ok ds,Z)/\k ds Z=some (o,Z'):=by
 unfold ag at e
 cases q:dz rs Z with
 | none=>rw[q] at e;exact nsE e
 | some p =>
  obtain ⟨o',Z1⟩:=p
  obtain ⟨ds,rfl,rfl⟩:=vt q
  rw[q] at e
  exact #[ds,rfl,e]
theorem Ars.items:∀ {rs:List R3} {c:List V} {Ts:List It3} {ds:List D} ,Wf K G H Y Z T g->Ars Y rs c Ts->(∀ x∈Ts,x∈T)->dz rs Z=some (.ok ds,Z)->∃ ys:List It3,(∀ y∈ys,Itm T g y)/\ys.map (·.d)=ds/\ys.map (·.v)=c
 | [],_,_,ds,w,.nil,_,e=>by cases e;exact #[[],λ_ h=>(by cases h),rfl,rfl]
 | r::rs,_,_,ds,w,.cons a as,hs,e=>by
  obtain ⟨d,e1,F⟩:=aI (k:=λd=>ag (dz rs) λds=>aY (d::ds)) e
  obtain ⟨l,i,n⟩:=bL F
  cases n
  obtain ⟨y,f,f1,f2⟩:=a.item w (λx b=>hs x (GL _ b)) e1
  obtain ⟨ys,j,m,f4⟩:=Ars.items w as (λx b=>hs x (GK _ b)) i
  refine #[y::ys,λz hz=>?_,by simp[f1,m],by simp[f2,f4]]
  rcases GN.mp hz with h | hz
  .rw[h];exact f
  .exact j z hz
def av (f:List D->Option (D×Fl)) (ms:M3 (List R3)):EM:=ag ms λrs=>ag (dz rs) λds=>a9 ((f ds).map λp=>R3.val p.1 p.2)
def cb (K:FG) (r:List V->Hp->VK->Prop) (f:List D->Option (D×Fl)):Prop:=∀ (ys:List It3) (H:Hp) (Q:VK) (p:D×Fl),(∀ y∈ys,Arg K H y)->f (ys.map (·.d))=some p ->
 (∀ w H',New K H H' (eG ys) w->w.d=p.1->w.f=p.2->Q w.v H')->r (ys.map (·.v)) H Q
theorem lA (m:cb K r f) (h:tE K G0 W0 (av f ms) Y H Q):tCB r (tA K G0 W0 ms) Y H Q:=by
 refine h.use λG W le Z T g o Z' w e q=>?_
 refine tA.seq le w e q.err λrs Z1 e1 n H1 Ts g1 c a1=>?_
 obtain ⟨ds,d1,l⟩:=bL e1
 obtain ⟨p,a,rfl,rfl⟩:=bA l
 obtain ⟨ys,i,f1,f2⟩:=a1.items c (λx k=>GK _ k) d1
 subst f1 f2
 cases b:f (ys.map (·.d)) with
 | none=>rw[b] at a;exact nsE a
 | some s =>
  rw[b] at a
  cases a
  exact m ys H1 Q s (λy j=>(c.itm (i y j)).arg) b (nQ c i q)
def asB:D->Option Bool
 | .bl b=>some b
 | _=>none
def iJ (ma mb:EM):EM:=ag ma λra=>ag (der ra) λd=>ag (a9 (asB d)) λb=>if b then mb else aY (.val (.bl false) .z)
def Cn (ma:EM):EM:=ag ma λra=>ag (der ra) λd=>ag (a9 (asB d)) λb=>aY (.val (.bl (!b)) .z)
theorem j8 (e:ag (a9 o) k Z=some (r,Z')):∃ a,o=some a/\k a Z=some (r,Z'):=by
 unfold ag a9 at e
 cases o with
 | none=>exact nsE e
 | some a=>exact #[a,rfl,e]
theorem Az (e:asB d=some b):d=.bl b:=by
 cases d <;> first | exact nsE e | cases e
 rfl
theorem Rep.bl_eq (r:Rep K H (.bl b) v L):v=.bl b/\L=[]:=by cases r;exact #[rfl,rfl]
theorem Ar.bool (w:Wf K G H Y Z (Ts++T) g) (a:Ar Y ra v Ts) (e:der ra Z=some (.ok d,Z)) (c:asB d=some b):v=.bl b:=by
 obtain ⟨y,f,f1,f2⟩:=a.item w (λx h=>GK _ h) e
 have r:=(w.itm f).rep
 rw[f1,Az c] at r
 rw[<- f2]
 exact r.bl_eq.1
theorem Ea (h:tE K G0 W0 (iJ ma mb) Y H Q):C7 (tE K G0 W0 ma) (tE K G0 W0 mb) Y H Q:=by
 refine h.use λG W le Z T g o Z' w e q=>?_
 refine tE.seq le w e q.err λra Z1 e1 k H1 #[Ts,g1,f,a1]=>?_
 obtain ⟨d,d1,j⟩:=aI e1
 obtain ⟨b,i,a⟩:=j8 j
 refine #[b,a1.bool f d1 i,?_]
 have c:=f.sub (GW Ts T)
 cases b with
 | true=>exact tE.mk le c a q
 | false=>cases a;exact q _ _ (c.const (.bl false))
theorem DX (h:tE K G0 W0 (Cn ma) Y H Q):C2 (tE K G0 W0 ma) Y H Q:=by
 refine h.use λG W le Z T g o Z' w e q=>?_
 refine tE.seq le w e q.err λra Z1 e1 k H1 #[Ts,g1,a,a1]=>?_
 obtain ⟨d,d1,i⟩:=aI e1
 obtain ⟨b,f,c⟩:=j8 i
 refine #[b,a1.bool a d1 f,?_]
 have j:=a.sub (GW Ts T)
 cases c;exact q _ _ (j.const (.bl (!b)))
def EndT (K:FG) (G:Gm) (W:D->Sto->Prop) (Y:St) (T:List It3) (Z':Sto) (Q:Bool->Hp->Prop):Except D Bool->Prop
 | .ok b=>∀ H' g',Wf K G H' Y Z' T g'->Q b H'
 | .error e=>W e Z'
theorem EndT.err (h:EndT K G W Y T Z' Q r):∀ x,r=.error x->W x Z':=by
 intro x e;subst e;exact h
theorem tT.open (h:tT K G0 W0 m Y H Q):∃ G W,Le K G W G0 W0/\∃ Z T g r Z',Wf K G H Y Z T g/\m Z=some (r,Z')/\EndT K G W Y T Z' Q r:=by
 obtain ⟨G,W,le,Z,T,g,r,Z',w,e,q⟩:=h
 refine #[G,W,le,Z,T,g,r,Z',w,e,?_]
 cases r with
 | ok r=>exact q
 | error x=>exact q
theorem tT.use (h:tT K G0 W0 m Y H Q) {P:Prop} (k:∀ G W,Le K G W G0 W0->∀ Z T g r Z',Wf K G H Y Z T g->m Z=some (r,Z')->EndT K G W Y T Z' Q r->P):P:=by
 obtain ⟨G,W,le,Z,T,g,r,Z',w,e,q⟩:=h.open
 exact k G W le Z T g r Z' w e q
theorem tT.mk (le:Le K G W G0 W0) (w:Wf K G H Y Z T g) (e:m Z=some (r,Z')) (h:EndT K G W Y T Z' Q r):tT K G0 W0 m Y H Q:=by
 refine #[G,W,le,Z,T,g,r,Z',w,e,?_]
 cases r with
 | ok r=>exact h
 | error x=>exact h
def cB (m:EM):M3 Bool:=ag m λr=>ag (der r) λd=>a9 (asB d)
theorem tT_b (h:tT K G0 W0 (cB m) Y H Q):tB (tE K G0 W0 m) Y H Q:=by
 refine h.use λG W le Z T g o Z' w e q=>?_
 refine tE.seq le w e q.err λra Z1 e1 i H1 #[Ts,g1,a,a1]=>?_
 obtain ⟨d,d1,f⟩:=aI e1
 obtain ⟨b,c,rfl,rfl⟩:=bA f
 exact #[b,a1.bool a d1 c,q _ _ (a.sub (GW Ts T))]
def rO (a b:M3 Bool):M3 Bool:=ag a λc=>if c then b else aY false
def cOr (a b:M3 Bool):M3 Bool:=ag a λc=>if c then aY true else b
def fj (a:M3 Bool):M3 Bool:=ag a λc=>aY (!c)
theorem DJ (h:tT K G0 W0 (rO a b) Y H Q):tAnd (tT K G0 W0 a) (tT K G0 W0 b) Y H Q:=by
 refine h.use λG W le Z T g o Z' w e q=>?_
 refine tT.seq le w e q.err λc Z1 e1 H1 g1 d=>?_
 cases c with
 | true=>exact tT.mk le d e1 q
 | false=>cases e1;exact q _ _ d
theorem tT_or (h:tT K G0 W0 (cOr a b) Y H Q):tOr (tT K G0 W0 a) (tT K G0 W0 b) Y H Q:=by
 refine h.use λG W le Z T g o Z' w e q=>?_
 refine tT.seq le w e q.err λc Z1 e1 H1 g1 d=>?_
 cases c with
 | false=>exact tT.mk le d e1 q
 | true=>cases e1;exact q _ _ d
theorem DI (h:tT K G0 W0 (fj a) Y H Q):tNot (tT K G0 W0 a) Y H Q:=by
 refine h.use λG W le Z T g o Z' w e q=>?_
 refine tT.seq le w e q.err λc Z1 e1 H1 g1 b=>?_
 cases e1;exact q _ _ b
def mIf (c:M3 Bool) (ma mb:EM):EM:=ag c λb=>if b then ma else mb
theorem tE_if (h:tE K G0 W0 (mIf c ma mb) Y H Q):tIf (tT K G0 W0 c) (tE K G0 W0 ma) (tE K G0 W0 mb) Y H Q:=by
 refine h.use λG W le Z T g o Z' w e q=>?_
 refine tT.seq le w e q.err λc Z1 e1 H1 g1 a=>?_
 cases c with
 | true=>exact tE.mk le a e1 q
 | false=>exact tE.mk le a e1 q
end
def dw (x:It3):It3:={ x with f:=.z }
theorem cI:NoRoot (dw x) y:=λh=>absurd rfl h
def lowAt (i:Nat) (Z:Sto):Sto:=match (Z[i]?).join with
 | some (d,.u)=>Z.set i #v[d]
 | some (d,.l)=>Z.set i #v[d]
 | _=>Z
noncomputable def frz (is:List Nat) (Z:Sto):Sto:=is.foldl (λZ i=>lowAt i Z) Z
def frz3 (is:List Nat):M3 Unit:=λZ=>some (.ok (),frz is Z)
def pls:List R3->List Nat
 | []=>[]
 | .pl i::rs=>i::pls rs
 | .val _ _::rs=>pls rs
section
variable {K:FG} {G G0:Gm} {W W0:D->Sto->Prop} {H H':Hp} {Y:St} {Z Z':Sto} {T T':List It3} {g:Nat->Option It3} {x y z:It3} {α β:Type}
theorem ItOk.low (h:ItOk K G H x):ItOk K G H (dw x):=#[h.rep,λq=>absurd rfl q,h.src]
theorem cJ {i j:Nat} (hi:i < Z.length):((Z.set i o)[j]?).join=if j=i then o else (Z[j]?).join:=by grind
theorem fR {i:Nat} (h:(Z[i]?).join=some p):i < Z.length:=by grind
theorem Wf.lowSlot (w:Wf K G H Y Z T g) {i:Nat} (e:(Z[i]?).join=some (d,f)):Wf K G H Y (Z.set i #v[d]) T (λj=>if j=i then (g i).map dw else g j):=by
 have hi:=fR e
 obtain ⟨y,v,D,E,ev⟩:=w.slot e
 have val:∀ j x,(if j=i then (g i).map dw else g j)=some x->∃ x0,g j=some x0/\(x=x0\/x=dw x0)/\(j=i->x=dw x0):=λj x h=>by
  grind
 have t:∀ {a b:It3},NoRoot a b->∀ l o,(l=a\/l=dw a)->(o=b\/o=dw b)->NoRoot l o:=λh l o h1 h2=>by
  rcases h1 with rfl | rfl
  .rcases h2 with rfl | rfl
   .exact h
   .exact h
  .exact cI
 refine #[by rw[List.length_set];exact w.len,λj=>?_,λj x h=>?_,λj x h=>?_,w.okT,λj k a b n h1 h2=>?_,λj a h b r=>?_,w.tt,w.base,w.pro,#[w.fx.frT,λj x h C hf a A=>?_,w.fx.bin,w.fx.ob,λj x h u=>?_]]
 .rw[cJ hi]
  by_cases q:j=i
  .subst q
   rw[if_pos rfl,if_pos rfl,v]
   show some ((dw y).d,Fl.z)=_
   rw[<- D];rfl
  .rw[if_neg q,if_neg q];exact w.sl j
 .obtain ⟨x0,h0,c,_⟩:=val j x h
  have:=w.sv j x0 h0
  rcases c with rfl | rfl <;> exact this
 .obtain ⟨x0,h0,c,_⟩:=val j x h
  rcases c with rfl | rfl
  .exact w.okS j x h0
  .exact (w.okS j x0 h0).low
 .obtain ⟨p,h0,m,_⟩:=val j a h1
  obtain ⟨B,s,r,_⟩:=val k b h2
  exact t (w.ss j k p B n h0 s) a b m r
 .obtain ⟨p,h0,m,_⟩:=val j a h
  exact #[t (w.st j p h0 b r).1 a b m (.inl rfl),t (w.st j p h0 b r).2 b a (.inl rfl) m]
 .obtain ⟨x0,h0,c,_⟩:=val j x h
  rcases c with rfl | rfl
  .exact w.fx.frS j x h0 C hf a A
  .exact absurd rfl hf
 .obtain ⟨x0,h0,c,_⟩:=val j x h
  rcases c with rfl | rfl
  .exact w.fx.lvS j x h0 u
  .cases u
def Kin (x y:It3):Prop:=y.d=x.d/\y.v=x.v/\y.L=x.L/\(y.f=x.f\/y.f=.z)
theorem Kin.refl (x:It3):Kin x x:=#[rfl,rfl,rfl,.inl rfl]
theorem Kin.trans (a:Kin x y) (b:Kin y z):Kin x z:=⟨b.1.trans a.1,b.2.1.trans a.2.1,b.2.2.1.trans a.2.2.1,by
 rcases b.2.2.2 with h | h
 .rcases a.2.2.2 with h' | h'
  .exact .inl (h.trans h')
  .exact .inr (h.trans h')
 .exact .inr h⟩
theorem Wf.lowAt {i:Nat} (w:Wf K G H Y Z T g):∃ g',Wf K G H Y (lowAt i Z) T g'/\(∀ j y,g j=some y->∃ D,g' j=some D/\Kin y D/\(j=i->D.f=.z)):=by
 have keep:∀ d,(Z[i]?).join=#v[d]->∃ g',Wf K G H Y Z T g'/\(∀ j y,g j=some y->∃ D,g' j=some D/\Kin y D/\(j=i->D.f=.z)):=λd e=>⟨g,w,λj y h=>⟨y,h,Kin.refl y,λq=>by
  subst q
  obtain ⟨D,h',_,hf,_⟩:=w.slot e
  rw[h] at h';cases h';exact hf⟩⟩
 have low:∀ d f,(Z[i]?).join=some (d,f)->∃ g',Wf K G H Y (Z.set i #v[d]) T g'/\(∀ j y,g j=some y->∃ D,g' j=some D/\Kin y D/\(j=i->D.f=.z)):=λd f e=>⟨_,w.lowSlot e,λj y h=>by
  by_cases q:j=i
  .subst q;exact #[dw y,by rw[if_pos rfl,h];rfl,#[rfl,rfl,rfl,.inr rfl],λ_=>rfl]
  .exact ⟨y,by rw[if_neg q];exact h,Kin.refl y,λz=>absurd z q⟩⟩
 unfold L3.lowAt
 cases e:(Z[i]?).join with
 | none =>
  refine #[g,w,λj y h=>#[y,h,Kin.refl y,λq=>?_]]
  subst q
  have:=w.sl j
  rw[h,e] at this;cases this
 | some p =>
  obtain ⟨d,f⟩:=p
  cases f with
  | u=>exact low d _ e
  | l=>exact low d _ e
  | z=>exact keep d e
theorem Wf.frz:∀ {is:List Nat} {Z:Sto} {g:Nat->Option It3},Wf K G H Y Z T g->∃ g',Wf K G H Y (frz is Z) T g'/\(∀ j y,g j=some y->∃ D,g' j=some D/\Kin y D/\(j∈is->D.f=.z))
 | [],Z,g,w=>#[g,w,λj y h=>#[y,h,Kin.refl y,λq=>by cases q]]
 | i::is,Z,g,w=>by
  obtain ⟨g1,F,h1⟩:=w.lowAt (i:=i)
  obtain ⟨g2,e,h2⟩:=Wf.frz (is:=is) F
  refine #[g2,e,λj y h=>?_]
  obtain ⟨d,e1,a,l⟩:=h1 j y h
  obtain ⟨b,k,k2,c⟩:=h2 j d e1
  refine #[b,k,a.trans k2,λhm=>?_]
  rcases GN.mp hm with q | q
  .rcases k2.2.2.2 with h | h
   .exact h.trans (l q)
   .exact h
  .exact c q
theorem Wf.lowT (w:Wf K G H Y Z (Ts++T) g):Wf K G H Y Z (Ts.map dw++T) g:=by
 have sp:∀ {a b:It3},Apart3 a b->Apart3 (dw a) (dw b):=λh=>#[cI,cI]
 refine #[w.len,w.sl,w.sv,w.okS,λx c=>?_,w.ss,λi x e y k=>?_,?_,w.base,w.pro,#[λx c hf a f=>?_,w.fx.frS,w.fx.bin,w.fx.ob,w.fx.lvS]]
 .rcases GQ.mp c with h | h
  .obtain ⟨x0,h0,rfl⟩:=GX.mp h
   exact (w.okT x0 (GK _ h0)).low
  .exact w.okT x (GL _ h)
 .rcases GQ.mp k with h | h
  .obtain ⟨y0,h0,rfl⟩:=GX.mp h
   exact #[(w.st i x e y0 (GK _ h0)).1,cI]
  .exact w.st i x e y (GL _ h)
 .have h:=List.pairwise_append.mp w.tt
  refine List.pairwise_append.mpr #[?_,h.2.1,λa d b l=>?_]
  .grind
  .obtain ⟨j,h0,rfl⟩:=GX.mp d
   exact #[cI,(h.2.2 j h0 b l).2]
 .rcases GQ.mp c with h | h
  .obtain ⟨x0,h0,rfl⟩:=GX.mp h
   exact absurd rfl hf
  .exact w.fx.frT x (GL _ h) hf a f
theorem lf:∀ {rs:List R3} {i:Nat},R3.pl i∈rs->i∈pls rs
 | [],_,h=>by cases h
 | .pl j::rs,i,h=>by
  rcases GN.mp h with e | h
  .cases e;exact GG
  .exact GH _ (lf h)
 | .val _ _::rs,i,h=>by
  rcases GN.mp h with e | h
  .cases e
  .exact lf (rs:=rs) h
theorem Ars.given:∀ {rs:List R3} {l:List V} {Ts:List It3} {ds:List D} {S:List It3} {g':Nat->Option It3} {is:List Nat},Wf K G H Y Z T g->(∀ j y,g j=some y->∃ F,g' j=some F/\Kin y F/\(j∈is->F.f=.z))->(∀ i,R3.pl i∈rs->i∈is) ->
  Ars Y rs l Ts->(∀ x∈Ts,x∈T)->(∀ x∈Ts,dw x∈S)->dz rs Z=some (.ok ds,Z)->∃ ys:List It3,(∀ y∈ys,Itm S g' y/\y.f=.z)/\ys.map (·.d)=ds/\ys.map (·.v)=l
 | [],_,_,ds,S,g',is,w,hg,hi,.nil,_,_,e=>by cases e;exact #[[],λ_ h=>(by cases h),rfl,rfl]
 | r::rs,_,_,ds,S,g',is,w,hg,hi,.cons (v:=v0) a as,hs,hS,e=>by
  obtain ⟨d,e1,s⟩:=aI (k:=λd=>ag (dz rs) λds=>aY (d::ds)) e
  obtain ⟨o,m,t⟩:=bL s
  cases t
  obtain ⟨ys,n,u,f4⟩:=Ars.given w hg (λi h=>hi i (GH _ h)) as (λx b=>hs x (GK _ b)) (λx b=>hS x (GK _ b)) m
  have one:∃ y,(Itm S g' y/\y.f=.z)/\y.d=d/\y.v=v0:=by
   cases a with
   | @pl i v h =>
    have C:der (.pl i) Z=((Z[i]?).join).map λp=>(.ok p.1,Z):=rfl
    rw[C] at e1
    cases q:(Z[i]?).join with
    | none=>rw[q] at e1;exact nsE e1
    | some p =>
     rw[q] at e1
     obtain ⟨y,E,B,J,c⟩:=w.slot (d:=p.1) (f:=p.2) q
     obtain ⟨F,h1,h2,h3⟩:=hg i y E
     have I:p.1=d:=by cases e1;rfl
     rw[h] at c
     refine #[F,#[.inl #[i,h1],h3 (hi i GG)],h2.1.trans (B.trans I),?_]
     rw[h2.2.1];cases c;rfl
   | val x=>cases e1;exact #[dw x,#[.inr (hS x (by simp)),rfl],rfl,rfl]
  obtain ⟨y,A,f1,f2⟩:=one
  refine #[y::ys,λz hz=>?_,by simp[f1,u],by simp[f2,f4]]
  rcases GN.mp hz with h | hz
  .rw[h];exact A
  .exact n z hz
def dC (ys:List It3) (c:Addr):Prop:=∃ y∈ys,c∈y.L
def gives (rs:List R3):M3 (List D):=ag (dz rs) λds=>ag (frz3 (pls rs)) λ_=>aY ds
theorem Ars.gives (w:Wf K G H Y Z (Ts++T) g) (a:Ars Y rs vs Ts) (e:ag (gives rs) k Z=some (r,Z')) :
  ∃ ds Z1 g1,k ds Z1=some (r,Z')/\Z1=frz (pls rs) Z/\Wf K G H Y Z1 (Ts.map dw++T) g1/\(∀ j y,g j=some y->∃ D,g1 j=some D/\Kin y D)/\∃ ys:List It3,(∀ y∈ys,Itm (Ts.map dw++T) g1 y/\y.f=.z)/\ys.map (·.d)=ds/\ys.map (·.v)=vs:=by
 unfold L3.gives at e
 have l:ag (dz rs) (λds=>ag (frz3 (pls rs)) λ_=>k ds) Z=some (r,Z'):=by
  rw[<- e]
  unfold ag
  cases q:dz rs Z with
  | none=>rfl
  | some p =>
   obtain ⟨o,Z2⟩:=p
   cases o with
   | error x=>rfl
   | ok ds=>rfl
 obtain ⟨ds,d1,e1⟩:=bL l
 obtain ⟨g1,m,h1⟩:=Wf.frz (is:=pls rs) w
 refine #[ds,L3.frz (pls rs) Z,g1,e1,rfl,m.lowT,λj y h=>let #[D,a,b,_]:=h1 j y h;#[D,a,b],?_]
 exact Ars.given w h1 (λi h=>lf h) a (λx c=>GK _ c) (λx c=>GK _ (GX.mpr #[x,c,rfl])) d1
theorem Wf.alls (w:Wf K G H Y Z T g) (a:∀ y∈ys,Itm T g y/\y.f=.z) (h:dC ys c):dX T g c/\(G.H0 c=none\/G.src c):=by
 obtain ⟨y,m,b⟩:=h
 exact #[w.kid (a y m).1 b λhf=>absurd (a y m).2 hf,(w.itm (a y m).1).src c b]
theorem Wf.doneA (w:Wf K G H Y Z (Us++T) g) (a:∀ y∈ys,Itm (Us++T) g y/\y.f=.z) (n:New K H H' (dC ys) x):Got K G Y Z T (.val x.d x.f) x.v H' :=
 #[[x],g,(w.push n λc h=>w.alls a h).sub (by simpa using List.Sublist.cons_cons x (GW Us T)),.val x]
theorem lb:∀ {ys:List It3},(∀ y∈ys,Rep K H y.d y.v y.L)->Reps (Rep K H) (ys.map (·.d)) (ys.map (·.v)) (ys.map (·.L)).flatten
 | [],_=>.nil
 | y::ys,h=>.cons (h y GG) (lb λz hz=>h z (GH _ hz))
theorem ft (h:c∈(ys.map (·.L)).flatten):dC ys c:=by
 obtain ⟨l,d,a⟩:=List.mem_flatten.mp h
 obtain ⟨y,b,rfl⟩:=GX.mp d
 exact #[y,b,a]
noncomputable def Cm (mk:List D->D) (f:Fl) (ms:M3 (List R3)):EM:=ag ms λrs=>ag (gives rs) λds=>a9 (if ds.length<=16777216 then some (.val (mk ds) f) else none)
abbrev bM:M3 (List R3)->EM:=Cm .tup .z
abbrev cX:M3 (List R3)->EM:=Cm .lst .u
theorem ba (h:H p=none):Same H (upd H p o):=λb u e=>by
 rw[ay (aT e h)];exact e
set_option tactic.hygienic true in
theorem DW (hz:(16777216:Nat)=sizeLine) (h:tE K G0 W0 (bM ms) Y H Q):tTup (tA K G0 W0 ms) Y H Q:=by
 refine h.use λG W le Z T g o Z' w e q=>?_
 refine tA.seq le w e q.err λrs Z1 e1 r H1 Ts g1 n a1=>?_
 obtain ⟨ds,Z2,g2,l,_,j,_,ys,f,f1,f2⟩:=a1.gives n e1
 obtain ⟨v,a,rfl,rfl⟩:=bA l
 subst f1 f2
 split at a
 .rename_i k
  cases a
  refine #[by rw[GS] at k ⊢;lia,λp i=>?_]
  refine q _ _ (Wf.doneA (x:=#[.tup (ys.map (·.d)),.ref p,(ys.map (·.L)).flatten,.z]) j f #[ba i,.tup aD ((lb λy b=>(j.itm (f y b).1).rep).same (ba i)),λc m=>.inr (ft m),λhf=>absurd rfl hf])
 .exact nsE a
set_option tactic.hygienic true in
theorem DZ (hz:(16777216:Nat)=sizeLine) (h:tE K G0 W0 (cX ms) Y H Q):tLst (tA K G0 W0 ms) Y H Q:=by
 refine h.use λG W le Z T g o Z' w e q=>?_
 refine tA.seq le w e q.err λrs Z1 e1 s H1 Ts g1 r a1=>?_
 obtain ⟨ds,Z2,g2,n,_,k,_,ys,i,f1,f2⟩:=a1.gives r e1
 obtain ⟨v,f,rfl,rfl⟩:=bA n
 subst f1 f2
 split at f
 .rename_i m
  cases f
  refine #[by rw[GS] at m ⊢;lia,λp b=>?_]
  have np:p ∉ (ys.map (·.L)).flatten:=λa=>by
   obtain ⟨y,hm,a⟩:=ft a
   obtain ⟨o,l⟩:=((k.itm (i y hm).1).rep.inH p a).ex
   rw[b] at l;exact nsE l
  refine q _ _ (Wf.doneA (x:=#[.lst (ys.map (·.d)),.ref p,p::(ys.map (·.L)).flatten,.u]) k i #[ba b,.lst aD ((lb λy j=>(k.itm (i y j).1).rep).same (ba b)),λc a=>?_,λ_=>#[rfl,p,_,rfl,rfl,np,b]])
  rcases GN.mp a with e | a
  .rw[e];exact .inl b
  .exact .inr (ft a)
 .exact nsE f
end
section
variable {K:FG} {G G0:Gm} {W W0:D->Sto->Prop} {H H':Hp} {Y:St} {Z Z':Sto} {T T':List It3} {g:Nat->Option It3} {x y z:It3} {α β:Type}
def EndS (K:FG) (G:Gm) (W:D->Sto->Prop) (T:List It3) (Z':Sto) (E:Ends):Except D Flw->Prop
 | .ok .nx=>∀ Y' H' g',Wf K G H' Y' Z' T g'->E.nx Y' H'
 | .ok .br=>∀ Y' H' g',Wf K G H' Y' Z' T g'->E.bk Y' H'
 | .ok .ct=>∀ Y' H' g',Wf K G H' Y' Z' T g'->E.ct Y' H'
 | .ok (.rt d f)=>∀ x Y' H' g',Wf K G H' Y' Z' (x::T) g'->x.d=d->x.f=f->E.rt x.v H'
 | .error e=>W e Z'
theorem EndS.err (h:EndS K G W T Z' E r):∀ x,r=.error x->W x Z':=by
 intro x e;subst e;exact h
theorem tS.open (h:tS K G0 W0 m E Y H):∃ G W,Le K G W G0 W0/\∃ Z T g r Z',Wf K G H Y Z T g/\m Z=some (r,Z')/\EndS K G W T Z' E r:=by
 obtain ⟨G,W,le,Z,T,g,r,Z',w,e,q⟩:=h
 refine #[G,W,le,Z,T,g,r,Z',w,e,?_]
 cases r with
 | ok r=>cases r <;> exact q
 | error x=>exact q
theorem tS.use (h:tS K G0 W0 m E Y H) {P:Prop} (k:∀ G W,Le K G W G0 W0->∀ Z T g r Z',Wf K G H Y Z T g->m Z=some (r,Z')->EndS K G W T Z' E r->P):P:=by
 obtain ⟨G,W,le,Z,T,g,r,Z',w,e,q⟩:=h.open
 exact k G W le Z T g r Z' w e q
theorem tS.mk (le:Le K G W G0 W0) (w:Wf K G H Y Z T g) (e:m Z=some (r,Z')) (h:EndS K G W T Z' E r):tS K G0 W0 m E Y H:=by
 refine #[G,W,le,Z,T,g,r,Z',w,e,?_]
 cases r with
 | ok r=>cases r <;> exact h
 | error x=>exact h
def dH:SM:=aY .nx
noncomputable def aE (a b:SM):SM:=ag a λf=>match f with
 | .nx=>b
 | o=>aY o
theorem DO (h:tS K G0 W0 dH E Y H):C3 E Y H:=by
 refine h.use λG W le Z T g r Z' w e q=>?_
 cases e
 exact q _ _ _ w
theorem DM (h:tS K G0 W0 (aE a b) E Y H):tSeq (tS K G0 W0 a) (tS K G0 W0 b) E Y H:=by
 refine h.use λG W le Z T g r Z' w e q=>?_
 unfold aE ag at e
 cases p:a Z with
 | none=>rw[p] at e;exact nsE e
 | some p' =>
  obtain ⟨o,Z1⟩:=p'
  rw[p] at e
  cases o with
  | error x=>cases e;exact tS.mk le w p q
  | ok f =>
   cases f with
   | nx=>exact tS.mk le (r:=.ok .nx) w p λY' H' g' c=>tS.mk le c e q
   | br=>cases e;exact tS.mk le w p q
   | ct=>cases e;exact tS.mk le w p q
   | rt d f=>cases e;exact tS.mk le w p q
def jj (m:EM):SM:=ag m λ_=>aY .nx
theorem AN (h:tS K G0 W0 (jj m) E Y H):C5 (tE K G0 W0 m) E Y H:=by
 refine h.use λG W le Z T g r Z' w e q=>?_
 refine tE.seq le w e q.err λra Z1 e1 v H1 #[Ts,g1,a,a1]=>?_
 cases e1
 exact q _ _ _ (a.sub (GW Ts T))
def sIf (c:M3 Bool) (a b:SM):SM:=ag c λt=>if t then a else b
theorem tS_if (h:tS K G0 W0 (sIf c a b) E Y H):tIfS (tT K G0 W0 c) (tS K G0 W0 a) (tS K G0 W0 b) E Y H:=by
 refine h.use λG W le Z T g r Z' w e q=>?_
 refine tT.seq le w e q.err λt Z1 e1 H1 g1 d=>?_
 cases t with
 | true=>exact tS.mk le d e1 q
 | false=>exact tS.mk le d e1 q
def nol:Fl->Fl
 | .u=>.u
 | _=>.z
theorem FB (f:Fl):nol f≠.l:=by cases f <;> intro h <;> cases h
theorem FA (f:Fl):nol f=f\/nol f=.z:=by cases f <;> first | exact .inl rfl | exact .inr rfl
noncomputable def fm (r:R3):M3 (D×Fl):=match r with
 | .val d f=>aY (d,nol f)
 | .pl i=>λZ=>((Z[i]?).join).map λp=>(.ok (p.1,.z),lowAt i Z)
theorem pN {i:Nat}:fm (.pl i) Z=((Z[i]?).join).map λp=>(.ok (p.1,.z),lowAt i Z):=rfl
theorem Ar.val_inv (a:Ar Y (.val d f) v Ts):∃ x,Ts=[x]/\x.d=d/\x.f=f/\x.v=v:=by
 generalize h:R3.val d f=r at a
 cases a with
 | pl _=>cases h
 | val x=>cases h;exact #[x,rfl,rfl,rfl,rfl]
theorem Ar.take (w:Wf K G H Y Z (Ts++T) g) (a:Ar Y r v Ts) (e:ag (fm r) k Z=some (o,Z')) :
  ∃ p Z1 g1 x,k p Z1=some (o,Z')/\Wf K G H Y Z1 (x::T) g1/\x.d=p.1/\(p.2=x.f\/p.2=.z)/\p.2≠.l/\x.v=v:=by
 cases a with
 | val x=>exact #[(x.d,nol x.f),Z,g,x,e,w,rfl,FA _,FB _,rfl]
 | @pl i v h =>
  unfold ag at e
  rw[pN] at e
  cases q:(Z[i]?).join with
  | none=>rw[q] at e;exact nsE e
  | some p =>
   rw[q] at e
   obtain ⟨y,E,C,J,t⟩:=w.slot (d:=p.1) (f:=p.2) q
   obtain ⟨g1,b,h1⟩:=w.lowAt (i:=i)
   obtain ⟨c,n,A,I⟩:=h1 i y E
   have hz:=I rfl
   refine #[(p.1,.z),_,g1,c,e,?_,A.1.trans C,.inr rfl,(by intro h;cases h),?_]
   .have s:∀ u:It3,NoRoot c u:=λu hf=>absurd hz hf
    refine #[b.len,b.sl,b.sv,b.okS,λu hu=>?_,b.ss,λj u m F hu=>?_,?_,b.base,b.pro,#[λu hu hf a D=>?_,b.fx.frS,b.fx.bin,b.fx.ob,b.fx.lvS]]
    .rcases GN.mp hu with h | hu
     .rw[h];exact b.okS i c n
     .exact b.okT u hu
    .rcases GN.mp hu with h | hu
     .rw[h]
      refine #[?_,s _]
      by_cases B:j=i
      .subst B
       rw[n] at m;cases m
       exact s _
      .exact b.ss j i u c B m n
     .exact b.st j u m F hu
    .exact List.pairwise_cons.mpr #[λu hu=>#[s _,(b.st i c n u hu).2],b.tt]
    .rcases GN.mp hu with h | hu
     .rw[h] at hf;exact absurd hz hf
     .exact b.fx.frT u hu hf a D
   .rw[A.2.1]
    rw[h] at t;cases t;rfl
theorem Wf.store {i:Nat} (w:Wf K G H Y Z (x::T) g) (hi:i < Z.length) (L:G.pr i=false) (hf:f=x.f\/f=.z) (y:f≠.l) :
  Wf K G H (Y.set i (some x.v)) (Z.set i (some (x.d,f))) T (λj=>if j=i then some { x with f:=f } else g j):=by
 have C:i < Y.length:=by rw[w.len];exact hi
 have B:=List.pairwise_cons.mp w.tt
 have t:=w.okT x GG
 have nx:∀ u:It3,NoRoot x u->NoRoot { x with f:=f } u:=λu h q=>by
  rcases hf with e | e
  .exact h (by rw[<- e];exact q)
  .exact absurd e q
 have val:∀ j u,(if j=i then some { x with f:=f } else g j)=some u->(j=i/\u={ x with f:=f })\/(j≠i/\g j=some u):=λj u h=>by
  by_cases q:j=i
  .rw[if_pos q] at h;cases h;exact .inl #[q,rfl]
  .rw[if_neg q] at h;exact .inr #[q,h]
 refine #[by rw[List.length_set,List.length_set];exact w.len,λj=>?_,λj u h=>?_,λj u h=>?_,λu hu=>w.okT u (GH _ hu),λj k a b n h1 h2=>?_,λj a h b s=>?_,B.2,w.base,λj r=>?_,#[λu hu=>w.fx.frT u (GH _ hu),λj u h A m a p=>?_,w.fx.bin,w.fx.ob,λj u h F=>?_]]
 .rw[cJ hi]
  by_cases q:j=i
  .rw[if_pos q,if_pos q];rfl
  .rw[if_neg q,if_neg q];exact w.sl j
 .rcases val j u h with ⟨rfl,rfl⟩ | ⟨n,h⟩
  .rw[List.getElem?_set_self C]
  .rw[List.getElem?_set_ne (λz=>n z.symm)];exact w.sv j u h
 .rcases val j u h with ⟨rfl,rfl⟩ | ⟨n,h⟩
  .refine #[t.rep,λq=>?_,t.src]
   rcases hf with e | e
   .subst e
    exact t.own q
   .exact absurd e q
  .exact w.okS j u h
 .rcases val j a h1 with ⟨I,p⟩ | ⟨M,o⟩
  .rcases val k b h2 with ⟨E,D⟩ | ⟨J,c⟩
   .exact absurd (I.trans E.symm) n
   .rw[p];exact nx b (w.st k b c x GG).2
  .rcases val k b h2 with ⟨E,D⟩ | ⟨J,c⟩
   .rw[D];exact (w.st j a o x GG).1
   .exact w.ss j k a b n o c
 .rcases val j a h with ⟨rfl,rfl⟩ | ⟨n,h⟩
  .exact #[nx b (B.1 b s).1,(B.1 b s).2]
  .exact w.st j a h b (GH _ s)
 .have n:j≠i:=λz=>by subst z;rw[L] at r;cases r
  rw[List.getElem?_set_ne (λz=>n z.symm)];exact w.pro j r
 .rcases val j u h with ⟨_,rfl⟩ | ⟨n,h⟩
  .rcases hf with e | e
   .exact w.fx.frT x GG (by rw[<- e];exact m) a p
   .exact absurd e m
  .exact w.fx.frS j u h A m a p
 .rcases val j u h with ⟨_,rfl⟩ | ⟨n,h⟩
  .exact absurd F y
  .exact w.fx.lvS j u h F
def aV (i:Nat) (m:EM):SM:=ag m λr=>ag (fm r) λp=>λZ=>if i < Z.length then some (.ok .nx,Z.set i (some p)) else none
set_option tactic.hygienic true in
theorem DL {i:Nat} (c:G0.pr i=false) (h:tS K G0 W0 (aV i m) E Y H):xM (tE K G0 W0 m) (vi i) E Y H:=by
 refine h.use λG W le Z T g r Z' w e q=>?_
 refine tE.seq le w e q.err λra Z1 e1 v H1 #[Ts,g1,j,a1]=>?_
 obtain ⟨p,Z2,g2,x,a,d,f1,f2,f4,b⟩:=a1.take j e1
 split at a
 .rename_i hi
  cases a
  have:=d.store (f:=p.2) hi (by rw[le.pr];exact c) f2 f4
  rw[f1,b] at this
  exact q _ _ _ this
 .exact nsE a
def aN (np:Nat) (m:EM):SM:=ag m λr=>match r with
 | .val d f=>aY (.rt d f)
 | .pl i=>λZ=>match (Z[i]?).join with
  | some (d,.u)=>if i < np then some (.ok (.rt d .z),lowAt i Z) else some (.ok (.rt d .u),Z.set i none)
  | some (d,_)=>some (.ok (.rt d .z),lowAt i Z)
  | none=>none
theorem Wf.move {i:Nat} (w:Wf K G H Y Z T g) (f:G.pr i=false) (e:g i=some y):Wf K G H Y (Z.set i none) (y::T) (λj=>if j=i then none else g j):=by
 have hi:i < Z.length:=by
  have:=w.sl i
  rw[e] at this
  exact fR this.symm
 have val:∀ j u,(if j=i then none else g j)=some u->j≠i/\g j=some u:=λj u h=>by
  grind
 refine #[by rw[List.length_set];exact w.len,λj=>?_,λj u h=>w.sv j u (val j u h).2,λj u h=>w.okS j u (val j u h).2,λu hu=>?_,λj k a b n h1 h2=>w.ss j k a b n (val j a h1).2 (val k b h2).2,λj a h b c=>?_,?_,w.base,w.pro,#[λu hu hf a d=>?_,λj u h=>w.fx.frS j u (val j u h).2,w.fx.bin,w.fx.ob,λj u h=>w.fx.lvS j u (val j u h).2]]
 .rw[cJ hi]
  by_cases q:j=i
  .rw[if_pos q,if_pos q];rfl
  .rw[if_neg q,if_neg q];exact w.sl j
 .rcases GN.mp hu with h | hu
  .rw[h];exact w.okS i y e
  .exact w.okT u hu
 .obtain ⟨n,h⟩:=val j a h
  rcases GN.mp c with h' | c
  .rw[h'];exact #[w.ss j i a y n h e,w.ss i j y a (Ne.symm n) e h]
  .exact w.st j a h b c
 .exact List.pairwise_cons.mpr #[λu hu=>w.st i y e u hu,w.tt]
 .rcases GN.mp hu with h | hu
  .subst h;exact w.fx.frS i u e f hf a d
  .exact w.fx.frT u hu hf a d
theorem DN {np:Nat} (n:∀ i,np<=i->G0.pr i=false) (h:tS K G0 W0 (aN np m) E Y H):tRet (tE K G0 W0 m) E Y H:=by
 refine h.use λG W le Z T g r Z' w e q=>?_
 refine tE.seq le w e q.err λra Z1 e1 v H1 #[Ts,g1,k,a1]=>?_
 have low:∀ {i:Nat} {d:D} {f:Fl},(Z1[i]?).join=some (d,f)->some ((.ok (.rt d .z),lowAt i Z1):Except D Flw×Sto)=some (r,Z')->Ar Y (.pl i) v Ts->E.rt v H1:=λ{i d f} b B a=>by
  cases B
  have A:ag (fm (.pl i)) (λp=>aY (Flw.rt p.1 p.2)) Z1=some (.ok (.rt d .z),L3.lowAt i Z1):=by
   unfold ag
   rw[pN,b]
   rfl
  obtain ⟨p,Z2,g2,x,j,s,f1,f2,_,C⟩:=a.take k A
  have c:Flw.rt p.1 p.2=Flw.rt d .z/\Z2=L3.lowAt i Z1:=by
   unfold aY at j
   injection j with j
   injection j with c o
   injection c with c
   exact #[c,o]
  obtain ⟨c,o⟩:=c
  injection c with e7 e8
  subst o
  rw[<- C]
  have F:=Wf.lowT (Ts:=[x]) s
  exact q (dw x) Y H1 g2 F (f1.trans e7) rfl
 cases a1 with
 | val x=>cases e1;exact q x Y H1 g1 k rfl rfl
 | @pl i v h =>
  dsimp only at e1
  cases b:(Z1[i]?).join with
  | none=>rw[b] at e1;exact nsE e1
  | some p =>
   obtain ⟨d,f⟩:=p
   rw[b] at e1
   cases f with
   | u =>
    dsimp only at e1
    split at e1
    .exact low b e1 (.pl h)
    .cases e1
     obtain ⟨y,L,I,J,t⟩:=k.slot b
     have s:=Wf.move k (by rw[le.pr];exact n i (by lia)) L
     have:=q y Y H1 _ s I J
     rw[h] at t
     cases t
     exact this
   | l=>exact low b e1 (.pl h)
   | z=>exact low b e1 (.pl h)
def bT (c:M3 Bool) (b:SM):Nat->SM
 | 0=>λ_=>none
 | n+1=>ag c λt=>if t then ag b (λf=>match f with
   | .nx=>bT c b n
   | .ct=>bT c b n
   | .br=>aY .nx
   | .rt d f=>aY (.rt d f)) else aY .nx
def gp (c:M3 Bool) (b:SM):SM:=λZ=>open Classical in if h:∃ n r,bT c b n Z=some r then some (Classical.choose (Classical.choose_spec h)) else none
theorem gf:∀ {n:Nat} {Z:Sto} {r:Except D Flw×Sto},bT c b n Z=some r->bT c b (n+1) Z=some r
 | 0,Z,r,e=>by cases e
 | n+1,Z,r,e=>by
  unfold bT at e ⊢
  unfold ag at e ⊢
  cases h:c Z with
  | none=>rw[h] at e;exact nsE e
  | some p =>
   obtain ⟨o,Z1⟩:=p
   rw[h] at e
   cases o with
   | error x=>exact e
   | ok t =>
    cases t with
    | false=>exact e
    | true =>
     simp only[if_true] at e ⊢
     cases h2:b Z1 with
     | none=>rw[h2] at e;exact nsE e
     | some p2 =>
      obtain ⟨a,Z2⟩:=p2
      rw[h2] at e
      cases a with
      | error x=>exact e
      | ok f =>
       cases f with
       | nx=>exact gf (n:=n) e
       | ct=>exact gf (n:=n) e
       | br=>exact e
       | rt d f=>exact e
theorem jQ {n m:Nat} (h:n<=m) (e:bT c b n Z=some r):bT c b m Z=some r:=by
 induction h with
 | refl=>exact e
 | step _ ih=>exact gf ih
theorem pZ (e:gp c b Z=some r):∃ n,bT c b n Z=some r:=by
 unfold gp at e
 split at e
 .grind
 .exact nsE e
theorem xH (h:tS K G0 W0 (gp c b) E Y H):xG (tT K G0 W0 c) (tS K G0 W0 b) E Y H:=by
 refine h.use λG W le Z T g r Z' w e q=>?_
 obtain ⟨n,e⟩:=pZ e
 refine #[λm Y H=>∃ Z g,Wf K G H Y Z T g/\bT c b m Z=some (r,Z'),#[n,Z,g,w,e],?_]
 rintro m Y1 H1 ⟨Z1,g1,k,e1⟩
 cases m with
 | zero=>exact nsE e1
 | succ m =>
  unfold bT at e1
  refine tT.seq le k e1 q.err λt Z2 a H2 g2 i=>?_
  cases t with
  | false=>cases a;exact q _ _ _ i
  | true =>
   refine #[λY H=>∃ Z g,Wf K G H Y Z T g/\bT c b m Z=some (r,Z'),λY' H' h=>#[m,Nat.lt_succ_self m,h],?_]
   simp only[if_true] at a
   unfold ag at a
   cases p:b Z2 with
   | none=>rw[p] at a;exact nsE a
   | some p2 =>
    obtain ⟨o,Z3⟩:=p2
    rw[p] at a
    cases o with
    | error x=>cases a;exact tS.mk le i p q
    | ok f =>
     cases f with
     | nx=>exact tS.mk le (r:=.ok .nx) i p λY' H' g' j=>#[Z3,g',j,a]
     | ct=>exact tS.mk le (r:=.ok .ct) i p λY' H' g' j=>#[Z3,g',j,a]
     | br=>cases a;exact tS.mk le (r:=.ok .br) i p q
     | rt d f=>cases a;exact tS.mk le (r:=.ok (.rt d f)) i p q
end
abbrev Fn:=List (D×Fl)->Option (Except D (D×Fl)×List (D×Fl))
def prs (Z:Sto):List R3->Option (List (D×Fl))
 | []=>some []
 | .pl i::rs=>match (Z[i]?).join,prs Z rs with
  | some p,some ps=>some (p::ps)
  | _,_=>none
 | .val d f::rs=>match prs Z rs with
  | some ps=>some ((d,f)::ps)
  | _=>none
def qY (rs:List R3):List Nat:=(pls rs).filter λi=>decide (2<=(pls rs).count i)
def back:List R3->List (D×Fl)->List (D×Fl)->Sto->Sto
 | .pl i::rs,p::ps,q::qs,Z=>back rs ps qs (if p.2=.z then Z else Z.set i (some (q.1,if q.2=.z then .z else p.2)))
 | .val _ _::rs,_::ps,_::qs,Z=>back rs ps qs Z
 | _,_,_,Z=>Z
section
variable {K:FG} {G G0:Gm} {W W0:D->Sto->Prop} {H H':Hp} {Y:St} {Z Z':Sto} {T T':List It3} {g:Nat->Option It3} {x y z:It3} {α β:Type}
structure Back1 (K:FG) (H H':Hp) (ps:List It3) (p q:It3):Prop where
 z:p.f=.z->q=p
 v:q.v=p.v
 f:q.f=p.f\/q.f=.z
 arg:Arg K H' q
 src:∀ c∈q.L,H c=none\/dC ps c
 there:p.f=.u->∀ b,p.v=.ref b->∃ o,H' b=some o
structure BehindX (K:FG) (H H':Hp) (ps qs:List It3):Prop where
 frame:∀ b o,H b=some o->(∀ p∈ps,p.f=.u->p.v≠.ref b)->H' b=some o
 back:Paired (Back1 K H H' ps) ps qs
 apart:qs.Pairwise Apart3
structure Behind (K:FG) (H H':Hp) (ps qs:List It3) (x:It3):Prop extends BehindX K H H' ps qs where
 rep:Rep K H' x.d x.v x.L
 own:x.f≠.z->jC x.d=true/\∃ a L',x.v=.ref a/\x.L=a::L'/\a ∉ L'/\H a=none
 src:∀ c∈x.L,H c=none\/dC ps c
 apx:∀ q∈qs,Apart3 x q
theorem Ars.args:∀ {rs:List R3} {F:List V} {Ts T:List It3} {k:List (D×Fl)},Ars Y rs F Ts->Wf K G H Y Z (Ts++T) g->(∀ i,2<=(pls rs).count i->∀ y,g i=some y->y.f=.z)->prs Z rs=some k ->
  ∃ ps:List It3,ps.map (λp=>(p.d,p.f))=k/\ps.map (·.v)=F/\ps.Pairwise Apart3/\(∀ p∈ps,(∃ i,R3.pl i∈rs/\g i=some p)\/p∈Ts)/\Paired (λr p=>match r with | .pl i=>g i=some p | .val _ _=>p∈Ts) rs ps
 | [],_,_,T,k,.nil,w,_,e=>by cases e;exact #[[],rfl,rfl,.nil,λ_ h=>(by cases h),.nil]
 | r::rs,_,_,T,k,.cons (v:=v0) (Ts:=T0) (Us:=φ0) a as,w,hd,e=>by
  have E:Wf K G H Y Z (φ0++(T0++T)) g:=by rw[<- List.append_assoc];exact w
  have o:∀ i,2<=(pls rs).count i->∀ y,g i=some y->y.f=.z:=λi s=>hd i (by
   cases r with
   | pl j=>show 2<=(j::pls rs).count i;rw[List.count_cons];lia
   | val _ _=>exact s)
  cases a with
  | @pl i v h =>
   unfold prs at e
   cases q:(Z[i]?).join with
   | none=>rw[q] at e;exact nsE e
   | some p0 =>
    cases l:prs Z rs with
    | none=>rw[q,l] at e;exact nsE e
    | some pfs' =>
     rw[q,l] at e
     cases e
     obtain ⟨ps,f1,f2,A,f4,u⟩:=Ars.args as E o l
     obtain ⟨y,n,I,J,C⟩:=w.slot (d:=p0.1) (f:=p0.2) q
     have L:y.v=v0:=by rw[h] at C;cases C;rfl
     refine #[y::ps,by rw[G6,f1,I,J],by rw[G6,f2,L],List.pairwise_cons.mpr #[λp b=>?_,A],λp b=>?_,.cons n ?_]
     .rcases f4 p b with ⟨j,m,c⟩ | b
      .by_cases B:i=j
       .subst B
        have s:2<=(pls (R3.pl i::rs)).count i:=by
         show 2<=(i::pls rs).count i
         rw[List.count_cons_self]
         have:=List.count_pos_iff.mpr (lf m)
         lia
        have hz:=hd i s y n
        have t:=hd i s p c
        exact #[λq=>absurd hz q,λq=>absurd t q]
       .exact #[w.ss i j y p B n c,w.ss j i p y (Ne.symm B) c n]
      .exact w.st i y n p (GK _ (GK _ b))
     .rcases GN.mp b with h' | b
      .rw[h'];exact .inl #[i,GG,n]
      .rcases f4 p b with ⟨j,m,c⟩ | b
       .exact .inl #[j,GH _ m,c]
       .exact .inr (GK _ b)
     .exact Paired.mapP u λr p h=>by
       cases r with
       | pl j=>exact h
       | val _ _=>exact GK _ h
  | val x =>
   unfold prs at e
   cases l:prs Z rs with
   | none=>rw[l] at e;exact nsE e
   | some pfs' =>
    rw[l] at e
    cases e
    obtain ⟨ps,f1,f2,A,f4,u⟩:=Ars.args as E o l
    refine #[x::ps,by rw[G6,f1],by rw[G6,f2],List.pairwise_cons.mpr #[λp b=>?_,A],λp b=>?_,.cons (GL _ GG) ?_]
    .rcases f4 p b with ⟨j,m,c⟩ | b
     .exact (w.st j p c x (GK _ (GL _ GG))).symm
     .have t1:=(List.pairwise_append.mp w.tt).1
      exact ((List.pairwise_append.mp t1).2.2 p b x GG).symm
    .rcases GN.mp b with h' | b
     .rw[h'];exact .inr (GL _ GG)
     .rcases f4 p b with ⟨j,m,c⟩ | b
      .exact .inl #[j,GH _ m,c]
      .exact .inr (GK _ b)
    .exact Paired.mapP u λr p h=>by
      cases r with
      | pl j=>exact h
      | val _ _=>exact GK _ h
theorem fU:∀ {rs:List R3} {ps qs:List It3} {Z:Sto} {g:Nat->Option It3},(∀ j,(g j).map (λx=>(x.d,x.f))=(Z[j]?).join)->rs.length=ps.length->Paired (Back1 K H H' T) ps qs->(∀ i,R3.pl i∈rs->i < Z.length) ->
  ∃ g':Nat->Option It3,(∀ j,(g' j).map (λx=>(x.d,x.f))=((back rs (ps.map λp=>(p.d,p.f)) (qs.map λq=>(q.d,q.f)) Z)[j]?).join)/\(back rs (ps.map λp=>(p.d,p.f)) (qs.map λq=>(q.d,q.f)) Z).length=Z.length /\
   ∀ j:Nat,(g' j=g j/\∀ (k:Nat) (p:It3),rs[k]?=some (R3.pl j)->ps[k]?=some p->p.f=.z)\/∃ (k:Nat) (p q:It3),rs[k]?=some (R3.pl j)/\ps[k]?=some p/\qs[k]?=some q/\p.f≠.z/\g' j=some q
 | [],[],_,Z,g,hg,_,.nil,_=>#[g,hg,rfl,λj=>.inl #[rfl,λk p h=>by simp at h]]
 | [],_::_,_,_,_,_,h,_,_=>by cases h
 | _::_,[],_,_,_,_,h,_,_=>by cases h
 | .val d f::rs,p::ps,_,Z,g,hg,hl,.cons (b:=q) (l₂:=qs) b1 bs,hi=>by
  obtain ⟨g',h1,h2,h3⟩:=fU (rs:=rs) hg (by simpa using hl) bs λi h=>hi i (GH _ h)
  refine #[g',h1,h2,λj=>?_]
  rcases h3 j with ⟨e,h⟩ | ⟨k,a,m,a1,a2,l,a4⟩
  .refine .inl #[e,λk a e1 c=>?_]
   cases k with
   | zero=>simp at e1
   | succ k=>exact h k a (by simpa using e1) (by simpa using c)
  .exact .inr #[k+1,a,m,by simpa using a1,by simpa using a2,by simpa using l,a4]
 | .pl i::rs,p::ps,_,Z,g,hg,hl,.cons (b:=q) (l₂:=qs) b1 bs,hi=>by
  have r:=hi i GG
  by_cases hz:p.f=.z
  .have o:back (.pl i::rs) ((p::ps).map λp=>(p.d,p.f)) ((q::qs).map λq=>(q.d,q.f)) Z=back rs (ps.map λp=>(p.d,p.f)) (qs.map λq=>(q.d,q.f)) Z:=by
    show back rs _ _ (if p.f=.z then Z else _)=_
    rw[if_pos hz]
   rw[o]
   obtain ⟨g',h1,h2,h3⟩:=fU (rs:=rs) hg (by simpa using hl) bs λi h=>hi i (GH _ h)
   refine #[g',h1,h2,λj=>?_]
   rcases h3 j with ⟨e,h⟩ | ⟨k,a,m,a1,a2,l,a4⟩
   .refine .inl #[e,λk a e1 c=>?_]
    cases k with
    | zero=>simp at c;rw[<- c];exact hz
    | succ k=>exact h k a (by simpa using e1) (by simpa using c)
   .exact .inr #[k+1,a,m,by simpa using a1,by simpa using a2,by simpa using l,a4]
  .have o:back (.pl i::rs) ((p::ps).map λp=>(p.d,p.f)) ((q::qs).map λq=>(q.d,q.f)) Z=back rs (ps.map λp=>(p.d,p.f)) (qs.map λq=>(q.d,q.f)) (Z.set i (some (q.d,q.f))):=by
    show back rs _ _ (if p.f=.z then Z else Z.set i (some (q.d,if q.f=.z then .z else p.f)))=_
    rw[if_neg hz]
    have:(if q.f=.z then Fl.z else p.f)=q.f:=by
     by_cases h:q.f=.z
     .rw[if_pos h,h]
     .rw[if_neg h]
      rcases b1.f with h' | h'
      .exact h'.symm
      .exact absurd h' h
    rw[this]
   rw[o]
   obtain ⟨g',h1,h2,h3⟩:=fU (rs:=rs) (Z:=Z.set i (some (q.d,q.f))) (g:=λj=>if j=i then some q else g j) (λj=>by
    rw[cJ r]
    by_cases e:j=i
    .rw[if_pos e,if_pos e];rfl
    .rw[if_neg e,if_neg e];exact hg j) (by simpa using hl) bs λi h=>by rw[List.length_set];exact hi i (GH _ h)
   refine #[g',h1,by rw[h2,List.length_set],λj=>?_]
   rcases h3 j with ⟨e,h⟩ | ⟨k,a,m,a1,a2,l,a4⟩
   .by_cases n:j=i
    .rw[if_pos n] at e
     exact .inr #[0,p,q,by simp[n],rfl,rfl,hz,e]
    .rw[if_neg n] at e
     refine .inl #[e,λk a e1 c=>?_]
     cases k with
     | zero=>simp at e1;exact absurd e1.symm n
     | succ k=>exact h k a (by simpa using e1) (by simpa using c)
   .exact .inr #[k+1,a,m,by simpa using a1,by simpa using a2,by simpa using l,a4]
theorem oI:∀ {rs:List R3} {a:List (D×Fl)},prs Z rs=some a->rs.length=a.length
 | [],a,e=>by cases e;rfl
 | .pl i::rs,a,e=>by
  unfold prs at e
  cases q:(Z[i]?).join with
  | none=>rw[q] at e;exact nsE e
  | some p =>
   cases F:prs Z rs with
   | none=>rw[q,F] at e;exact nsE e
   | some ps=>rw[q,F] at e;cases e;rw[Hd,Hd,oI F]
 | .val d f::rs,a,e=>by
  unfold prs at e
  cases F:prs Z rs with
  | none=>rw[F] at e;exact nsE e
  | some ps=>rw[F] at e;cases e;rw[Hd,Hd,oI F]
theorem sN:∀ {rs:List R3} {a:List (D×Fl)},prs Z rs=some a->∀ i,R3.pl i∈rs->i < Z.length
 | [],a,e,i,h=>by cases h
 | .pl i::rs,a,e,j,h=>by
  unfold prs at e
  cases q:(Z[i]?).join with
  | none=>rw[q] at e;exact nsE e
  | some p =>
   cases F:prs Z rs with
   | none=>rw[q,F] at e;exact nsE e
   | some ps =>
    rcases GN.mp h with h | h
    .cases h;exact fR q
    .exact sN F j h
 | .val d f::rs,a,e,j,h=>by
  unfold prs at e
  cases F:prs Z rs with
  | none=>rw[F] at e;exact nsE e
  | some ps =>
   rcases GN.mp h with h | h
   .cases h
   .exact sN F j h
theorem Paired.at:∀ {l:List α} {m:List β} {k:Nat} {a:α} {b:β},Paired F l m->l[k]?=some a->m[k]?=some b->F a b
 | _,_,_,_,_,.nil,h,_=>by simp at h
 | _,_,0,_,_,.cons r _,h,h'=>by simp at h h';subst h h';exact r
 | _,_,k+1,_,_,.cons _ t,h,h'=>Paired.at (k:=k) t (by simpa using h) (by simpa using h')
theorem Paired.exL:∀ {l:List α} {m:List β} {k:Nat} {a:α},Paired F l m->l[k]?=some a->∃ b,m[k]?=some b/\F a b
 | _,_,_,_,.nil,h=>by simp at h
 | _,_,0,_,.cons r _,h=>by simp at h;subst h;exact #[_,rfl,r]
 | _,_,k+1,_,.cons _ t,h=>let #[b,h1,h2]:=Paired.exL (k:=k) t (by simpa using h);#[b,by simpa using h1,h2]
theorem Paired.exR:∀ {l:List α} {m:List β} {k:Nat} {b:β},Paired F l m->m[k]?=some b->∃ a,l[k]?=some a/\F a b
 | _,_,_,_,.nil,h=>by simp at h
 | _,_,0,_,.cons r _,h=>by simp at h;subst h;exact #[_,rfl,r]
 | _,_,k+1,_,.cons _ t,h=>let #[b,h1,h2]:=Paired.exR (k:=k) t (by simpa using h);#[b,by simpa using h1,h2]
theorem df {R:α->α->Prop} {l:List α} (p:l.Pairwise R) (e:∀ a b,R a b->R b a) {i j:Nat} {a b:α} (n:i≠j) (d:l[i]?=some a) (c:l[j]?=some b):R a b:=by
 obtain ⟨h1,e1⟩:=GU.mp d
 obtain ⟨h2,f⟩:=GU.mp c
 have q:=List.pairwise_iff_getElem.mp p
 grind
theorem Wf.after (w:Wf K G H Y Z (Ts++T) g) (e:prs Z rs=some pfs) (f1:ps.map (λp=>(p.d,p.f))=pfs) (f4:∀ p∈ps,(∃ i,R3.pl i∈rs/\g i=some p)\/p∈Ts) (f5:Paired (λr p=>match r with | .pl i=>g i=some p | .val _ _=>p∈Ts) rs ps) (B:BehindX K H H' ps qs) :
  ∃ g',Wf K G H' Y (L3.back rs pfs (qs.map λq=>(q.d,q.f)) Z) T g' /\
   ∀ x,Rep K H' x.d x.v x.L->(x.f≠.z->jC x.d=true/\∃ a L',x.v=.ref a/\x.L=a::L'/\a ∉ L'/\H a=none)->(∀ c∈x.L,H c=none\/dC ps c)->(∀ q∈qs,Apart3 x q)->Wf K G H' Y (L3.back rs pfs (qs.map λq=>(q.d,q.f)) Z) (x::T) g':=by
 subst f1
 have V:rs.length=ps.length:=by have:=oI e;rwa [GS] at this
 obtain ⟨g',h1,h2,h3⟩:=fU (K:=K) (H:=H) (H':=H') (T:=ps) (rs:=rs) (ps:=ps) (qs:=qs) w.sl V B.back (sN e)
 have F:∀ p∈ps,Itm (Ts++T) g p:=λp l=>by
  rcases f4 p l with ⟨i,_,Q⟩ | h
  .exact .inl #[i,Q]
  .exact .inr (GK _ h)
 have X:∀ b o,H b=some o->∃ o',H' b=some o':=λb o R=>by
  by_cases h:∀ p∈ps,p.f=.u->p.v≠.ref b
  .exact #[o,B.frame b o R h]
  .have h':∃ p,p∈ps/\p.f=.u/\p.v=.ref b:=by
    refine Classical.byContradiction λn=>h λp l hf J=>n #[p,l,hf,J]
   obtain ⟨p,l,hf,J⟩:=h'
   obtain ⟨k,hk,ek⟩:=List.mem_iff_getElem.mp l
   obtain ⟨q,e1,b1⟩:=Paired.exL B.back (show ps[k]?=some p by rw[GO hk,ek])
   exact b1.there hf b J
 have ka:∀ j z,g j=some z->(∀ (k:Nat) (p:It3),rs[k]?=some (R3.pl j)->ps[k]?=some p->p.f=.z)->∀ p∈ps,Apart3 p z:=λj z ej hu p l=>by
  rcases f4 p l with ⟨i,hi,Q⟩ | h
  .by_cases ij:i=j
   .subst ij
    have ar:p=z:=Hu (Q.symm.trans ej)
    subst ar
    have hz:p.f=.z:=by
     obtain ⟨k,hk,ek⟩:=List.mem_iff_getElem.mp hi
     have σ:rs[k]?=some (R3.pl i):=by rw[GO hk,ek]
     obtain ⟨A,e1,E⟩:=Paired.exL f5 σ
     have E:g i=some A:=E
     rw[Q] at E
     cases E
     exact hu k p σ e1
    exact #[λq=>absurd hz q,λq=>absurd hz q]
   .exact #[w.ss i j p z ij Q ej,w.ss j i z p (Ne.symm ij) ej Q]
  .exact (w.st j z ej p (GK _ h)).symm
 have kt:∀ z∈T,∀ p∈ps,Apart3 p z:=λz hz p l=>by
  rcases f4 p l with ⟨i,hi,Q⟩ | h
  .exact w.st i p Q z (GL _ hz)
  .exact (List.pairwise_append.mp w.tt).2.2 p h z hz
 have keep:∀ z,ItOk K G H z->(∀ p∈ps,Apart3 p z)->ItOk K G H' z:=λz P W=>by
  refine P.keep (M:=λb=>∃ p∈ps,p.f=.u/\p.v=.ref b) (λb o R n=>B.frame b o R λp l hf J=>n #[p,l,hf,J]) (λb #[p,l,hf,J]=>?_) (λb R #[p,l,hf,J]=>?_)
  .obtain ⟨_,a,L',e1,E,_⟩:=(w.itm (F p l)).own (by rw[hf];intro q;cases q)
   rw[J] at e1
   cases e1
   exact (w.itm (F p l)).rep.inH b (by rw[E];exact GG)
  .exact (W p l).1 (by rw[hf];intro q;cases q) b J R
 have ab:∀ k p q,ps[k]?=some p->qs[k]?=some q->ItOk K G H' q:=λk p q e1 E=>by
  have b:=Paired.at B.back e1 E
  refine #[b.arg.rep,λhf=>?_,λc S=>?_]
  .obtain ⟨m,a,L',v1,v2,v3⟩:=b.arg.own hf
   refine #[m,a,L',v1,v2,v3,λhu=>?_]
   have pf:p.f=.u:=by
    rcases b.f with h | h
    .rw[<- h];exact hu
    .rw[h] at hu;cases hu
   obtain ⟨_,a',a0,e3,_,_,e5⟩:=(w.itm (F p (GV e1))).own (by rw[pf];intro q;cases q)
   rw[<- b.v,v1] at e3
   cases e3
   exact e5 pf
  .rcases b.src c S with h | ⟨A,C,h⟩
   .exact .inl (w.h0none h)
   .exact (w.itm (F A C)).src c h
 have kq:∀ z,ItOk K G H z->(∀ p∈ps,Apart3 p z)->∀ k p q,ps[k]?=some p->qs[k]?=some q->Apart3 z q:=λz P W k p q e1 E=>by
  have b:=Paired.at B.back e1 E
  refine #[λhf a ev hm=>?_,λhf a ev=>?_]
  .rcases b.src a hm with h | ⟨A,C,S⟩
   .obtain ⟨_,a',L',s,O,_⟩:=P.own hf
    rw[ev] at s;cases s
    obtain ⟨o,I⟩:=(P.rep.inH a (by rw[O];exact GG)).ex
    rw[h] at I;exact nsE I
   .exact (W A C).2 hf a ev S
  .have pf:p.f≠.z:=λρ=>by
    have:=b.z ρ
    rw[this] at hf
    exact hf ρ
   exact (W p (GV e1)).1 pf a (by rw[<- b.v];exact ev)
 have old:∀ j z,g' j=some z->(g j=some z/\∀ p∈ps,Apart3 p z)\/∃ k p,rs[k]?=some (R3.pl j)/\ps[k]?=some p/\qs[k]?=some z:=λj z D=>by
  rcases h3 j with ⟨e1,hu⟩ | ⟨k,p,q,a1,a2,y,_,a5⟩
  .rw[e1] at D
   exact .inl #[D,ka j z D hu]
  .rw[a5] at D
   cases D
   exact .inr #[k,p,a1,a2,y]
 have wf:Wf K G H' Y (L3.back rs (ps.map λp=>(p.d,p.f)) (qs.map λq=>(q.d,q.f)) Z) T g':=by
  refine #[by rw[h2];exact w.len,h1,λj z D=>?_,λj z D=>?_,λz hz=>keep z (w.okT z (GL _ hz)) (kt z hz),λi j a b n φ eb=>?_,λj z D t N=>?_,(List.pairwise_append.mp w.tt).2.1,λb o e n=>?_,w.pro,#[λu hu=>w.fx.frT u (GL _ hu),λj u h l hf a φ=>?_,λb R=>?_,λb o h=>?_,λj u h V=>?_]]
  .rcases old j z D with ⟨e1,_⟩ | ⟨k,p,a1,a2,y⟩
   .exact w.sv j z e1
   .have ep:g j=some p:=by
     obtain ⟨A,s,O⟩:=Paired.exL f5 a1
     rw[a2] at s;cases s
     exact O
    rw[(Paired.at B.back a2 y).v]
    exact w.sv j p ep
  .rcases old j z D with ⟨e1,ap⟩ | ⟨k,p,a1,a2,y⟩
   .exact keep z (w.okS j z e1) ap
   .exact ab k p z a2 y
  .rcases old i a φ with ⟨e1,ap⟩ | ⟨k,p,a1,a2,y⟩
   .rcases old j b eb with ⟨E,_⟩ | ⟨k',A,b1,b2,b3⟩
    .exact w.ss i j a b n e1 E
    .exact (kq a (w.okS i a e1) ap k' A b b2 b3).1
   .rcases old j b eb with ⟨E,ap⟩ | ⟨k',A,b1,b2,b3⟩
    .exact (kq b (w.okS j b E) ap k p a a2 y).2
    .have kk:k≠k':=λz=>by
      subst z
      rw[a1] at b1
      cases b1
      exact n rfl
     exact (df B.apart (λ_ _=>Apart3.symm) kk y b3).1
  .rcases old j z D with ⟨e1,ap⟩ | ⟨k,p,a1,a2,y⟩
   .exact w.st j z e1 t (GL _ N)
   .exact (kq t (w.okT t (GL _ N)) (kt t N) k p z a2 y).symm
  .refine B.frame b o (w.base b o e n) λp l hf J=>?_
   obtain ⟨_,a,L',e1,_,_,e3⟩:=(w.itm (F p l)).own (by rw[hf];intro q;cases q)
   rw[J] at e1
   cases e1
   rcases e3 hf with h | h
   .rw[e] at h;cases h
   .exact n h
  .rcases old j u h with ⟨e1,_⟩ | ⟨k,p,a1,a2,y⟩
   .exact w.fx.frS j u e1 l hf a φ
   .have b:=Paired.at B.back a2 y
    have ep:g j=some p:=by
     obtain ⟨A,s,O⟩:=Paired.exL f5 a1
     rw[a2] at s;cases s
     exact O
    refine w.fx.frS j p ep l (λρ=>?_) a (by rw[<- b.v];exact φ)
    have:=b.z ρ
    rw[this] at hf
    exact hf ρ
  .obtain ⟨o,I⟩:=w.fx.bin b R
   exact X b o I
  .obtain ⟨o',I⟩:=w.fx.ob b o h
   exact X b o' I
  .rcases old j u h with ⟨e1,_⟩ | ⟨k,p,a1,a2,y⟩
   .exact w.fx.lvS j u e1 V
   .have b:=Paired.at B.back a2 y
    have ep:g j=some p:=by
     obtain ⟨A,s,O⟩:=Paired.exL f5 a1
     rw[a2] at s;cases s
     exact O
    rw[b.v]
    refine w.fx.lvS j p ep ?_
    rcases b.f with h | h
    .rw[<- h];exact V
    .rw[h] at V;cases V
 refine #[g',wf,λx rx ox sx ax=>?_]
 have kx:∀ z,ItOk K G H z->(∀ p∈ps,Apart3 p z)->Apart3 z x:=λz P W=>by
  refine #[λhf a ev hm=>?_,λhf a ev hm=>?_]
  .rcases sx a hm with h | ⟨A,C,S⟩
   .obtain ⟨_,a',L',s,O,_⟩:=P.own hf
    rw[ev] at s;cases s
    obtain ⟨o,I⟩:=(P.rep.inH a (by rw[O];exact GG)).ex
    rw[h] at I;exact nsE I
   .exact (W A C).2 hf a ev S
  .obtain ⟨_,a',L',s,_,_,q4⟩:=ox hf
   rw[ev] at s;cases s
   obtain ⟨o,I⟩:=(P.rep.inH a hm).ex
   rw[q4] at I;exact nsE I
 refine #[wf.len,wf.sl,wf.sv,wf.okS,λz hz=>?_,wf.ss,λj z D t N=>?_,?_,wf.base,wf.pro,#[λu hu hf a φ=>?_,wf.fx.frS,wf.fx.bin,wf.fx.ob,wf.fx.lvS]]
 .rcases GN.mp hz with h | hz
  .rw[h]
   refine #[rx,λhf=>?_,λc S=>?_]
   .obtain ⟨m,a,L',v1,v2,v3,v4⟩:=ox hf
    exact #[m,a,L',v1,v2,v3,λ_=>.inl (w.h0none v4)]
   .rcases sx c S with h | ⟨A,C,h⟩
    .exact .inl (w.h0none h)
    .exact (w.itm (F A C)).src c h
  .exact wf.okT z hz
 .rcases GN.mp N with h | N
  .rw[h]
   rcases old j z D with ⟨e1,ap⟩ | ⟨k,p,a1,a2,y⟩
   .exact kx z (w.okS j z e1) ap
   .exact (ax z (GV y)).symm
  .exact wf.st j z D t N
 .exact List.pairwise_cons.mpr #[λt N=>(kx t (w.okT t (GL _ N)) (kt t N)).symm,wf.tt]
 .rcases GN.mp hu with h | hu
  .subst h
   obtain ⟨_,a',L',s,_,_,q4⟩:=ox hf
   rw[φ] at s;cases s
   exact w.ornone q4
  .exact wf.fx.frT u hu hf a φ
set_option tactic.hygienic true in
theorem tv {i a:Nat} (h:(Z[i]?).join=none):((L3.lowAt a Z)[i]?).join=none:=by
 unfold L3.lowAt
 split
 .grind
 .rename_i d hd
  rw[cJ (fR hd)]
  by_cases b:i=a
  .subst b;rw[h] at hd;exact nsE hd
  .rw[if_neg b];exact h
 .exact h
theorem qV {i:Nat}:∀ {is:List Nat} {Z:Sto},(Z[i]?).join=none->((L3.frz is Z)[i]?).join=none
 | [],Z,h=>h
 | a::is,Z,h=>qV (is:=is) (Z:=L3.lowAt a Z) (tv h)
end
def fS (Z:Sto):Nat->List (D×Fl)->Option (List (D×Fl))
 | _,[]=>some []
 | i,(d,.z)::ps=>(fS Z (i+1) ps).map λr=>(d,.z)::r
 | i,(d,f)::ps=>match (Z[i]?).join,fS Z (i+1) ps with
  | some (d',f'),some r=>if f'=f\/f'=.z then some ((d',f')::r) else none
  | _,_=>none
def kM (n:Nat) (ps:List (D×Fl)):Sto:=ps.map some++List.replicate (n - ps.length) none
def fn0 (n:Nat) (b:SM):Fn:=λps=>match b (kM n ps) with
 | some (.ok .nx,Z')=>(fS Z' 0 ps).map λfs=>(.ok (.non,.z),fs)
 | some (.ok (.rt d f),Z')=>(fS Z' 0 ps).map λfs=>(.ok (d,f),fs)
 | some (.error e,Z')=>(fS Z' 0 ps).map λfs=>(.error e,fs)
 | _=>none
def wH (b:Bool) (p:D×Fl):D×Fl:=if b then (p.1,.z) else p
noncomputable def fnM (mask:List Bool) (n:Nat) (b:SM):Fn:=λps=>if ps.length=mask.length then fn0 n b (List.zipWith wH mask ps) else none
section
variable {K:FG} {G:Gm} {W:D->Sto->Prop} {H H':Hp} {Y:St} {Z Z':Sto} {T T':List It3} {g:Nat->Option It3} {x y z:It3} {α β:Type}
def gOf (H:Hp) (pr:Nat->Bool) (Y0:St) (ps:List It3):Gm:=#[H,λb=>∃ p∈ps,p.f=.u/\p.v=.ref b,pr,Y0,H,dC ps,λi=>(ps[i]?).map (·.v)]
theorem wW {n:Nat} (a:ps.length<=n) (i:Nat):((kM n ps)[i]?).join=ps[i]?:=by
 unfold kM
 grind
theorem m9 {n:Nat} {a:List V} {i:Nat} (h:a[i]?=some v):(a.map some++List.replicate n (none:Option V))[i]?=some (some v):=by grind
theorem xx {n:Nat} (u:ps.length<=n) (g:∀ p∈ps,Arg K H p) (t:ps.Pairwise Apart3) (k:∀ (i:Nat) (p:It3),ps[i]?=some p->p.f≠.z->pr i=true) :
  Wf K (gOf H pr ((ps.map (·.v)).map some++List.replicate (n - (ps.map (·.v)).length) none) ps) H ((ps.map (·.v)).map some++List.replicate (n - (ps.map (·.v)).length) none) (kM n (ps.map λp=>(p.d,p.f))) [] (λi=>ps[i]?):=by
 refine #[?_,λi=>?_,λi x e=>?_,λi x e=>?_,λ_ h=>(by cases h),λi j a b n r l=>?_,λ_ _ _ _ h=>(by cases h),.nil,λb o e _=>e,λi _=>rfl,#[λ_ h=>(by cases h),λi x e hz hf=>?_,λb h=>?_,λb o e=>#[o,e],λi x e _=>(by show (ps[i]?).map (·.v)=_;rw[e];rfl)]]
 .unfold kM;simp
 .rw[wW (by simpa using u),GY]
 .exact m9 (by rw[GY,e];rfl)
 .have hm:=GV e
  refine #[(g x hm).rep,λhf=>?_,λc w=>.inr #[x,hm,w]]
  obtain ⟨m,a,L',v1,v2,s⟩:=(g x hm).own hf
  exact #[m,a,L',v1,v2,s,λhu=>.inr #[x,hm,hu,v1]]
 .exact (df t (λ_ _=>Apart3.symm) n r l).1
 .have hz:pr i=false:=hz
  rw[k i x e hf] at hz;cases hz
 .obtain ⟨p,hm,hf,y⟩:=h
  obtain ⟨_,a,L',v1,v2,_⟩:=(g p hm).own (by rw[hf];intro q;cases q)
  rw[y] at v1;cases v1
  exact ((g p hm).rep.inH b (by rw[v2];exact GG)).ex
def FinsOk (Z:Sto) (i:Nat) (ps fs:List (D×Fl)):Prop:=fs.length=ps.length/\∀ (k:Nat) (p:D×Fl),ps[k]?=some p->∃ q,fs[k]?=some q/\(p.2=.z->q=p)/\(p.2≠.z->(Z[i+k]?).join=some q/\(q.2=p.2\/q.2=.z))
theorem FinsOk.cons {i:Nat} {e d:D×Fl} {ps fs:List (D×Fl)} (h:FinsOk Z (i+1) ps fs) (hz:e.2=.z->d=e) (g:e.2≠.z->(Z[i]?).join=some d/\(d.2=e.2\/d.2=.z)):FinsOk Z i (e::ps) (d::fs):=by
 refine #[by rw[Hd,Hd,h.1],λk p f=>?_]
 cases k with
 | zero=>cases f;exact #[d,rfl,hz,g]
 | succ k =>
  obtain ⟨q,a,b,c⟩:=h.2 k p f
  grind
theorem ke:∀ {i:Nat} {ps:List (D×Fl)} {fs:List (D×Fl)},fS Z i ps=some fs->FinsOk Z i ps fs
 | i,[],fs,e=>by cases e;exact #[rfl,λk p h=>by cases h]
 | i,p0::ps,fs,e=>by
  obtain ⟨d,f⟩:=p0
  have key:f≠.z->(match (Z[i]?).join,fS Z (i+1) ps with
    | some (d',a),some r=>if a=f\/a=.z then some ((d',a)::r) else none
    | _,_=>none)=some fs->FinsOk Z i ((d,f)::ps) fs:=λhf e=>by
   cases h:(Z[i]?).join with
   | none=>rw[h] at e;exact nsE e
   | some p0 =>
    cases h2:fS Z (i+1) ps with
    | none=>rw[h,h2] at e;exact nsE e
    | some r =>
     rw[h,h2] at e
     obtain ⟨d',a⟩:=p0
     dsimp only at e
     rcases Decidable.em (a=f\/a=.z) with b | b
     .rw[if_pos b] at e
      cases e
      exact (ke h2).cons (λz=>absurd z hf) λ_=>#[h,b]
     .rw[if_neg b] at e;exact nsE e
  cases f with
  | z =>
   obtain ⟨r,h,h'⟩:=GJ.mp (show (fS Z (i+1) ps).map (λr=>(d,Fl.z)::r)=some fs from e)
   subst h'
   exact (ke h).cons (λ_=>rfl) λn=>absurd rfl n
  | u=>exact key (by intro q;cases q) e
  | l=>exact key (by intro q;cases q) e
theorem kJ {P:Nat->α->β->Prop}:∀ (l:List α) (i:Nat),(∀ (k:Nat) a,l[k]?=some a->∃ b,P (i+k) a b)->∃ m:List β,m.length=l.length/\∀ (k:Nat) a,l[k]?=some a->∃ b,m[k]?=some b/\P (i+k) a b
 | [],i,_=>#[[],rfl,λk a h=>by simp at h]
 | a::l,i,h=>by
  obtain ⟨b,D⟩:=h 0 a rfl
  obtain ⟨m,h1,h2⟩:=kJ l (i+1) λk a e=>by
   have:=h (k+1) a (by simpa using e)
   rwa [show i+(k+1)=i+1+k by lia] at this
  refine #[b::m,by simp[h1],λk c e=>?_]
  cases k with
  | zero=>simp at e;subst e;exact #[b,rfl,D]
  | succ k =>
   obtain ⟨d,e1,f⟩:=h2 k c (by simpa using e)
   exact #[d,by simpa using e1,by rwa [show i+(k+1)=i+1+k by lia]]
theorem Paired.ofGet:∀ {l:List α} {m:List β},l.length=m.length->(∀ (k:Nat) a b,l[k]?=some a->m[k]?=some b->F a b)->Paired F l m
 | [],[],_,_=>.nil
 | [],_::_,h,_=>by cases h
 | _::_,[],h,_=>by cases h
 | a::l,b::m,h,f=>.cons (f 0 a b rfl rfl) (Paired.ofGet (by simpa using h) λk a b e1 D=>f (k+1) a b (by simpa using e1) (by simpa using D))
theorem rR {n:Nat} {pr:Nat->Bool} {Y0:St} {ps:List It3} {fs:List (D×Fl)} (C:∀ p∈ps,Arg K H p) (I:ps.Pairwise Apart3) (Q:∀ (i:Nat) (p:It3),ps[i]?=some p->p.f≠.z->pr i=true) (h0:∀ (i:Nat) (p:It3),ps[i]?=some p->Y0[i]?=some (some p.v))
  (w:Wf K (gOf H pr Y0 ps) H' Y Z T g) (e:fS Z 0 (ps.map λp=>(p.d,p.f))=some fs) :
  ∃ qs,BehindX K H H' ps qs/\qs.map (λq=>(q.d,q.f))=fs/\(∀ (k:Nat) (p q:It3),ps[k]?=some p->qs[k]?=some q->(p.f=.z/\q=p)\/(p.f≠.z/\g k=some q)):=by
 obtain ⟨hl,hs⟩:=ke e
 rw[GS] at hl
 have frame:∀ b o,H b=some o->(∀ p∈ps,p.f=.u->p.v≠.ref b)->H' b=some o:=λb o s O=>w.base b o s λ#[p,hm,hf,t]=>O p hm hf t
 have there:∀ b o,H b=some o->∃ o',H' b=some o':=λb o s=>w.fx.ob b o s
 have E:∀ (k:Nat) (p:It3),ps[k]?=some p->p.f=.z->Rep K H' p.d p.v p.L:=λk p l hz=>by
  refine (C p (GV l)).rep.keep (M:=λb=>∃ p∈ps,p.f=.u/\p.v=.ref b) (λb o s O=>frame b o s λp I hf t=>O #[p,I,hf,t]) (λb #[A,hm,hf,t]=>?_) λb s #[A,hm,hf,t]=>?_
  .obtain ⟨_,a,L',v1,v2,_⟩:=(C A hm).own (by rw[hf];intro q;cases q)
   rw[t] at v1;cases v1
   exact (C A hm).rep.inH b (by rw[v2];exact GG)
  .obtain ⟨j,N,G⟩:=List.mem_iff_getElem.mp hm
   have x:ps[j]?=some A:=by rw[GO N,G]
   have jk:j≠k:=λz=>by subst z;rw[l] at x;cases x;rw[hz] at hf;cases hf
   exact (df I (λ_ _=>Apart3.symm) jk x l).1 (by rw[hf];intro q;cases q) b t s
 have one:∀ (k:Nat) (p:It3),ps[k]?=some p->∃ q,(q.d,q.f)=(fs[k]?).getD (p.d,p.f)/\fs[k]?=some (q.d,q.f)/\Back1 K H H' ps p q/\((p.f=.z/\q=p)\/(p.f≠.z/\g k=some q)):=λk p l=>by
  have hm:=GV l
  obtain ⟨σ,f1,f2,f3⟩:=hs k (p.d,p.f) (by rw[GY,l];rfl)
  by_cases hz:p.f=.z
  .have:=f2 hz
   subst this
   refine #[p,by rw[f1];rfl,f1,#[λ_=>rfl,rfl,.inl rfl,#[E k p l hz,λh=>absurd hz h],λc S=>.inr #[p,hm,S],λh=>?_],.inl #[hz,rfl]]
   rw[hz] at h;cases h
  .obtain ⟨h1,h2⟩:=f3 hz
   rw[Ha] at h1
   obtain ⟨y,X,W,φ,y4⟩:=w.slot (d:=σ.1) (f:=σ.2) h1
   have t:y.v=p.v:=by
    have:=w.pro k (Q k p l hz)
    rw[y4] at this
    have h0:some (some y.v)=some (some p.v):=this.trans (h0 k p l)
    injection h0 with h0
    injection h0
   have ok:=w.okS k y X
   refine #[y,by rw[f1,W,φ];rfl,by rw[f1,W,φ],#[λh=>absurd h hz,t,by rw[φ];exact h2,#[ok.rep,λhf=>?_],λc S=>ok.src c S,λhf b s=>?_],.inr #[hz,X]]
   .obtain ⟨m,a,L',v1,v2,v3,_⟩:=ok.own hf
    exact #[m,a,L',v1,v2,v3]
   .obtain ⟨_,a,L',v1,v2,_⟩:=(C p hm).own hz
    rw[s] at v1;cases v1
    obtain ⟨o,ho⟩:=((C p hm).rep.inH b (by rw[v2];exact GG)).ex
    exact there b o ho
 obtain ⟨qs,hq,B⟩:=kJ (P:=λk p q=>fs[k]?=some (q.d,q.f)/\Back1 K H H' ps p q/\((p.f=.z/\q=p)\/(p.f≠.z/\g k=some q))) ps 0 λk p l=>by
  obtain ⟨q,_,a,b,c⟩:=one k p l
  exact #[q,by simpa using #[a,b,c]]
 have get:∀ (k:Nat) (p q:It3),ps[k]?=some p->qs[k]?=some q->fs[k]?=some (q.d,q.f)/\Back1 K H H' ps p q/\((p.f=.z/\q=p)\/(p.f≠.z/\g k=some q)):=λk p q ep eq=>by
  obtain ⟨q',e1,e2⟩:=B k p ep
  rw[eq] at e1
  cases e1
  simpa using e2
 have par:∀ (k:Nat) (q:It3),qs[k]?=some q->∃ p,ps[k]?=some p:=λk q e=>by
  have V:=(GU.mp e).1
  exact #[ps[k]'(by lia),by simp[show k < ps.length by lia]]
 refine #[qs,#[frame,Paired.ofGet hq.symm λk p q ep eq=>(get k p q ep eq).2.1,?_],?_,λk p q ep eq=>(get k p q ep eq).2.2]
 .rw[List.pairwise_iff_getElem]
  intro k j V N lt
  have l:qs[k]?=some qs[k]:=GO V
  have G:qs[j]?=some qs[j]:=GO N
  have side:∀ (k j:Nat) (q r:It3),k≠j->qs[k]?=some q->qs[j]?=some r->NoRoot q r:=λk j q r n eq ρ=>by
   obtain ⟨p,ep⟩:=par k q eq
   obtain ⟨A,F⟩:=par j r ρ
   obtain ⟨_,b,c⟩:=get k p q ep eq
   obtain ⟨_,b',c'⟩:=get j A r F ρ
   rcases c with ⟨hz,e⟩ | ⟨hz,e⟩
   .rw[e];exact λh=>absurd hz h
   .rcases c' with ⟨R,J⟩ | ⟨R,J⟩
    .rw[J]
     intro hf a ea
     exact (df I (λ_ _=>Apart3.symm) n ep F).1 hz a (by rw[<- b.v];exact ea)
    .exact w.ss k j q r n e J
  exact #[side k j _ _ (G4 lt) l G,side j k _ _ (Nat.ne_of_gt lt) G l]
 .refine List.ext_getElem? λk=>?_
  rw[GY]
  cases eq:qs[k]? with
  | none =>
   have:qs.length<=k:=List.getElem?_eq_none_iff.mp eq
   rw[List.getElem?_eq_none (by lia)]
   rfl
  | some q =>
   obtain ⟨p,ep⟩:=par k q eq
   rw[(get k p q ep eq).1]
   rfl
theorem uc {n:Nat} {pr:Nat->Bool} {Y0:St} {ps:List It3} {fs:List (D×Fl)} (l:∀ p∈ps,Arg K H p) (F:ps.Pairwise Apart3) (j:∀ (i:Nat) (p:It3),ps[i]?=some p->p.f≠.z->pr i=true) (h0:∀ (i:Nat) (p:It3),ps[i]?=some p->Y0[i]?=some (some p.v))
  (w:Wf K (gOf H pr Y0 ps) H' Y Z (x::T) g) (e:fS Z 0 (ps.map λp=>(p.d,p.f))=some fs):∃ qs,Behind K H H' ps qs x/\qs.map (λq=>(q.d,q.f))=fs:=by
 obtain ⟨qs,B,f,y⟩:=rR (n:=n) l F j h0 w e
 have ok:=w.okT x GG
 refine #[qs,#[B,ok.rep,λhf=>?_,λc u=>ok.src c u,λq C=>?_],f]
 .obtain ⟨m,a,L',v1,v2,E,_⟩:=ok.own hf
  exact #[m,a,L',v1,v2,E,w.fx.frT x GG hf a v1]
 .obtain ⟨k,t,s⟩:=List.mem_iff_getElem.mp C
  have eq:qs[k]?=some q:=by rw[GO t,s]
  obtain ⟨p,ep,b⟩:=Paired.exR B.back eq
  rcases y k p q ep eq with ⟨hz,e⟩ | ⟨hz,e⟩
  .rw[e]
   refine #[λhf a A hm=>?_,λh=>absurd hz h]
   have h1:=w.fx.frT x GG hf a A
   obtain ⟨o,r⟩:=((l p (GV ep)).rep.inH a hm).ex
   have h2:H a=none:=h1
   rw[h2] at r;exact nsE r
  .exact (w.st k q e x GG).symm
end
def cR:Fl->Fl
 | .u=>.l
 | f=>f
def bt (x:It3):It3:={ x with f:=cR x.f }
def gi:Fl->Fl
 | .l=>.u
 | f=>f
def AJ (x:It3):It3:={ x with f:=gi x.f }
def l5 (h:Fl->Fl) (i:Nat) (Z:Sto):Sto:=match (Z[i]?).join with
 | some (d,f)=>Z.set i (some (d,h f))
 | none=>Z
def aJ (h:Fl->Fl) (is:List Nat) (Z:Sto):Sto:=is.foldl (λZ i=>l5 h i Z) Z
def us (Z:Sto) (is:List Nat):List Nat:=is.filter λi=>match (Z[i]?).join with
 | some (_,.u)=>true
 | _=>false
theorem lentF_z:cR f=.z ↔ f=.z:=by cases f <;> simp[cR]
theorem unlF_z:gi f=.z ↔ f=.z:=by cases f <;> simp[gi]
theorem u3 (f:Fl):cR f≠.u:=by cases f <;> simp[cR]
theorem DE (f:Fl):gi f≠.l:=by cases f <;> simp[gi]
section
variable {K:FG} {G G0:Gm} {W W0:D->Sto->Prop} {H H':Hp} {Y:St} {Z Z':Sto} {T T':List It3} {g:Nat->Option It3} {x y z:It3} {α β:Type}
theorem s9 {i j:Nat}:((l5 h i Z)[j]?).join=if j=i then ((Z[j]?).join).map (λp=>(p.1,h p.2)) else (Z[j]?).join:=by
 unfold l5
 grind
theorem wA {i:Nat}:(l5 h i Z).length=Z.length:=by
 unfold l5
 split
 .rw[List.length_set]
 .rfl
theorem gx (a:∀ f,h (h f)=h f):∀ {is:List Nat} {Z:Sto} {j:Nat},((aJ h is Z)[j]?).join=if j∈is then ((Z[j]?).join).map (λp=>(p.1,h p.2)) else (Z[j]?).join
 | [],Z,j=>by simp[aJ]
 | i::is,Z,j=>by
  have e:aJ h (i::is) Z=aJ h is (l5 h i Z):=rfl
  rw[e,gx a,s9]
  by_cases q:j=i
  .subst q
   by_cases m:j∈is
   .rw[if_pos m,if_pos rfl,if_pos GG]
    cases (Z[j]?).join with
    | none=>rfl
    | some p=>simp[a]
   .rw[if_neg m,if_pos rfl,if_pos GG]
  .by_cases m:j∈is
   .rw[if_pos m,if_neg q,if_pos (GH _ m)]
   .rw[if_neg m,if_neg q,if_neg (λz=>(GN.mp z).elim q m)]
theorem iW:∀ {is:List Nat} {Z:Sto},(aJ h is Z).length=Z.length
 | [],Z=>rfl
 | i::is,Z=>by
  have e:aJ h (i::is) Z=aJ h is (l5 h i Z):=rfl
  rw[e,iW,wA]
def eE (G:Gm) (H:Hp) (g:Nat->Option It3) (is:List Nat):Gm :=
 #[H,λb=>∃ j y,j ∉ is/\g j=some y/\y.f=.u/\y.v=.ref b,G.pr,G.Y0,G.orig,λc=>G.H0 c=none\/G.src c,λj=>if j∈is then (g j).map (·.v) else G.lv j]
structure Fk (x y:It3):Prop where
 d:y.d=x.d
 v:y.v=x.v
 L:y.L=x.L
 z:y.f=.z ↔ x.f=.z
theorem Fk.noRoot (a:Fk x x') (b:Fk y y') (h:NoRoot x y):NoRoot x' y':=λhf c e=>by
 rw[b.L]
 exact h (λq=>hf (a.z.mpr q)) c (by rw[<- a.v];exact e)
theorem Fk.apart (a:Fk x x') (b:Fk y y') (h:Apart3 x y):Apart3 x' y':=#[a.noRoot b h.1,b.noRoot a h.2]
theorem Fk.refl (x:It3):Fk x x:=#[rfl,rfl,rfl,Iff.rfl]
theorem lh (x:It3):Fk x (bt x):=#[rfl,rfl,rfl,lentF_z]
theorem Ge (x:It3):Fk x (AJ x):=#[rfl,rfl,rfl,unlF_z]
theorem qv {o:Option It3} {h:Fl->Fl} (e:o.map (λx=>(x.d,x.f))=p):(o.map λx=>{ x with f:=h x.f }).map (λx:It3=>(x.d,x.f))=p.map λp=>(p.1,h p.2):=by
 subst e
 cases o <;> rfl
theorem Wf.enter (w:Wf K G H Y Z T g) (is:List Nat):Wf K (eE G H g is) H Y (aJ cR is Z) (T.map bt) (λj=>if j∈is then (g j).map bt else g j):=by
 have val:∀ j u,(if j∈is then (g j).map bt else g j)=some u->∃ l,g j=some l/\Fk l u/\((j∈is/\u=bt l)\/(j ∉ is/\u=l)):=λj u h=>by
  by_cases q:j∈is
  .rw[if_pos q] at h
   obtain ⟨l,e1,t⟩:=GJ.mp h
   subst t
   exact #[l,e1,lh l,.inl #[q,rfl]]
  .rw[if_neg q] at h
   exact #[u,h,Fk.refl u,.inr #[q,rfl]]
 refine #[by rw[iW];exact w.len,λj=>?_,λj u h=>?_,λj u h=>?_,λu hu=>?_,λi j a b n F p=>?_,λj a h b p=>?_,?_,λb o e _=>e,w.pro,#[λu hu hf a A=>?_,λj u h I hf a A=>?_,λb p=>?_,w.fx.ob,λj u h E=>?_]]
 .rw[gx (by intro f;cases f <;> rfl)]
  by_cases q:j∈is
  .rw[if_pos q,if_pos q];exact qv (w.sl j)
  .rw[if_neg q,if_neg q];exact w.sl j
 .obtain ⟨l,e,k,_⟩:=val j u h
  rw[k.v];exact w.sv j l e
 .obtain ⟨l,e,k,c⟩:=val j u h
  have ok:=w.okS j l e
  refine #[by rw[k.d,k.v,k.L];exact ok.rep,λhf=>?_,λc x=>.inr (ok.src c (by rw[<- k.L];exact x))]
  obtain ⟨m,a,L',v1,v2,B,_⟩:=ok.own (λq=>hf (k.z.mpr q))
  refine #[by rw[k.d];exact m,a,L',by rw[k.v];exact v1,by rw[k.L];exact v2,B,λhu=>?_]
  rcases c with ⟨_,rfl⟩ | ⟨D,rfl⟩
  .exact absurd hu (u3 _)
  .exact .inr #[j,u,D,e,hu,v1]
 .obtain ⟨l,h0,rfl⟩:=GX.mp hu
  have ok:=w.okT l h0
  refine #[ok.rep,λhf=>?_,λc x=>.inr (ok.src c x)]
  obtain ⟨m,a,L',v1,v2,B,_⟩:=ok.own (λq=>hf (lentF_z.mpr q))
  exact #[m,a,L',v1,v2,B,λhu=>absurd hu (u3 _)]
 .obtain ⟨C,e1,s,_⟩:=val i a F
  obtain ⟨r,t,k2,_⟩:=val j b p
  exact s.noRoot k2 (w.ss i j C r n e1 t)
 .obtain ⟨C,e1,s,_⟩:=val j a h
  obtain ⟨r,h0,rfl⟩:=GX.mp p
  exact s.apart (lh r) (w.st j C e1 r h0)
 .rw[List.pairwise_map]
  exact w.tt.imp λ{a b} h=>(lh a).apart (lh b) h
 .obtain ⟨l,h0,rfl⟩:=GX.mp hu
  exact w.fx.frT l h0 (λq=>hf (lentF_z.mpr q)) a A
 .obtain ⟨l,e,k,_⟩:=val j u h
  exact w.fx.frS j l e I (λq=>hf (k.z.mpr q)) a (by rw[<- k.v];exact A)
 .obtain ⟨j,y,_,e,hf,J⟩:=p
  obtain ⟨_,a,L',v1,v2,_⟩:=(w.okS j y e).own (by rw[hf];intro q;cases q)
  rw[J] at v1;cases v1
  exact ((w.okS j y e).rep.inH b (by rw[v2];exact GG)).ex
 .obtain ⟨l,e,k,c⟩:=val j u h
  show (if j∈is then (g j).map (·.v) else G.lv j)=_
  rcases c with ⟨q,rfl⟩ | ⟨q,rfl⟩
  .rw[if_pos q,e];rfl
  .rw[if_neg q];exact w.fx.lvS j u e E
theorem Wf.leave (w:Wf K G H Y Z T g) (J:∀ i∈is,∀ y,g i=some y->y.f=.u) (S:T'.Sublist T) (p:Wf K (eE G H g is) H' Y' Z2 (R++T'.map bt) g2) :
  Wf K G H' Y' (aJ gi is Z2) (R++T') (λj=>if j∈is then (g2 j).map AJ else g2 j):=by
 have val:∀ j u,(if j∈is then (g2 j).map AJ else g2 j)=some u->∃ r,g2 j=some r/\Fk r u/\((j∈is/\u=AJ r)\/(j ∉ is/\u=r)):=λj u h=>by
  by_cases q:j∈is
  .rw[if_pos q] at h
   obtain ⟨r,e1,F⟩:=GJ.mp h
   subst F
   exact #[r,e1,Ge r,.inl #[q,rfl]]
  .rw[if_neg q] at h
   exact #[u,h,Fk.refl u,.inr #[q,rfl]]
 have may:∀ a,H a=none\/(∃ j y,j ∉ is/\g j=some y/\y.f=.u/\y.v=.ref a)->G.H0 a=none\/G.bw a:=λa h=>by
  rcases h with h | ⟨j,y,_,e,hf,hv⟩
  .exact .inl (w.h0none h)
  .obtain ⟨_,φ,L',v1,_,_,v4⟩:=(w.okS j y e).own (by rw[hf];intro q;cases q)
   rw[hv] at v1;cases v1
   exact v4 hf
 have t:∀ c,H c=none\/(G.H0 c=none\/G.src c)->G.H0 c=none\/G.src c:=λc h=>by
  rcases h with h | h
  .exact .inl (w.h0none h)
  .exact h
 have Q:∀ x∈T',x∈T:=λx ρ=>S.subset ρ
 have E:∀ b o,H b=some o->∃ o',H' b=some o':=λb o s=>by
  by_cases q:∃ j y,j ∉ is/\g j=some y/\y.f=.u/\y.v=.ref b
  .exact p.fx.bin b q
  .exact #[o,p.base b o s q]
 refine #[by rw[iW];exact p.len,λj=>?_,λj u h=>?_,λj u h=>?_,λu hu=>?_,λi j a b n M s=>?_,λj a h b s=>?_,?_,λb o e n=>?_,p.pro,#[λu hu=>?_,λj u h σ hf a W=>?_,λb s=>?_,p.fx.ob,λj u h A=>?_]]
 .rw[gx (by intro f;cases f <;> rfl)]
  by_cases q:j∈is
  .rw[if_pos q,if_pos q];exact qv (p.sl j)
  .rw[if_neg q,if_neg q];exact p.sl j
 .obtain ⟨r,e,k,_⟩:=val j u h
  rw[k.v];exact p.sv j r e
 .obtain ⟨r,e,k,c⟩:=val j u h
  have ok:=p.okS j r e
  refine #[by rw[k.d,k.v,k.L];exact ok.rep,λhf=>?_,λc I=>t c (ok.src c (by rw[<- k.L];exact I))]
  obtain ⟨m,a,L',v1,v2,N,v4⟩:=ok.own (λq=>hf (k.z.mpr q))
  refine #[by rw[k.d];exact m,a,L',by rw[k.v];exact v1,by rw[k.L];exact v2,N,λhu=>?_]
  rcases c with ⟨q,rfl⟩ | ⟨nj,rfl⟩
  .cases B:r.f with
   | u=>exact may a (v4 B)
   | l =>
    have A:=p.fx.lvS j r e B
    have A:(if j∈is then (g j).map (·.v) else G.lv j)=some r.v:=A
    rw[if_pos q] at A
    obtain ⟨y,P,ev⟩:=GJ.mp A
    have O:=J j q y P
    obtain ⟨_,φ,V,b1,_,_,b4⟩:=(w.okS j y P).own (by rw[O];intro q;cases q)
    rw[ev,v1] at b1;cases b1
    exact b4 O
   | z=>exact absurd (unlF_z.mpr B) hf
  .exact may a (v4 hu)
 .rcases GQ.mp hu with hu | hu
  .have ok:=p.okT u (GK _ hu)
   refine #[ok.rep,λhf=>?_,λc I=>t c (ok.src c I)]
   obtain ⟨m,a,L',v1,v2,N,v4⟩:=ok.own hf
   exact #[m,a,L',v1,v2,N,λh=>may a (v4 h)]
  .have ok:=w.okT u (Q u hu)
   exact #[(p.okT (bt u) (GL _ (GX.mpr #[u,hu,rfl]))).rep,ok.own,ok.src]
 .obtain ⟨D,e1,C,_⟩:=val i a M
  obtain ⟨X,F,k2,_⟩:=val j b s
  exact C.noRoot k2 (p.ss i j D X n e1 F)
 .obtain ⟨D,e1,C,_⟩:=val j a h
  rcases GQ.mp s with s | s
  .exact C.apart (Fk.refl b) (p.st j D e1 b (GK _ s))
  .have:=p.st j D e1 (bt b) (GL _ (GX.mpr #[b,s,rfl]))
   exact C.apart (y:=bt b) #[rfl,rfl,rfl,lentF_z.symm] this
 .have h:=List.pairwise_append.mp p.tt
  refine List.pairwise_append.mpr #[h.1,w.tt.sublist S,λa M b s=>?_]
  exact (Fk.refl a).apart (y:=bt b) #[rfl,rfl,rfl,lentF_z.symm] (h.2.2 a M (bt b) (GX.mpr #[b,s,rfl]))
 .have s:=w.base b o e n
  refine p.base b o s λq=>?_
  rcases may b (.inr q) with h | h
  .rw[e] at h;cases h
  .exact n h
 .rcases GQ.mp hu with hu | hu
  .exact p.fx.frT u (GK _ hu)
  .exact w.fx.frT u (Q u hu)
 .obtain ⟨r,e,k,_⟩:=val j u h
  exact p.fx.frS j r e σ (λq=>hf (k.z.mpr q)) a (by rw[<- k.v];exact W)
 .obtain ⟨o,ho⟩:=w.fx.bin b s
  exact E b o ho
 .obtain ⟨r,e,k,c⟩:=val j u h
  rcases c with ⟨q,rfl⟩ | ⟨q,rfl⟩
  .exact absurd A (DE _)
  .have:=p.fx.lvS j u e A
   have this:(if j∈is then (g j).map (·.v) else G.lv j)=some u.v:=this
   rw[if_neg q] at this
   exact this
theorem Cp (w:Wf K G H Y Z T g) (a:∀ i∈is,∀ y,g i=some y->y.f=.u):∀ (H':Hp) (Y':St) (Z2:Sto) (T2:List It3) (g2:Nat->Option It3),Wf K (eE G H g is) H' Y' Z2 T2 g2->∃ g3,Wf K G H' Y' (aJ gi is Z2) [] g3 :=
 λH' Y' Z2 T2 g2 b=>#[_,by simpa using Wf.leave (T':=[]) (R:=[]) w a (List.nil_sublist T) (by simpa using b.sub (List.nil_sublist T2))]
end
section
variable {K:FG} {G G0:Gm} {W W0:D->Sto->Prop} {H H':Hp} {Y:St} {Z Z':Sto} {T T':List It3} {g:Nat->Option It3} {x y z:It3} {α β:Type}
def Walk (K:FG) (J:It) (H1:Hp) (ys:List It3) (ds:List D):Prop:=∃ els:List It3,(∀ x∈els,x.f=.z/\Rep K H1 x.d x.v x.L/\∀ c∈x.L,eG ys c) /\
 ∀ (M:Addr->Prop) (H':Hp),(∀ b,M b->MutAt H1 b)->(∀ b o,H1 b=some o->¬ M b->H' b=some o)->(∀ y∈ys,∀ b∈y.L,¬ M b) ->
  (∀ (i:Nat) (d:D),ds[i]?=some d->J.go i H'/\∀ x a,J.yld i H' x a->∃ w,New K H' a (dC els) w/\w.d=d/\w.f=.z/\w.v=x)/\J.stop ds.length H'
abbrev IM:=M3 (List R3×List D)
def EndI (K:FG) (G:Gm) (W:D->Sto->Prop) (Y:St) (T:List It3) (Z':Sto) (R:It->Hp->Prop):Except D (List R3×List D)->Prop
 | .ok p=>∀ J H1 F Ts g1 ys,Wf K G H1 Y Z' (Ts++T) g1->Ars Y p.1 F Ts->(∀ y∈ys,(∃ i,i∈pls p.1/\g1 i=some y)\/y∈Ts)->Walk K J H1 ys p.2->R J H1
 | .error e=>W e Z'
def tI (K:FG) (G0:Gm) (W0:D->Sto->Prop) (m:IM):TI:=λY H R=>∃ G W,Le K G W G0 W0/\∃ Z T g r Z',Wf K G H Y Z T g/\m Z=some (r,Z')/\EndI K G W Y T Z' R r
theorem tI.seq (le:Le K G W G0 W0) (w:Wf K G H Y Z T g) (e:ag m k Z=some (r,Z')) (he:∀ x,r=.error x->W x Z') (h:∀ p Z1,k p Z1=some (r,Z')->EndI K G W Y T Z1 P (.ok p)):tI K G0 W0 m Y H P:=by
 unfold ag at e
 cases q:m Z with
 | none=>rw[q] at e;exact nsE e
 | some p =>
  obtain ⟨o,Z1⟩:=p
  rw[q] at e
  cases o with
  | error x=>cases e;exact #[G,W,le,Z,T,g,.error x,Z',w,q,he x rfl]
  | ok ra=>exact #[G,W,le,Z,T,g,.ok ra,Z1,w,q,h ra Z1 e]
def Bnd (K:FG) (pr:Nat->Bool) (tg:TG) (bnd:D->Sto->Option Sto):Prop:=∀ (G:Gm) (H:Hp) (Y:St) (Z Z1:Sto) (T:List It3) (g:Nat->Option It3) (w:It3) (Q:St->Hp->Prop),G.pr=pr->w.f=.z->Wf K G H Y Z (w::T) g->bnd w.d Z=some Z1 ->
 (∀ Y2 g2,Wf K G H Y2 Z1 T g2->Q Y2 H)->tg w.v Y H Q
def ao (i:Nat) (d:D) (Z:Sto):Option Sto:=if i < Z.length then some (Z.set i #v[d]) else none
set_option tactic.hygienic true in
theorem iq {i:Nat} (b:pr i=false):Bnd K pr (vi i) (ao i):=λG H Y Z Z1 T g w Q a hz wf e q=>by
 unfold ao at e
 split at e
 .rename_i hi
  cases e
  exact q _ _ (wf.store (f:=.z) hi (by rw[a];exact b) (.inr rfl) (by intro h;cases h))
 .exact nsE e
def AH (K:FG) (pr:Nat->Bool) (tg:TGs) (bnd:List D->Sto->Option Sto):Prop:=∀ (G:Gm) (H:Hp) (Y:St) (Z Z1:Sto) (T:List It3) (g:Nat->Option It3) (ws:List It3) (Q:St->Hp->Prop),G.pr=pr->(∀ w∈ws,w.f=.z)->Wf K G H Y Z (ws++T) g->bnd (ws.map (·.d)) Z=some Z1 ->
 (∀ Y2 g2,Wf K G H Y2 Z1 T g2->Q Y2 H)->tg (ws.map (·.v)) Y H Q
def kX:List D->Sto->Option Sto
 | [],Z=>some Z
 | _,_=>none
def bS (b:D->Sto->Option Sto) (bs:List D->Sto->Option Sto):List D->Sto->Option Sto
 | [],_=>none
 | d::ds,Z=>match b d Z with
  | some Z1=>bs ds Z1
  | none=>none
theorem rP:AH K pr gNil kX:=λG H Y Z Z1 T g ws Q _ _ wf e q=>by
 cases ws with
 | nil=>cases e;exact #[rfl,q _ _ wf]
 | cons w ws=>exact nsE e
theorem kz (h1:Bnd K pr tg b) (h2:AH K pr tgs bs):AH K pr (Dv tg tgs) (bS b bs):=λG H Y Z Z1 T g ws Q a hz wf e q=>by
 cases ws with
 | nil=>exact nsE e
 | cons w ws =>
  have e:(match b w.d Z with | some Z1=>bs (ws.map (·.d)) Z1 | none=>none)=some Z1:=e
  cases c:b w.d Z with
  | none=>rw[c] at e;exact nsE e
  | some Z2 =>
   rw[c] at e
   exact #[w.v,ws.map (·.v),rfl,h1 G H Y Z Z2 (ws++T) g w _ a (hz w GG) wf c λY2 g2 h=>h2 G H Y2 Z2 Z1 T g2 ws Q a (λx f=>hz x (GH _ f)) h e q]
def kW (n:Nat) (bs:List D->Sto->Option Sto):D->Sto->Option Sto
 | .tup ds,Z=>if ds.length=n then bs ds Z else none
 | _,_=>none
theorem Reps.split:∀ {ds:List D} {b:List V} {L:List Addr},Reps (Rep K H) ds b L->∃ ws:List It3,ws.map (·.d)=ds/\ws.map (·.v)=b/\(∀ w∈ws,w.f=.z/\Rep K H w.d w.v w.L/\∀ c∈w.L,c∈L)
 | _,_,_,.nil=>#[[],rfl,rfl,λ_ h=>(by cases h)]
 | _,_,_,.cons (d:=d) (v:=v) (L:=L) r rs=>by
  obtain ⟨ws,h1,h2,h3⟩:=Reps.split rs
  refine #[#[d,v,L,.z]::ws,by simp[h1],by simp[h2],λw hw=>?_]
  rcases GN.mp hw with h | h
  .subst h;exact #[rfl,r,λc a=>GK _ a]
  .exact #[(h3 w h).1,(h3 w h).2.1,λc a=>GL _ ((h3 w h).2.2 c a)]
theorem Wf.pushAll:∀ {ws:List It3} {T:List It3},Wf K G H Y Z T g->(∀ w∈ws,w.f=.z/\Rep K H w.d w.v w.L/\∀ c∈w.L,dX T g c/\(G.H0 c=none\/G.src c))->Wf K G H Y Z (ws++T) g
 | [],T,w,_=>w
 | x::ws,T,w,h=>by
  have D:=Wf.pushAll (ws:=ws) w λy a=>h y (GH _ a)
  obtain ⟨hz,e,b⟩:=h x GG
  refine D.push (Ks:=λc=>c∈x.L) #[Same.refl _,e,λc h=>.inr h,λq=>absurd hz q] λc m=>#[#[(b c m).1.1,λy a hf=>?_],(b c m).2]
  rcases GQ.mp a with q | q
  .exact absurd (h y (GH _ q)).1 hf
  .exact (b c m).1.2 y q hf
set_option tactic.hygienic true in
theorem vE {n:Nat} (h2:AH K pr tgs bs):Bnd K pr (gTup K n tgs) (kW n bs):=λG H Y Z Z1 T g w Q j hz wf e q=>by
 have r:=(wf.okT w GG).rep
 obtain ⟨d,v,L,f⟩:=w
 cases r with
 | @tup xs a vs _ hs rs =>
  have e:(if xs.length=n then bs xs Z else none)=some Z1:=e
  split at e
  .rename_i m
   obtain ⟨ws,h1,h3,h⟩:=Reps.split rs
   refine #[a,vs,rfl,SqT.of hs,?_,?_]
   .rw[<- h3,GS,<- m,<- h1,GS]
   .have o:Wf K G H Y Z (ws++(#[.tup xs,.ref a,L,f]::T)) g:=wf.pushAll λu hu=>#[(h u hu).1,(h u hu).2.1,λc k=>#[wf.kid (y:=#[.tup xs,.ref a,L,f]) (.inr GG) ((h u hu).2.2 c k) λhf=>absurd hz hf,(wf.okT _ GG).src c ((h u hu).2.2 c k)]]
    have l:Wf K G H Y Z (ws++T) g:=o.sub ((List.Sublist.refl ws).append (List.sublist_cons_self _ _))
    rw[<- h3]
    exact h2 G H Y Z Z1 T g ws Q j (λu hu=>(h u hu).1) l (by rw[h1];exact e) q
  .exact nsE e
 | non=>exact nsE e
 | bl b=>exact nsE e
 | int i=>exact nsE e
 | str s=>exact nsE e
 | lst _ _=>exact nsE e
 | lstF _ _=>exact nsE e
 | dK _ _ _=>exact nsE e
 | dT _ _ _=>exact nsE e
 | exc _ _=>exact nsE e
 | excV _ _ _ _ _ _ _ _=>exact nsE e
 | desk _ _ _ _=>exact nsE e
noncomputable def cL (bnd:D->Sto->Option Sto) (b:SM):List D->SM
 | []=>aY .nx
 | d::ds=>λZ=>match bnd d Z with
  | none=>none
  | some Z1=>ag b (λf=>match f with
   | .nx=>cL bnd b ds
   | .ct=>cL bnd b ds
   | .br=>aY .nx
   | .rt d f=>aY (.rt d f)) Z1
noncomputable def cj (im:IM) (bnd:D->Sto->Option Sto) (b:SM):SM:=ag im λp=>λZ=>(cL bnd b p.2 (aJ cR (us Z (pls p.1)) Z)).map λr=>(r.1,aJ gi (us Z (pls p.1)) r.2)
theorem us_u (w:Wf K G H Y Z T g):∀ i∈us Z is,∀ y,g i=some y->y.f=.u:=λi hi y a=>by
 have h:=(Hj.mp hi).2
 have s:=w.sl i
 rw[a] at s
 have s:some (y.d,y.f)=(Z[i]?).join:=s
 rw[<- s] at h
 cases hf:y.f with
 | u=>rfl
 | l=>rw[hf] at h;cases h
 | z=>rw[hf] at h;cases h
theorem xA {i:Nat} (w:Wf K G H Y Z T g) (hi:i∈is) (a:g i=some y) (hf:y.f=.u):i∈us Z is:=by
 refine Hj.mpr #[hi,?_]
 have s:=w.sl i
 rw[a] at s
 have s:some (y.d,y.f)=(Z[i]?).join:=s
 rw[<- s,hf]
theorem DP (φ:Bnd K G0.pr tg bnd) (h:tS K G0 W0 (cj im bnd b) E Y H):tFor (tI K G0 W0 im) tg (tS K G0 W0 b) E Y H:=by
 refine h.use λG W le Z T g r Z' w e q=>?_
 refine tI.seq le w e q.err λp Z1 e1=>?_
 intro J H1 vs Ts g1 ys A a1 ρ hw
 have O:=us_u (is:=pls p.1) A
 have ab:∀ i y,i∈pls p.1->g1 i=some y->y.f=.u->i∈us Z1 (pls p.1):=λi y hi ey hf=>xA A hi ey hf
 generalize us Z1 (pls p.1)=is at e1 O ab
 have w2:=A.enter is
 obtain ⟨els,n,walk⟩:=hw
 have hM:∀ b,(∃ j y,j ∉ is/\g1 j=some y/\y.f=.u/\y.v=.ref b)->MutAt H1 b:=λb #[j,y,_,ey,hf,D]=>by
  obtain ⟨_,a,L',v1,v2,_⟩:=(A.okS j y ey).own (by rw[hf];intro q;cases q)
  rw[D] at v1;cases v1
  exact (A.okS j y ey).rep.inH b (by rw[v2];exact GG)
 have X:∀ y∈ys,∀ b∈y.L,¬ ∃ j y,j ∉ is/\g1 j=some y/\y.f=.u/\y.v=.ref b:=λy t b φ #[j,y',nj,B,hf,D]=>by
  have σ:y'.f≠.z:=by rw[hf];intro q;cases q
  rcases ρ y t with ⟨i,hi,ei⟩ | t
  .by_cases ij:i=j
   .subst ij
    rw[ei] at B;cases B
    exact nj (ab i y hi ei hf)
   .exact A.ss j i y' y (Ne.symm ij) B ei σ b D φ
  .exact (A.st j y' B y (GK _ t)).1 σ b D φ
 have ar:∀ y∈ys,Itm (Ts++T) g1 y:=λy t=>by
  rcases ρ y t with ⟨i,_,ei⟩ | h
  .exact .inl #[i,ei]
  .exact .inr (GK _ h)
 have kid:∀ x∈els,∀ c∈x.L,dX ((Ts++T).map bt) (λj=>if j∈is then (g1 j).map bt else g1 j) c/\(H1 c=none\/(G.H0 c=none\/G.src c)):=λx hx c hc=>by
  obtain ⟨nr,sr⟩:=A.kids ar ((n x hx).2.2 c hc)
  refine #[#[λi z V hf D=>?_,λz hz hf D=>?_],.inr sr]
  .have V:(if i∈is then (g1 i).map bt else g1 i)=some z:=V
   by_cases q:i∈is
   .rw[if_pos q] at V
    obtain ⟨z0,e0,e1⟩:=GJ.mp V
    subst e1
    exact nr.1 i z0 e0 (λq=>hf (lentF_z.mpr q)) D
   .rw[if_neg q] at V
    exact nr.1 i z V hf D
  .obtain ⟨z0,h0,rfl⟩:=GX.mp hz
   exact nr.2 z0 h0 (λq=>hf (lentF_z.mpr q)) D
 have w3:Wf K (eE G H1 g1 is) H1 Y (aJ cR is Z1) (els++(Ts++T).map bt) (λj=>if j∈is then (g1 j).map bt else g1 j):=w2.pushAll λx hx=>#[(n x hx).1,(n x hx).2.1,λc hc=>kid x hx c hc]
 cases e2:cL bnd b p.2 (aJ cR is Z1) with
 | none=>rw[e2] at e1;exact nsE e1
 | some rr =>
  obtain ⟨r2,Z3⟩:=rr
  rw[e2] at e1
  have er:r2=r/\aJ gi is Z3=Z':=by cases e1;exact #[rfl,rfl]
  obtain ⟨rfl,eρ⟩:=er
  have leave:∀ {Y':St} {H':Hp} {Z2:Sto} {g2:Nat->Option It3} {R:List It3},Wf K (eE G H1 g1 is) H' Y' Z2 (R++(els++(Ts++T).map bt)) g2->∃ g3,Wf K G H' Y' (aJ gi is Z2) (R++T) g3:=λ{Y' H' Z2 g2 R} F =>
   ⟨_,Wf.leave (T:=Ts++T) (T':=T) (R:=R) A O (GW Ts T) (F.sub ((List.Sublist.refl R).append (by
    rw[List.map_append]
    exact (GW (Ts.map bt) (T.map bt)).trans (GW els _))))⟩
  have az:Le K (eE G H1 g1 is) (λe Z2=>W e (aJ gi is Z2)) G W:=⟨rfl,λH' Y' Z2 T2 g2 e F he=>by
   obtain ⟨g3,w5⟩:=Cp A O H' Y' Z2 T2 g2 F
   exact ⟨_,[],g3,w5,he⟩⟩
  have s:Le K (eE G H1 g1 is) (λe Z2=>W e (aJ gi is Z2)) G0 W0:=az.trans le
  refine #[λk m Y' H'=>k<=p.2.length/\m=p.2.length - k/\∃ Z2 g2,Wf K (eE G H1 g1 is) H' Y' Z2 (els++(Ts++T).map bt) g2/\cL bnd b (p.2.drop k) Z2=some (r2,Z3),#[_,Nat.zero_le _,rfl,_,_,w3,e2],?_]
  rintro k m Y' H' ⟨hk,rfl,Z2,g2,F,e4⟩
  obtain ⟨ax,N⟩:=walk _ H' hM (λb o φ hn=>F.base b o φ hn) X
  by_cases C:k < p.2.length
  .obtain ⟨d,hd⟩:∃ d,p.2[k]?=some d:=#[_,GO C]
   have M:p.2.drop k=d::p.2.drop (k+1):=by
    rw[List.drop_eq_getElem_cons C]
    rw[GO C] at hd
    cases hd;rfl
   rw[M] at e4
   obtain ⟨go,yld⟩:=ax k d hd
   refine .inr #[go,λY5 H5=>∃ Z5 g5,Wf K (eE G H1 g1 is) H5 Y5 Z5 (els++(Ts++T).map bt) g5/\cL bnd b (p.2.drop (k+1)) Z5=some (r2,Z3),λY5 H5 #[Z5,g5,w5,l]=>#[p.2.length - (k+1),by lia,C,rfl,Z5,g5,w5,l],λx Q t=>?_]
   obtain ⟨u,nu,ud,uf,uv⟩:=yld x Q t
   have w5:Wf K (eE G H1 g1 is) Q Y' Z2 (u::(els++(Ts++T).map bt)) g2:=F.push nu λc hc=>F.alls (ys:=els) (λy t=>#[.inr (GK _ t),(n y t).1]) hc
   have l:(match bnd d Z2 with
    | none=>none
    | some Z1=>ag b (λf=>match f with
     | .nx=>cL bnd b (p.2.drop (k+1))
     | .ct=>cL bnd b (p.2.drop (k+1))
     | .br=>aY .nx
     | .rt d f=>aY (.rt d f)) Z1)=some (r2,Z3):=e4
   cases e6:bnd d Z2 with
   | none=>rw[e6] at l;exact nsE l
   | some Z6 =>
    rw[e6] at l
    dsimp only at l
    rw[<- uv]
    refine φ (eE G H1 g1 is) Q Y' Z2 Z6 _ g2 u _ le.pr uf w5 (by rw[ud];exact e6) λY6 g6 w6=>?_
    unfold ag at l
    cases P:b Z6 with
    | none=>rw[P] at l;exact nsE l
    | some pr7 =>
     obtain ⟨o7,Z7⟩:=pr7
     rw[P] at l
     cases o7 with
     | error er =>
      cases l
      refine tS.mk (r:=.error er) s w6 P ?_
      show W er (aJ gi is _)
      rw[eρ];exact q
     | ok f =>
      cases f with
      | nx=>exact tS.mk (r:=.ok .nx) s w6 P λY8 H8 g8 S=>#[Z7,g8,S,l]
      | ct=>exact tS.mk (r:=.ok .ct) s w6 P λY8 H8 g8 S=>#[Z7,g8,S,l]
      | br =>
       cases l
       refine tS.mk (r:=.ok .br) s w6 P λY8 H8 g8 S=>?_
       obtain ⟨g9,I⟩:=leave (R:=[]) S
       rw[eρ] at I
       exact q _ _ _ I
      | rt d' f' =>
       cases l
       refine tS.mk (r:=.ok (.rt d' f')) s w6 P λx8 Y8 H8 g8 S x1 x2=>?_
       obtain ⟨g9,I⟩:=leave (R:=[x8]) S
       rw[eρ] at I
       exact q x8 _ _ _ I x1 x2
  .have ek:k=p.2.length:=by lia
   subst ek
   rw[List.drop_length] at e4
   cases e4
   obtain ⟨g9,I⟩:=leave (R:=[]) F
   rw[eρ] at I
   exact .inl #[N,q _ _ _ I]
end
def tV (ix:List (Option Nat)) (Z:Sto):Sto:=ix.map λo=>match o with
 | some i=>(Z[i]?).join
 | none=>none
def uncap:List (Option Nat)->Sto->Sto->Option Sto
 | [],_,Z=>some Z
 | none::ix,τ,Z=>uncap ix τ.tail Z
 | some i::ix,τ,Z=>match (Z[i]?).join,τ.head? with
  | some (_,f),some (some (d',f'))=>if f'=f\/f'=.z then uncap ix τ.tail (Z.set i (some (d',f'))) else none
  | _,_=>none
noncomputable def bG (bnd:D->Sto->Option Sto) (c:M3 Bool) (elt:EM):List D->M3 (List D)
 | []=>aY []
 | d::ds=>λτ=>match bnd d τ with
  | none=>none
  | some τ1=>ag c (λb=>if b then ag elt (λr=>ag (fm r) λp=>ag (bG bnd c elt ds) λl=>aY (p.1::l)) else bG bnd c elt ds) τ1
def bE (im:IM) (bnd:D->Sto->Option Sto) (c:M3 Bool) (elt:EM) (ix:List (Option Nat)):EM:=ag im λp=>λZ =>
 match bG bnd c elt p.2 (tV ix (aJ cR (us Z (pls p.1)) Z)) with
 | some (.ok ds,τ)=>if p.2.length < 16777216 then (uncap ix τ (aJ cR (us Z (pls p.1)) Z)).map λZ2=>(.ok (.val (.lst ds) .u),aJ gi (us Z (pls p.1)) Z2) else none
 | _=>none
section
variable {K:FG} {G G0:Gm} {W W0:D->Sto->Prop} {H H':Hp} {Y τ:St} {Z Z':Sto} {T T':List It3} {g:Nat->Option It3} {x y z:It3} {α β:Type} {ix:List (Option Nat)}
def Inj (ix:List (Option Nat)):Prop:=∀ (j k i:Nat),ix[j]?=some (some i)->ix[k]?=some (some i)->j=k
def CC (ix:List (Option Nat)) (g:Nat->Option It3) (j:Nat):Option It3:=(ix[j]?).join.bind g
def sU (ix:List (Option Nat)) (n:Nat) (g:Nat->Option It3):List It3:=(List.range n).filterMap λi=>if some i∈ix then none else g i
def Ao (G:Gm) (ix:List (Option Nat)) (Y:St):Gm:=#[G.H0,G.bw,λj=>((ix[j]?).join).isSome,cap ix Y,λ_=>none,G.src,λj=>(ix[j]?).join.bind G.lv]
theorem d6 {j:Nat} (h:CC ix g j=some x):∃ i,ix[j]?=some (some i)/\g i=some x:=by
 unfold CC at h
 cases e:ix[j]? with
 | none=>rw[e] at h;exact nsE h
 | some o =>
  rw[e] at h
  cases o with
  | none=>exact nsE h
  | some i=>exact #[i,rfl,h]
set_option tactic.hygienic true in
theorem lZ {n:Nat} (h:x∈sU ix n g):∃ i,some i ∉ ix/\g i=some x:=by
 obtain ⟨i,_,e⟩:=List.mem_filterMap.mp h
 split at e
 .exact nsE e
 .rename_i a;exact #[i,a,e]
theorem za {n i:Nat} (hi:i < n) (a:some i ∉ ix) (e:g i=some x):x∈sU ix n g:=List.mem_filterMap.mpr #[i,List.mem_range.mpr hi,by rw[if_neg a];exact e]
theorem Wf.cap (w:Wf K G H Y Z T g) (m:Inj ix):Wf K (Ao G ix Y) H (cap ix Y) (tV ix Z) (sU ix Z.length g++T) (CC ix g):=by
 have ne:∀ {i j:Nat},ix[j]?=some (some i)->∀ k,some k ∉ ix->i≠k:=λe k l q=>l (by rw[<- q];exact GV e)
 refine #[by unfold L2.cap tV;rw[GS,GS],λj=>?_,λj x h=>?_,λj x h=>?_,λx t=>?_,λj k x y n t r=>?_,λj x h y r=>?_,?_,w.base,λ_ _=>rfl,#[λ_ _ _ _ _=>rfl,λ_ _ _ _ _ _ _=>rfl,w.fx.bin,λb o e=>(by cases e),λj x h z=>?_]]
 .unfold CC tV
  rw[GY]
  cases e:ix[j]? with
  | none=>rfl
  | some o =>
   cases o with
   | none=>rfl
   | some i=>exact w.sl i
 .obtain ⟨i,e1,c⟩:=d6 h
  unfold L2.cap
  rw[GY,e1]
  show some ((Y[i]?).getD none)=_
  rw[w.sv i x c];rfl
 .obtain ⟨i,_,c⟩:=d6 h
  have ok:=w.okS i x c
  exact #[ok.rep,ok.own,ok.src]
 .rcases GQ.mp t with h | h
  .obtain ⟨i,_,e⟩:=lZ h
   have ok:=w.okS i x e
   exact #[ok.rep,ok.own,ok.src]
  .have ok:=w.okT x h
   exact #[ok.rep,ok.own,ok.src]
 .obtain ⟨i,e1,c⟩:=d6 t
  obtain ⟨A,u,v⟩:=d6 r
  exact w.ss i A x y (λq=>n (m j k i e1 (q ▸ u))) c v
 .obtain ⟨i,e1,c⟩:=d6 h
  rcases GQ.mp r with q | q
  .obtain ⟨k,l,e⟩:=lZ q
   have:=ne e1 k l
   exact #[w.ss i k x y this c e,w.ss k i y x (Ne.symm this) e c]
  .exact w.st i x c y q
 .refine List.pairwise_append.mpr #[?_,w.tt,λa p b s=>?_]
  .unfold sU
   rw[List.pairwise_filterMap]
   refine List.pairwise_lt_range.imp λ{i k} lt a p b s=>?_
   have f:(if some i∈ix then none else g i)=some a:=p
   have d:(if some k∈ix then none else g k)=some b:=s
   split at f
   .cases f
   .split at d
    .cases d
    .exact #[w.ss i k a b (G4 lt) f d,w.ss k i b a (Nat.ne_of_gt lt) d f]
  .obtain ⟨k,l,e⟩:=lZ p
   exact w.st k a e b s
 .obtain ⟨i,e1,c⟩:=d6 h
  show (ix[j]?).join.bind G.lv=_
  rw[e1]
  exact w.fx.lvS i x c z
theorem Wf.perm (w:Wf K G H Y Z T g) (p:T.Perm T'):Wf K G H Y Z T' g :=
 #[w.len,w.sl,w.sv,w.okS,λx a=>w.okT x (p.mem_iff.mpr a),w.ss,λi x e y b=>w.st i x e y (p.mem_iff.mpr b),(p.pairwise_iff λh=>Apart3.symm h).mp w.tt,w.base,w.pro,w.fx.sub λx a=>p.mem_iff.mpr a]
set_option tactic.hygienic true in
theorem iO:∀ {ix:List (Option Nat)} {τ Z Z2:Sto},uncap ix τ Z=some Z2->Inj ix->Z2.length=Z.length/\(∀ i,some i ∉ ix->(Z2[i]?).join=(Z[i]?).join) /\
  ∀ (j i:Nat),ix[j]?=some (some i)->∃ p q,(Z[i]?).join=some p/\(τ[j]?).join=some q/\(Z2[i]?).join=some q/\(q.2=p.2\/q.2=.z)
 | [],τ,Z,Z2,e,_=>by cases e;exact #[rfl,λ_ _=>rfl,λj i h=>by simp at h]
 | none::ix,τ,Z,Z2,e,hij=>by
  unfold uncap at e
  obtain ⟨h1,h2,h3⟩:=iO e λj k i a b=>by
   have:=hij (j+1) (k+1) i (by simpa using a) (by simpa using b)
   lia
  refine #[h1,λi hi=>h2 i λq=>hi (GH _ q),λj i h=>?_]
  cases j with
  | zero=>simp at h
  | succ j =>
   obtain ⟨p,q,a,b,c⟩:=h3 j i (by simpa using h)
   exact #[p,q,a,by rw[List.getElem?_tail] at b;exact b,c]
 | some i0::ix,τ,Z,Z2,e,hij=>by
  unfold uncap at e
  cases e1:(Z[i0]?).join with
  | none=>rw[e1] at e;exact nsE e
  | some p =>
   obtain ⟨d,f⟩:=p
   cases r:τ.head? with
   | none=>rw[e1,r] at e;exact nsE e
   | some o =>
    cases o with
    | none=>rw[e1,r] at e;exact nsE e
    | some q =>
     obtain ⟨d',t⟩:=q
     rw[e1,r] at e
     dsimp only at e
     split at e
     .rename_i hf
      have g:=fR e1
      have l:some i0 ∉ ix:=λm=>by
       obtain ⟨k,u,s⟩:=List.mem_iff_getElem.mp m
       have:=hij 0 (k+1) i0 rfl (by simp[u,s])
       lia
      obtain ⟨h1,h2,h3⟩:=iO e λj k i a b=>by
       have:=hij (j+1) (k+1) i (by simpa using a) (by simpa using b)
       lia
      refine #[by rw[h1,List.length_set],λi hi=>?_,λj i h=>?_]
      .rw[h2 i λq=>hi (GH _ q),cJ g,if_neg (λq=>hi (by rw[q];exact GG))]
      .cases j with
       | zero =>
        simp at h
        subst h
        refine #[(d,f),(d',t),e1,?_,?_,hf]
        .rw[List.head?_eq_getElem?] at r;rw[r];rfl
        .rw[h2 i0 l,cJ g,if_pos rfl]
       | succ j =>
        have n:ix[j]?=some (some i):=by simpa using h
        obtain ⟨p,q,a,b,c⟩:=h3 j i n
        have ii:i≠i0:=λz=>l (by rw[<- z];exact GV n)
        rw[cJ g,if_neg ii] at a
        exact #[p,q,a,by rw[List.getElem?_tail] at b;exact b,c]
     .exact nsE e
theorem Wf.uncap (w:Wf K G H Y Z T g) (hH:∀ b o,H b=some o->G.H0 b=some o) (Q:Inj ix) (e:L3.uncap ix τρ Z=some Z2) (hR:∀ x∈R,x.f=.z) (r:Wf K (Ao G ix Y) H' τ' τρ (R++(sU ix Z.length g++T)) gC) :
  ∃ g2,Wf K G H' Y Z2 (R++T) g2:=by
 obtain ⟨I,h2,h3⟩:=iO e Q
 let inv (i:Nat):Option Nat:=(List.range ix.length).find? λj=>decide (ix[j]?=some (some i))
 have B:∀ i j,inv i=some j->ix[j]?=some (some i):=λi j h=>by simpa using List.find?_some h
 have A:∀ i,inv i=none->some i ∉ ix:=λi h m=>by
  obtain ⟨k,W,ek⟩:=List.mem_iff_getElem.mp m
  have:=List.find?_eq_none.mp h k (List.mem_range.mpr W)
  simp[W,ek] at this
 let g2 (i:Nat):Option It3:=match inv i with | some j=>gC j | none=>g i
 have val:∀ i u,g2 i=some u->(∃ j p q,ix[j]?=some (some i)/\gC j=some u/\(Z[i]?).join=some p/\(τρ[j]?).join=some q/\(q.2=p.2\/q.2=.z))\/(some i ∉ ix/\g i=some u):=λi u h=>by
  grind
 have out:∀ i u,some i ∉ ix->g i=some u->u∈sU ix Z.length g:=λi u C e=>by
  have s:=w.sl i
  rw[e] at s
  exact za (fR s.symm) C e
 have back:∀ i j u,ix[j]?=some (some i)->gC j=some u->Y[i]?=some (some u.v):=λi j u t l=>by
  have a:=r.sv j u l
  have b:=r.pro j (by show ((ix[j]?).join).isSome=true;rw[t];rfl)
  rw[a] at b
  have b:some (some u.v)=(L2.cap ix Y)[j]?:=b
  unfold L2.cap at b
  rw[GY,t] at b
  have b:some (some u.v)=some ((Y[i]?).getD none):=b
  cases q:Y[i]? with
  | none=>rw[q] at b;cases b
  | some o=>rw[q] at b;cases b;rfl
 have J:∀ i j u p q,ix[j]?=some (some i)->gC j=some u->(Z[i]?).join=some p->(τρ[j]?).join=some q->(q.2=p.2\/q.2=.z)->∃ y,g i=some y/\y.v=u.v/\(u.f=y.f\/u.f=.z):=λi j u p q t l ep eq hf=>by
  obtain ⟨y,N,O,M,y4⟩:=w.slot (d:=p.1) (f:=p.2) ep
  have b:=back i j u t l
  rw[y4] at b
  have s:=r.sl j
  rw[l,eq] at s
  have s:some (u.d,u.f)=some q:=s
  refine #[y,N,by injection b with b;injection b,?_]
  rw[M,show u.f=q.2 by injection s with s;rw[<- s]]
  exact hf
 refine #[g2,#[by rw[I];exact w.len,λi=>?_,λi u h=>?_,λi u h=>?_,λu hu=>?_,λi k a b n ha E=>?_,λi a h b E=>?_,r.tt.sublist ((List.Sublist.refl R).append (GW _ T)),r.base,w.pro,#[λu hu hf=>?_,λi u h σ hf a X=>?_,r.fx.bin,λb o E=>?_,λi u h I=>?_]]]
 .show (match inv i with | some j=>gC j | none=>g i).map _=_
  cases ρ:inv i with
  | none=>rw[h2 i (A i ρ)];exact w.sl i
  | some j =>
   obtain ⟨p,q,a,b,c,_⟩:=h3 j i (B i j ρ)
   rw[c,<- b];exact r.sl j
 .rcases val i u h with ⟨j,p,q,t,l,_⟩ | ⟨C,e⟩
  .exact back i j u t l
  .exact w.sv i u e
 .rcases val i u h with ⟨j,p,q,t,l,_⟩ | ⟨C,e⟩
  .have ok:=r.okS j u l
   exact #[ok.rep,ok.own,ok.src]
  .have ok:=r.okT u (GL _ (GK _ (out i u C e)))
   exact #[ok.rep,ok.own,ok.src]
 .have ok:=r.okT u (by
   rcases GQ.mp hu with q | q
   .exact GK _ q
   .exact GL _ (GL _ q))
  exact #[ok.rep,ok.own,ok.src]
 .rcases val i a ha with ⟨j,p,q,t,l,_⟩ | ⟨C,e⟩
  .rcases val k b E with ⟨φ,p',q',F,D,_⟩ | ⟨L,P⟩
   .exact r.ss j φ a b (λz=>n (by subst z;rw[t] at F;injection F with z;injection z)) l D
   .exact (r.st j a l b (GL _ (GK _ (out k b L P)))).1
  .rcases val k b E with ⟨φ,p',q',F,D,_⟩ | ⟨L,P⟩
   .exact (r.st φ b D a (GL _ (GK _ (out i a C e)))).2
   .exact w.ss i k a b n e P
 .have V:b∈R++(sU ix Z.length g++T):=by
   rcases GQ.mp E with q | q
   .exact GK _ q
   .exact GL _ (GL _ q)
  rcases val i a h with ⟨j,p,q,t,l,_⟩ | ⟨C,e⟩
  .exact r.st j a l b V
  .rcases GQ.mp E with q | q
   .exact ((List.pairwise_append.mp r.tt).2.2 b q a (GK _ (out i a C e))).symm
   .exact w.st i a e b q
 .rcases GQ.mp hu with q | q
  .exact absurd (hR u q) hf
  .exact w.fx.frT u q hf
 .rcases val i u h with ⟨j,p,q,t,l,ep,eq,S⟩ | ⟨C,e⟩
  .obtain ⟨y,N,O,M⟩:=J i j u p q t l ep eq S
   refine w.fx.frS i y N σ (λz=>hf ?_) a (by rw[O];exact X)
   rcases M with h | h
   .rw[h];exact z
   .exact h
  .exact w.fx.frS i u e σ hf a X
 .obtain ⟨o',ho⟩:=w.fx.ob b o E
  have h0:=hH b o' ho
  by_cases q:G.bw b
  .exact r.fx.bin b q
  .exact #[o',r.base b o' h0 q]
 .rcases val i u h with ⟨j,p,q,t,l,ep,eq,S⟩ | ⟨C,e⟩
  .obtain ⟨y,N,O,M⟩:=J i j u p q t l ep eq S
   rw[<- O]
   refine w.fx.lvS i y N ?_
   rcases M with h | h
   .rw[<- h];exact I
   .rw[h] at I;cases I
  .exact w.fx.lvS i u e I
theorem wZ {J:It} {H1:Hp} {ys els:List It3} {ds:List D} {bnd:D->Sto->Option Sto} {c:M3 Bool} {elt:EM} {tg:TG} {tc:TT} {te:TE} {Gc:Gm} {a:List It3} {g:List D} {τρ τρ':Sto} {gC:Nat->Option It3} {ρ:List V->Hp->Prop} {M:Addr->Prop}
  (hz:(16777216:Nat)=sizeLine) (G:∀ x∈els,x∈a/\x.f=.z)
  (T:∀ H',(∀ b o,H1 b=some o->¬ Gc.bw b->H' b=some o)->(∀ (i:Nat) (d:D),ds[i]?=some d->J.go i H'/\∀ x F,J.yld i H' x F->∃ w,New K H' F (dC els) w/\w.d=d/\w.f=.z/\w.v=x)/\J.stop ds.length H')
  (h0:Gc.H0=H1) (hb:Bnd K Gc.pr tg bnd) (ab:∀ Y H Q,tT K Gc (λ_ _=>False) c Y H Q->tc Y H Q) (ar:∀ Y H Q,tE K Gc (λ_ _=>False) elt Y H Q->te Y H Q)
  (hlen:ds.length < 16777216) (w:Wf K Gc H1 τ τρ a gC) (e:bG bnd c elt ds τρ=some (.ok g,τρ'))
  (hZ:∀ (us:List It3) (τ':St) (H':Hp) (g':Nat->Option It3),(∀ x∈us,x.f=.z)->us.map (·.d)=g->Wf K Gc H' τ' τρ' (us++a) g'->ρ (us.map (·.v)) H'):rX J tg tc te ρ τ H1:=by
 refine #[λi m X τ' H'=>i<=ds.length/\m=ds.length - i/\X.length<=i/\∃ (us:List It3) (Z2:Sto) (g2:Nat->Option It3) (r:List D),(∀ x∈us,x.f=.z)/\us.map (·.v)=X/\Wf K Gc H' τ' Z2 (us++a) g2/\bG bnd c elt (ds.drop i) Z2=some (.ok r,τρ')/\us.map (·.d)++r=g,#[_,Nat.zero_le _,rfl,GZ _,[],τρ,gC,g,λ_ h=>(by cases h),rfl,w,e,rfl],?_]
 rintro i m X τ1 H2 ⟨hi,rfl,ax,us,Z2,g2,r,s,t,O,N,j⟩
 refine #[by lia,?_]
 obtain ⟨P,q⟩:=T H2 λb o S hn=>O.base b o (by rw[h0];exact S) hn
 by_cases k:i < ds.length
 .obtain ⟨d,hd⟩:∃ d,ds[i]?=some d:=#[_,GO k]
  have n:ds.drop i=d::ds.drop (i+1):=by
   rw[List.drop_eq_getElem_cons k]
   rw[GO k] at hd
   cases hd;rfl
  rw[n] at N
  obtain ⟨go,yld⟩:=P i d hd
  refine .inr ⟨go,λA τ5 σ=>A.length<=i+1/\∃ (us:List It3) (Z5:Sto) (φ:Nat->Option It3) (r:List D),(∀ x∈us,x.f=.z)/\us.map (·.v)=A/\Wf K Gc σ τ5 Z5 (us++a) φ/\bG bnd c elt (ds.drop (i+1)) Z5=some (.ok r,τρ')/\us.map (·.d)++r=g,
   λA τ5 σ ⟨W,h5⟩=>⟨ds.length - (i+1),by lia,k,rfl,W,h5⟩,λx F E=>?_⟩
  obtain ⟨u,nu,ud,uf,uv⟩:=yld x F E
  have w3:Wf K Gc F τ1 Z2 (u::(us++a)) g2:=O.push nu λc hc=>O.alls (ys:=els) (λy E=>#[.inr (GL _ (G y E).1),(G y E).2]) hc
  have I:(match bnd d Z2 with
   | none=>none
   | some τ1=>ag c (λb=>if b then ag elt (λr=>ag (fm r) λp=>ag (bG bnd c elt (ds.drop (i+1))) λl=>aY (p.1::l)) else bG bnd c elt (ds.drop (i+1))) τ1)=some (.ok r,τρ'):=N
  cases R:bnd d Z2 with
  | none=>rw[R] at I;exact nsE I
  | some Z3 =>
   rw[R] at I
   dsimp only at I
   rw[<- uv]
   refine hb Gc F τ1 Z2 Z3 _ g2 u _ rfl uf w3 (by rw[ud];exact R) λτ4 g4 w4=>?_
   refine ab _ _ _ (tT.seq (Le.refl K Gc _) w4 I (λx hx=>by cases hx) λb Z5 L σ φ w5=>?_)
   cases b with
   | false =>
    simp only[Hi,if_false] at L ⊢
    exact #[by lia,us,Z5,φ,r,s,t,w5,L,j]
   | true =>
    simp only[if_true] at L ⊢
    refine ar _ _ _ (tE.seq (Le.refl K Gc _) w5 L (λx hx=>by cases hx) λra Z6 e6 v H6 #[Ts,g6,w6,a6]=>?_)
    obtain ⟨p,Z7,g7,C,B,w7,f1,f2,_,f3⟩:=a6.take w6 e6
    have w8:=Wf.lowT (Ts:=[C]) w7
    unfold ag at B
    cases e8:bG bnd c elt (ds.drop (i+1)) Z7 with
    | none=>rw[e8] at B;exact nsE B
    | some pr =>
     obtain ⟨o,Z8⟩:=pr
     rw[e8] at B
     cases o with
     | error x=>cases B
     | ok l =>
      cases B
      refine #[by rw[Hc];simp;lia,us++[dw C],Z7,g7,l,λy E=>?_,by rw[List.map_append,t,<- f3];rfl,?_,e8,?_]
      .rcases GQ.mp E with h | h
       .exact s y h
       .rw[Hh.mp h];rfl
      .exact w8.perm (by
        show ([dw C]++(us++a)).Perm (us++[dw C]++a)
        rw[<- List.append_assoc]
        exact (List.perm_append_comm).append_right a)
      .rw[List.map_append,List.append_assoc]
       show us.map (·.d)++((dw C).d::l)=g
       rw[show (dw C).d=p.1 from f1]
       exact j
 .have ei:i=ds.length:=by lia
  subst ei
  rw[List.drop_length] at N
  cases N
  rw[List.append_nil] at j
  subst t
  exact .inl #[q,hZ us τ1 H2 g2 s j O]
end
section
variable {K:FG} {G G0:Gm} {W W0:D->Sto->Prop} {H H':Hp} {Y τ:St} {Z Z':Sto} {T T':List It3} {g:Nat->Option It3} {x y z:It3} {α β:Type} {ix:List (Option Nat)}
def bx (ix:List (Option Nat)):Gm:=#[λ_=>none,λ_=>False,λj=>((ix[j]?).join).isSome,[],λ_=>none,λ_=>False,λ_=>none]
abbrev noX:D->Sto->Prop:=λ_ _=>False
theorem u6 (h:G1.pr=(bx ix).pr) (le:Le K G W G1 noX):Le K G W (bx ix) noX:=⟨le.pr.trans h,λH Y Z T g e w q=>by
 obtain ⟨_,_,_,_,f⟩:=le.ex H Y Z T g e w q
 exact f.elim⟩
theorem AU (h:G1.pr=(bx ix).pr) (q:tE K G1 noX m Y H Q):tE K (bx ix) noX m Y H Q:=by
 obtain ⟨G,W,le,r⟩:=q
 exact #[G,W,u6 h le,r]
theorem AM (h:G1.pr=(bx ix).pr) (q:tT K G1 noX m Y H Q):tT K (bx ix) noX m Y H Q:=by
 obtain ⟨G,W,le,r⟩:=q
 exact #[G,W,u6 h le,r]
def b9:M3 Bool:=aY true
theorem DH (h:tT K G0 W0 b9 Y H Q):tYes Y H Q:=by
 refine h.use λG W le Z T g o Z' w e q=>?_
 cases e
 exact q _ _ w
set_option tactic.hygienic true in
theorem km:∀ {ds a:List D} {τρ τρ':Sto},bG bnd c elt ds τρ=some (.ok a,τρ')->a.length<=ds.length
 | [],a,τρ,τρ',e=>by cases e;exact GZ _
 | d::ds,a,τρ,τρ',e=>by
  unfold bG at e
  split at e
  .exact nsE e
  .rename_i τ1 _
   unfold ag at e
   split at e
   .exact nsE e
   .cases e
   .rename_i b τ2 _
    cases b with
    | false =>
     simp only[Hi,if_false] at e
     have:=km e
     simp;lia
    | true =>
     simp only[if_true] at e
     split at e
     .exact nsE e
     .cases e
     .split at e
      .exact nsE e
      .cases e
      .split at e
       .exact nsE e
       .cases e
       .rename_i l τ5 f
        cases e
        have:=km f
        simp;lia
set_option tactic.hygienic true in
theorem rz (hz:(16777216:Nat)=sizeLine) (t:Inj ix) (φ:Bnd K (bx ix).pr tg bnd) (le:Le K G W G0 W0) (w:Wf K G H Y Z T g) (e:bE im bnd c elt ix Z=some (o,Z')) (he:∀ x,o=.error x->W x Z') (hZ:∀ (us:List It3) (H':Hp) (g':Nat->Option It3) (Ts:List It3) (ds:List D),o=.ok (.val (.lst ds) .u)->(∀ x∈us,x.f=.z)->us.map (·.d)=ds->us.length<=16777216->Wf K G H' Y Z' (us++T) g'->ρ (us.map (·.v)) H') :
  tI K G0 W0 im Y H λJ H1=>rX J tg (tT K (bx ix) noX c) (tE K (bx ix) noX elt) ρ (cap ix Y) H1:=by
 refine tI.seq le w e he λp Z1 e1=>?_
 intro J H1 vs Ts g1 ys m a1 F hw
 have C:=us_u (is:=pls p.1) m
 have O:∀ i y,i∈pls p.1->g1 i=some y->y.f=.u->i∈us Z1 (pls p.1):=λi y hi X hf=>xA m hi X hf
 generalize us Z1 (pls p.1)=is at e1 C O
 have w2:=m.enter is
 obtain ⟨els,k,walk⟩:=hw
 have hM:∀ b,(∃ j y,j ∉ is/\g1 j=some y/\y.f=.u/\y.v=.ref b)->MutAt H1 b:=λb #[j,y,_,X,hf,n]=>by
  obtain ⟨_,a,L',v1,v2,_⟩:=(m.okS j y X).own (by rw[hf];intro q;cases q)
  rw[n] at v1;cases v1
  exact (m.okS j y X).rep.inH b (by rw[v2];exact GG)
 have A:∀ y∈ys,∀ b∈y.L,¬ ∃ j y,j ∉ is/\g1 j=some y/\y.f=.u/\y.v=.ref b:=λy I b φ #[j,y',nj,l,hf,n]=>by
  have B:y'.f≠.z:=by rw[hf];intro q;cases q
  rcases F y I with ⟨i,hi,P⟩ | I
  .by_cases ij:i=j
   .subst ij
    rw[P] at l;cases l
    exact nj (O i y hi P hf)
   .exact m.ss j i y' y (Ne.symm ij) l P B b n φ
  .exact (m.st j y' l y (GK _ I)).1 B b n φ
 have S:∀ y∈ys,Itm (Ts++T) g1 y:=λy I=>by
  rcases F y I with ⟨i,_,P⟩ | h
  .exact .inl #[i,P]
  .exact .inr (GK _ h)
 have kid:∀ x∈els,∀ c∈x.L,dX ((Ts++T).map bt) (λj=>if j∈is then (g1 j).map bt else g1 j) c/\(H1 c=none\/(G.H0 c=none\/G.src c)):=λx r c hc=>by
  obtain ⟨nr,sr⟩:=m.kids S ((k x r).2.2 c hc)
  refine #[#[λi z s hf n=>?_,λz hz hf n=>?_],.inr sr]
  .have s:(if i∈is then (g1 i).map bt else g1 i)=some z:=s
   by_cases q:i∈is
   .rw[if_pos q] at s
    obtain ⟨z0,e0,e1⟩:=GJ.mp s
    subst e1
    exact nr.1 i z0 e0 (λq=>hf (lentF_z.mpr q)) n
   .rw[if_neg q] at s
    exact nr.1 i z s hf n
  .obtain ⟨z0,h0,rfl⟩:=GX.mp hz
   exact nr.2 z0 h0 (λq=>hf (lentF_z.mpr q)) n
 have w3:Wf K (eE G H1 g1 is) H1 Y (aJ cR is Z1) (els++(Ts++T).map bt) (λj=>if j∈is then (g1 j).map bt else g1 j):=w2.pushAll λx r=>#[(k x r).1,(k x r).2.1,λc hc=>kid x r c hc]
 have w4:=w3.cap t
 cases V:bG bnd c elt p.2 (tV ix (aJ cR is Z1)) with
 | none=>rw[V] at e1;exact nsE e1
 | some rr =>
  obtain ⟨o2,τρ⟩:=rr
  rw[V] at e1
  cases o2 with
  | error x=>exact nsE e1
  | ok ds =>
   dsimp only at e1
   split at e1
   .rename_i hlen
    cases e3:uncap ix τρ (aJ cR is Z1) with
    | none=>rw[e3] at e1;exact nsE e1
    | some Z3 =>
     rw[e3] at e1
     have σ:o=.ok (.val (.lst ds) .u)/\Z'=aJ gi is Z3:=by cases e1;exact #[rfl,rfl]
     obtain ⟨σ,eρ⟩:=σ
     refine wZ (K:=K) (Gc:=Ao (eE G H1 g1 is) ix Y) (els:=els) (M:=λ_=>False) (ys:=ys) hz (λx r=>#[GL _ (GK _ r),(k x r).1]) (λH' hk=>walk _ H' hM hk A) rfl φ (λY' H Q q=>AM (G1:=Ao (eE G H1 g1 is) ix Y) rfl q) (λY' H Q q=>AU (G1:=Ao (eE G H1 g1 is) ix Y) rfl q) hlen w4 V λus τ' H' g' E N w5=>?_
     obtain ⟨g6,w6⟩:=Wf.uncap w3 (λb o h=>h) t e3 E w5
     have w7:=Wf.leave (T:=Ts++T) (T':=T) (R:=us) m C (GW Ts T) (w6.sub ((List.Sublist.refl us).append (by
      rw[List.map_append]
      exact (GW (Ts.map bt) (T.map bt)).trans (GW els _))))
     have hle:us.length<=16777216:=by
      have h1:us.length=ds.length:=by rw[<- N,GS]
      have h2:=km V
      lia
     rw[<- eρ] at w7
     exact hZ us H' _ Ts ds σ E N hle w7
   .exact nsE e1
theorem nV {us:List It3} (w:Wf K G H Y Z (us++T) g) (j:∀ x∈us,x.f=.z) (b:H p=none) :
  Wf K G (upd H p (.lst (us.map (·.v)))) Y Z (#[.lst (us.map (·.d)),.ref p,p::(us.map (·.L)).flatten,.u]::T) g:=by
 have hi:∀ y∈us,Itm (us++T) g y/\y.f=.z:=λy i=>#[.inr (GK _ i),j y i]
 have np:p ∉ (us.map (·.L)).flatten:=λa=>by
  obtain ⟨y,hm,a⟩:=ft a
  obtain ⟨o,k⟩:=((w.itm (hi y hm).1).rep.inH p a).ex
  rw[b] at k;exact nsE k
 have n:New K H (upd H p (.lst (us.map (·.v)))) (dC us) ⟨.lst (us.map (·.d)),.ref p,p::(us.map (·.L)).flatten,.u⟩:=⟨ba b,.lst aD ((lb λy i=>(w.itm (hi y i).1).rep).same (ba b)),λc a=>by
  rcases GN.mp a with e | a
  .rw[e];exact .inl b
  .exact .inr (ft a),λ_=>⟨rfl,p,_,rfl,rfl,np,b⟩⟩
 exact (w.push n λc h=>w.alls hi h).sub (List.Sublist.cons_cons _ (GW us T))
theorem AW (hz:(16777216:Nat)=sizeLine) (a:Inj ix) (i:Bnd K (bx ix).pr tg bnd) (h:tE K G0 W0 (bE im bnd c elt ix) Y H Q) :
  C6 (tI K G0 W0 im) tg (tT K (bx ix) noX c) (tE K (bx ix) noX elt) ix Y H Q:=by
 refine h.use λG W le Z T g o Z' w e q=>?_
 refine rz hz a i le w e q.err λus H' g' Ts ds j b f n m=>?_
 subst j f
 intro p k
 have l:=nV m b k
 exact q (.ref p) _ #[[_],g',l,Ar.val (#[.lst (us.map (·.d)),.ref p,p::(us.map (·.L)).flatten,.u]:It3)]
set_option tactic.hygienic true in
theorem sj {i:Nat} (hz:(16777216:Nat)=sizeLine) (b:Inj ix) (m:Bnd K (bx ix).pr tg bnd) (n:G0.pr i=false) (h:tS K G0 W0 (aV i (bE im bnd c elt ix)) E Y H) :
  Dc i (tI K G0 W0 im) tg (tT K (bx ix) noX c) (tE K (bx ix) noX elt) ix E Y H:=by
 refine h.use λG W le Z T g r Z' w e q=>?_
 unfold aV ag at e
 cases e1:bE im bnd c elt ix Z with
 | none=>rw[e1] at e;exact nsE e
 | some pr =>
  obtain ⟨o,Z1⟩:=pr
  rw[e1] at e
  have a:∀ x,o=.error x->W x Z1:=λx s=>by subst s;cases e;exact q
  refine rz hz b m le w e1 a λus H' g' Ts ds t j k z y=>?_
  subst t k
  intro p l
  have v:=nV y j l
  have e:(if i < Z1.length then some ((.ok .nx,Z1.set i (some (D.lst (us.map (·.d)),Fl.u))):Except D Flw×Sto) else none)=some (r,Z'):=e
  split at e
  .rename_i hi
   cases e
   exact q _ _ _ (v.store (f:=.u) hi (by rw[le.pr];exact n) (.inl rfl) (by intro h;cases h))
  .exact nsE e
end
section
variable {K:FG} {G G0:Gm} {W W0:D->Sto->Prop} {H H':Hp} {Y:St} {Z Z':Sto} {T T':List It3} {g:Nat->Option It3} {x y z:It3} {α β:Type}
theorem Wf.mutate {i:Nat} {D:List Addr} (w:Wf K G H Y Z T g) (B:g i=some y) (hu:y.f=.u) (ev:y.v=.ref a) (hm:jC d'=true) (rep:Rep K (upd H a o') d' (.ref a) (a::D)) (na:a ∉ D) (Q:∀ c∈D,dX T g c/\(G.H0 c=none\/G.src c)):Wf K G (upd H a o') Y (Z.set i (some (d',.u))) T (λj=>if j=i then some #[d',.ref a,a::D,.u] else g j):=by
 have m:y.f≠.z:=by rw[hu];intro q;cases q
 have φ:=w.okS i y B
 obtain ⟨_,a',L',v1,v2,v3,v4⟩:=φ.own m
 rw[ev] at v1;cases v1
 have hi:i < Z.length:=by
  have:=w.sl i
  rw[B] at this
  exact fR this.symm
 have ma:MutAt H a:=φ.rep.inH a (by rw[v2];exact GG)
 have val:∀ j u,(if j=i then some (#[d',.ref a,a::D,.u]:It3) else g j)=some u->(j=i/\u=#[d',.ref a,a::D,.u])\/(j≠i/\g j=some u):=λj u h=>by
  by_cases q:j=i
  .rw[if_pos q] at h;cases h;exact .inl #[q,rfl]
  .rw[if_neg q] at h;exact .inr #[q,h]
 have keep:∀ u,ItOk K G H u->a ∉ u.L->ItOk K G (upd H a o') u:=λu ou hn=>ou.keep (M:=λb=>b=a) (λb o l n=>by rw[ay n];exact l) (λb e=>by rw[e];exact ma) λb l e=>hn (by rw[<- e];exact l)
 have W:∀ j u,j≠i->g j=some u->a ∉ u.L:=λj u n e=>w.ss i j y u (Ne.symm n) B e m a ev
 have V:∀ u∈T,a ∉ u.L:=λu x=>(w.st i y B u x).1 m a ev
 have E:∀ b o,H b=some o->∃ R,upd H a o' b=some R:=λb o l=>by
  by_cases q:b=a
  .rw[q,aD];exact #[_,rfl]
  .rw[ay q];exact #[o,l]
 refine #[by rw[List.length_set];exact w.len,λj=>?_,λj u h=>?_,λj u h=>?_,λu x=>keep u (w.okT u x) (V u x),λj k p q n N hq=>?_,λj u h t F=>?_,w.tt,λb o e n=>?_,w.pro,#[w.fx.frT,λj u h N hf b O=>?_,λb l=>?_,λb o l=>?_,λj u h S=>?_]]
 .rw[cJ hi]
  by_cases q:j=i
  .rw[if_pos q,if_pos q];rfl
  .rw[if_neg q,if_neg q];exact w.sl j
 .rcases val j u h with ⟨rfl,rfl⟩ | ⟨n,h⟩
  .rw[w.sv j y B,ev]
  .exact w.sv j u h
 .rcases val j u h with ⟨rfl,rfl⟩ | ⟨n,h⟩
  .refine #[rep,λ_=>#[hm,a,D,rfl,rfl,na,λ_=>v4 hu],λc d=>?_]
   rcases GN.mp d with e | d
   .rw[e];exact φ.src a (by rw[v2];exact GG)
   .exact (Q c d).2
  .exact keep u (w.okS j u h) (W j u n h)
 .rcases val j p N with ⟨C,ep⟩ | ⟨n1,s⟩
  .rcases val k q hq with ⟨σ,eq⟩ | ⟨ρ,A⟩
   .exact absurd (C.trans σ.symm) n
   .rw[ep]
    intro _ c r
    cases r
    exact W k q ρ A
  .rcases val k q hq with ⟨σ,eq⟩ | ⟨ρ,A⟩
   .rw[eq]
    intro hf c r d
    rcases GN.mp d with e | d
    .obtain ⟨_,b,L2,J,P,_⟩:=(w.okS j p s).own hf
     rw[r] at J;cases J
     exact W j p n1 s (by rw[<- e,P];exact GG)
    .exact (Q c d).1.1 j p s hf r
   .exact w.ss j k p q n s A
 .rcases val j u h with ⟨C,I⟩ | ⟨n,h'⟩
  .rw[I]
   refine #[λ_ c r=>by cases r;exact V t F,λhf c r d=>?_]
   rcases GN.mp d with e | d
   .obtain ⟨_,b,L2,J,P,_⟩:=(w.okT t F).own hf
    rw[r] at J;cases J
    exact V t F (by rw[<- e,P];exact GG)
   .exact (Q c d).1.2 t F hf r
  .exact w.st j u h' t F
 .have:b≠a:=λz=>by
   subst z
   rcases v4 hu with h | h
   .rw[e] at h;cases h
   .exact n h
  rw[ay this];exact w.base b o e n
 .rcases val j u h with ⟨C,I⟩ | ⟨n,h'⟩
  .subst C
   rw[I] at O
   cases O
   exact w.fx.frS j y B N m a ev
  .exact w.fx.frS j u h' N hf b O
 .obtain ⟨o,X⟩:=w.fx.bin b l
  exact E b o X
 .obtain ⟨o2,X⟩:=w.fx.ob b o l
  exact E b o2 X
 .rcases val j u h with ⟨C,I⟩ | ⟨n,h'⟩
  .rw[I] at S;cases S
  .exact w.fx.lvS j u h' S
def MutD (K:FG) (r:V->List V->Hp->VK->Prop) (f:D->List D->Option (D×D)):Prop:=∀ (a:Addr) (d:D) (b:List Addr) (as:List It3) (H:Hp) (Q:VK) (p:D×D),Rep K H d (.ref a) (a::b)->jC d=true->a ∉ b->(∀ x∈as,Rep K H x.d x.v x.L)->(∀ x∈as,a ∉ x.L)->f d (as.map (·.d))=some p ->
 (∀ (o':HO) (e:List Addr) (w:It3),Rep K (upd H a o') p.1 (.ref a) (a::e)->jC p.1=true->(∀ c∈e,c∈b\/dC as c)->w.f=.z->w.d=p.2->Rep K (upd H a o') w.d w.v w.L->(∀ c∈w.L,c∈b\/dC as c)->Q w.v (upd H a o'))->r (.ref a) (as.map (·.v)) H Q
def chk (ok:D->Bool) (i:Nat):M3 Unit:=λZ=>match (Z[i]?).join with
 | some (d,_)=>if ok d then some (.ok (),Z) else none
 | none=>none
theorem pH {i:Nat} (e:ag (ac i) k Z=some (r,Z')):∃ p,(Z[i]?).join=some p/\k (.pl i) Z=some (r,Z'):=by
 unfold ag ac at e
 cases q:(Z[i]?).join with
 | none=>rw[q] at e;exact nsE e
 | some p=>rw[q] at e;exact #[p,rfl,e]
theorem Ai {i:Nat} (e:ag (chk ok i) k Z=some (r,Z')):(∀ p,(Z[i]?).join=some p->ok p.1=true)/\k () Z=some (r,Z'):=by
 unfold ag chk at e
 grind
def qC (ok:D->Bool) (f:D->List D->Option (D×D)) (i:Nat) (ms:M3 (List R3)):EM:=ag (ac i) λ_=>ag (chk ok i) λ_=>ag ms λrs=>ag (gives rs) λds=>λZ=>match (Z[i]?).join with
 | some (d,.u)=>match f d ds with
  | some p=>some (.ok (.val p.2 .z),Z.set i (some (p.1,.u)))
  | none=>none
 | _=>none
theorem Wf.changed {i:Nat} {as us:List It3} (W:MutD K r f) (w:Wf K G H Y Z (us++T) g) (e:(Z[i]?).join=some (d,.u)) (hv:Y[i]?=some (some v)) (D:∀ y∈as,Itm (us++T) g y/\y.f=.z) (R:f d (as.map (·.d))=some p) (q:∀ v H',Got K G Y (Z.set i (some (p.1,.u))) T (.val p.2 .z) v H'->Q v H'):r v (as.map (·.v)) H Q:=by
 obtain ⟨y,B,M,O,o⟩:=w.slot e
 rw[hv] at o
 injection o with o
 injection o with o
 have n:y.f≠.z:=by rw[O];intro q;cases q
 have F:=w.okS i y B
 obtain ⟨m,a,E,v1,v2,N,_⟩:=F.own n
 have ra:=F.rep
 rw[v1,v2,M] at ra
 rw[M] at m
 rw[o,v1]
 have na:∀ x∈as,a ∉ x.L:=λx t b=>by
  have:=(w.kid (D x t).1 b λhf=>absurd (D x t).2 hf).1 i y B n
  exact this v1
 refine W a d E as H Q p ra m N (λx t=>(w.itm (D x t).1).rep) na R λo' P u φ X s1 I S σ A=>?_
 have k:∀ c,(c∈E\/dC as c)->dX (us++T) g c/\(G.H0 c=none\/G.src c):=λc b=>by
  rcases b with b | b
  .have C:c∈y.L:=by rw[v2];exact GH _ b
   exact #[w.kid (.inl #[i,B]) C λ_ l=>by rw[v1] at l;cases l;exact N b,F.src c C]
  .exact w.alls D b
 have J:∀ c,(c∈E\/dC as c)->c≠a:=λc b z=>(k c b).1.1 i y B n (by rw[z];exact v1)
 have V:=w.mutate (o':=o') B O v1 X φ (λh=>J a (s1 a h) rfl) λc b=>k c (s1 c b)
 have ρ:=V.pushAll (ws:=[u]) λx t=>by
  rw[Hh.mp t]
  refine #[I,σ,λc b=>?_]
  have s:=k c (A c b)
  refine #[#[λj z l hf hz=>?_,s.1.2],s.2]
  have l:(if j=i then some (#[p.1,.ref a,a::P,.u]:It3) else g j)=some z:=l
  by_cases q:j=i
  .rw[if_pos q] at l
   cases l
   cases hz
   exact J a (A a b) rfl
  .rw[if_neg q] at l
   exact s.1.1 j z l hf hz
 rw[<- S,<- I] at q
 exact q u.v _ #[[u],_,ρ.sub ((List.Sublist.refl [u]).append (GW us T)),.val u]
theorem DY {i:Nat} (C:MutD K r f) (hok:∀ d v L H,ok d=true->Rep K H d v L->tyV K Ty v H) (h:tE K G0 W0 (qC ok f i ms) Y H Q):tBM K Ty r (vR i) (tA K G0 W0 ms) Y H Q:=by
 refine h.use λG W le Z T g o Z' w e q=>?_
 obtain ⟨s,k,e⟩:=pH e
 obtain ⟨t,e⟩:=Ai e
 obtain ⟨m,f0⟩:=s
 obtain ⟨y,E,D,J,j⟩:=w.slot k
 refine #[y.v,j,hok m y.v y.L H (t _ k) (by rw[<- D];exact (w.okS i y E).rep),?_]
 refine tA.seq le w e q.err λrs Z1 e1 I H1 Ts g1 A a1=>?_
 obtain ⟨ds,Z2,g2,a,_,F,_,ys,x,f1,f2⟩:=a1.gives A e1
 subst f1 f2
 cases b:(Z2[i]?).join with
 | none=>rw[b] at a;exact nsE a
 | some p3 =>
  obtain ⟨n,B⟩:=p3
  rw[b] at a
  cases B with
  | u =>
   dsimp only at a
   cases c:f n (ys.map (·.d)) with
   | none=>rw[c] at a;exact nsE a
   | some p =>
    rw[c] at a
    cases a
    exact F.changed C b j x c q
  | l=>exact nsE a
  | z=>exact nsE a
def lP (t:V->V->V->Hp->(Hp->Prop)->Prop):V->List V->Hp->VK->Prop:=λx a H Q=>∃ k v,a=[k,v]/\t x k v H λH'=>Q .non H'
def kO (f:D->List D->Option (D×D)) (i:Nat) (mk b:EM):SM:=ag b λa=>ag (ac i) λ_=>ag mk λc=>ag (gives [c,a]) λds=>λZ=>match (Z[i]?).join with
 | some (d,.u)=>match f d ds with
  | some p=>some (.ok .nx,Z.set i (some (p.1,.u)))
  | none=>none
 | _=>none
theorem DK {i:Nat} (I:MutD K (lP t) f) (h:tS K G0 W0 (kO f i mk mv) E Y H):xM (tE K G0 W0 mv) (gSub (vR i) (tE K G0 W0 mk) t) E Y H:=by
 refine h.use λG W le Z T g r Z' w e q=>?_
 refine tE.seq le w e q.err λL Z1 e1 v H1 #[Ts,g1,m,a1]=>?_
 obtain ⟨o,x,e1⟩:=pH e1
 obtain ⟨X,f0⟩:=o
 obtain ⟨y,y1,σ,ρ,k⟩:=m.slot x
 refine #[y.v,k,?_]
 .refine tE.seq le m e1 q.err λS Z2 B O H2 #[Us,g2,P,a2]=>?_
  have M:Ars Y [S,L] [O,v] (([]++Ts)++Us):=.cons a2 (.cons a1 .nil)
  have F:Wf K G H2 Y Z2 ((([]++Ts)++Us)++T) g2:=P.perm (by
   rw[List.nil_append,<- List.append_assoc]
   exact (List.perm_append_comm).append_right T)
  obtain ⟨ds,Z3,g3,a,_,N,_,ys,s,f1,f2⟩:=M.gives F B
  subst f1
  cases b:(Z3[i]?).join with
  | none=>rw[b] at a;exact nsE a
  | some p3 =>
   obtain ⟨n,C⟩:=p3
   rw[b] at a
   cases C with
   | u =>
    dsimp only at a
    cases j:f n (ys.map (·.d)) with
    | none=>rw[j] at a;exact nsE a
    | some p =>
     rw[j] at a
     cases a
     have:=N.changed (Q:=λ_ H'=>E.nx Y H') I b k s j λA H' #[R,V,D,φ]=>q _ _ _ (D.sub (GW R T))
     rw[f2] at this
     obtain ⟨k',A,c,J⟩:=this
     cases c
     exact J
   | l=>exact nsE a
   | z=>exact nsE a
end
structure RE (X:Cx) (G0:Gm) (W0:D->Sto->Prop) (e:Expr) (m:EM):Prop where
 h:PE X e (tE X.K G0 W0 m)
structure RT (X:Cx) (G0:Gm) (W0:D->Sto->Prop) (e:Expr) (m:M3 Bool):Prop where
 h:PT X e (tT X.K G0 W0 m)
structure RW (X:Cx) (G0:Gm) (W0:D->Sto->Prop) (e:Expr) (m:M3 Bool):Prop where
 h:PW X e (tT X.K G0 W0 m)
structure RA (X:Cx) (G0:Gm) (W0:D->Sto->Prop) (es:List Expr) (m:M3 (List R3)):Prop where
 h:PA X es (tA X.K G0 W0 m)
structure RS (X:Cx) (G0:Gm) (W0:D->Sto->Prop) (s:Stmt) (m:SM):Prop where
 h:PS X s (tS X.K G0 W0 m)
structure RSs (X:Cx) (G0:Gm) (W0:D->Sto->Prop) (s:List Stmt) (m:SM):Prop where
 h:PSs X s (tS X.K G0 W0 m)
structure RI (X:Cx) (G0:Gm) (W0:D->Sto->Prop) (tg iter:Expr) (m:IM):Prop where
 h:PI X tg iter (tI X.K G0 W0 m)
structure RG (X:Cx) (pr:Nat->Bool) (target:Expr) (bnd:D->Sto->Option Sto):Prop where
 h:∃ tg,PG X target tg/\Bnd X.K pr tg bnd
structure RGs (X:Cx) (pr:Nat->Bool) (targets:List Expr) (bnd:List D->Sto->Option Sto):Prop where
 h:∃ tg,PGs X targets tg/\AH X.K pr tg bnd
theorem PE.imp (h:PE X e t) (f:∀ Y H Q,t' Y H Q->t Y H Q):PE X e t':=λpins s Y H Q I q=>h pins s Y H Q I (f Y H Q q)
theorem PT.imp (h:PT X e t) (f:∀ Y H Q,t' Y H Q->t Y H Q):PT X e t':=λpins s Y H Q I q=>h pins s Y H Q I (f Y H Q q)
theorem PW.imp (h:PW X e t) (f:∀ Y H Q,t' Y H Q->t Y H Q):PW X e t':=λa pins s Y H Q I q=>h a pins s Y H Q I (f Y H Q q)
theorem PA.imp (h:PA X e t) (f:∀ Y H Q,t' Y H Q->t Y H Q):PA X e t':=λpos pins s Y H Q I q=>h pos pins s Y H Q I (f Y H Q q)
theorem PS.imp (h:PS X e t) (f:∀ D Y H,t' D Y H->t D Y H):PS X e t':=λpins s Y H D I q=>h pins s Y H D I (f D Y H q)
theorem PSs.imp (h:PSs X e t) (f:∀ D Y H,t' D Y H->t D Y H):PSs X e t':=λpins s Y H D I q=>h pins s Y H D I (f D Y H q)
theorem PI.imp (h:PI X tg e t) (f:∀ Y H R,t' Y H R->t Y H R):PI X tg e t':=λpins s Y H R I q=>h pins s Y H R I (f Y H R q)
theorem szl:(16777216:Nat)=sizeLine:=by rw[sizeLine_eq]
section
variable {X:Cx} {G0:Gm} {W0:D->Sto->Prop} {a b c e:Expr} {es:List Expr} {pos:Pos} {ma mb mc m:EM} {ms:M3 (List R3)} {t u:M3 Bool} {dq:List Expr}
theorem oC (i:Nat) (c:X.N[i]?=some x) (b:Vis X.env.scope x) (hd:(x == ("__debug__":Str))=false) (a:(x == ("__classdict__":Str))=false):RE X G0 W0 (.Name x pos) (ac i):=#[PE.imp (lV c b hd a) λ_ _ _ h=>DU h]
theorem EH:RE X G0 W0 (.Constant (.int i) j pos) (mC (.int i)):=#[PE.imp oJ λ_ _ _ h=>gk (λ_=>.int i) h]
theorem re_bl:RE X G0 W0 (.Constant (.bool i) j pos) (mC (.bl i)):=#[PE.imp pe_bl λ_ _ _ h=>gk (λ_=>.bl i) h]
theorem EF:RE X G0 W0 (.Constant .none j pos) (mC .non):=#[PE.imp E8 λ_ _ _ h=>gk (λ_=>.non) h]
theorem EC:RE X G0 W0 (.Constant (.str i) j pos) (mC (.str i)):=#[PE.imp yZ λ_ _ _ h=>gk (λ_=>.str i) h]
theorem p8 {i:Int} (a:Gl X x) (hm:X.mg x=some (.int i tk)) (hd:(x == ("__debug__":Str))=false):RE X G0 W0 (.Name x pos) (mC (.int i)):=#[PE.imp (BO (v:=V.int i) a hm #[_,rfl] hd) λ_ _ _ h=>gk (λ_=>.int i) h]
theorem j3 (c:OpR X (binaryOp op) r) (hd:OpD X.K r f) (e:RE X G0 W0 a ma) (d:RE X G0 W0 b mb):RE X G0 W0 (.BinOp a op b pos) (ah f ma mb):=#[PE.imp (pe_op c e.h d.h) λ_ _ _ h=>n9 hd h]
theorem re_un (b:UnR X (unaryOp op) r) (hd:UnD X.K r f) (c:RE X G0 W0 a ma):RE X G0 W0 (.UnaryOp op a pos) (mUn f ma):=#[PE.imp (pe_un b c.h) λ_ _ _ h=>C4 hd h]
theorem oF (c:OpR X (compareOp op) r) (hd:OpD X.K r f) (e:RE X G0 W0 a ma) (d:RE X G0 W0 b mb) (hm:behindInMarks op b=false):RE X G0 W0 (.Compare a [op] [b] pos) (ah f ma mb):=#[PE.imp (BQ c e.h d.h hm) λ_ _ _ h=>n9 hd h]
theorem re_ix (c:IxR X r) (hd:OpD X.K r f) (e:RE X G0 W0 a ma) (d:RE X G0 W0 b mb) (g:vK b):RE X G0 W0 (.Subscript a b pos) (ah f ma mb):=#[PE.imp (pe_ix c e.h d.h g) λ_ _ _ h=>n9 hd h]
theorem EK (d:RE X G0 W0 a ma) (c:RE X G0 W0 (.BoolOp .And (b::dq) pos) mb):RE X G0 W0 (.BoolOp .And (a::b::dq) pos) (iJ ma mb):=#[PE.imp (Fd d.h c.h) λ_ _ _ h=>Ea h]
theorem ED (h:RE X G0 W0 a ma):RE X G0 W0 (.BoolOp op [a] pos) ma:=#[E6 h.h]
theorem EE (b:RE X G0 W0 a ma):RE X G0 W0 (.UnaryOp .Not a pos) (Cn ma):=#[PE.imp (E7 b.h) λ_ _ _ h=>DX h]
theorem re_if (d:RT X G0 W0 c t) (f:RE X G0 W0 a ma) (e:RE X G0 W0 b mb):RE X G0 W0 (.IfExp c a b pos) (mIf t ma mb):=#[PE.imp (y7 d.h f.h e.h) λ_ _ _ h=>tE_if h]
def j5 (f b:D->D->Option (D×Fl)) (ma mb mc:EM):EM:=ag ma λra=>ag mb λrb=>ag (der ra) λda=>ag (der rb) λdb=>ag (a9 ((f da db).bind λp=>asB p.1)) λk=>if k then ag mc λrc=>ag (der rb) λdb=>ag (der rc) λa=>a9 ((b db a).map λp=>R3.val p.1 p.2) else aY (.val (.bl false) .z)
theorem Et (b:RE X G0 W0 a ma) (he:∀ whole,isTrue a X.env whole=(do let v <- whole;standAt a.pos;holding [v] (truthy v))):RT X G0 W0 a (cB ma):=#[PT.imp (EV b.h he) λ_ _ _ h=>tT_b h]
theorem rt_w (h:RW X G0 W0 a t):RT X G0 W0 a t:=#[h.h.pt]
theorem A7 (b:RT X G0 W0 a t):RW X G0 W0 (.BoolOp .And [a] pos) t:=#[BA b.h]
theorem Ep (b:RT X G0 W0 a t):RW X G0 W0 (.BoolOp .Or [a] pos) t:=#[ES b.h]
theorem Er (d:RT X G0 W0 a t) (c:RW X G0 W0 (.BoolOp .And (b::dq) pos) u):RW X G0 W0 (.BoolOp .And (a::b::dq) pos) (rO t u):=#[PW.imp (ET d.h c.h) λ_ _ _ h=>DJ h]
theorem rw_or (d:RT X G0 W0 a t) (c:RW X G0 W0 (.BoolOp .Or (b::dq) pos) u):RW X G0 W0 (.BoolOp .Or (a::b::dq) pos) (cOr t u):=#[PW.imp (pw_or d.h c.h) λ_ _ _ h=>tT_or h]
theorem Eu (b:RT X G0 W0 a t):RT X G0 W0 (.UnaryOp .Not a pos) (fj t):=#[PT.imp (EW b.h) λ_ _ _ h=>DI h]
theorem EN:RA X G0 W0 [] ai:=#[PA.imp oN λ_ _ _ h=>xN h]
theorem Bx (b:RE X G0 W0 e m) (a:RA X G0 W0 es ms) (c:starEach (e::es) X.env=(false,eval e X.env)::starEach es X.env):RA X G0 W0 (e::es) (aa m ms):=#[PA.imp (jr b.h a.h c) λ_ _ _ h=>ut h]
theorem EB (h:RA X G0 W0 es ms):RE X G0 W0 (.Tuple es x1 pos) (bM ms):=#[PE.imp (yY h.h) λ_ _ _ h=>DW szl h]
theorem EG (h:RA X G0 W0 es ms):RE X G0 W0 (.List es pos) (cX ms):=#[PE.imp (E9 h.h) λ_ _ _ h=>DZ szl h]
theorem cx {id:String} (g:CallR X (.builtin id) r) (hd:cb X.K r f) (d:Gl X x) (hm:X.mg x=none) (i:bootBuiltins x=some (.builtin id)) (j:RA X G0 W0 (e::es) ms) (c:x≠"__name__") (a:(x == ("__debug__":Str))=false) (he:starEach (e::es) X.env=(false,eval e X.env)::starEach es X.env) (b:(backTo pos (starEach es X.env)).any (·.1)=false):RE X G0 W0 (.Call (.Name x p) (e::es) [] pos) (av f ms):=#[PE.imp (lW g d hm i j.h c a he b) λ_ _ _ h=>lA hd h]
theorem iG (g:CallR X (.type T) r) (hd:cb X.K r f) (d:Gl X x) (hm:X.mg x=none) (i:bootBuiltins x=some (.type T)) (j:RA X G0 W0 (e::es) ms) (c:x≠"__name__") (a:(x == ("__debug__":Str))=false) (he:starEach (e::es) X.env=(false,eval e X.env)::starEach es X.env) (b:(backTo pos (starEach es X.env)).any (·.1)=false):RE X G0 W0 (.Call (.Name x p) (e::es) [] pos) (av f ms):=#[PE.imp (wn g d hm i j.h c a he b) λ_ _ _ h=>lA hd h]
variable {st:Stmt} {sts:List Stmt} {sm sn:SM}
theorem Bh:RSs X G0 W0 [] dH:=#[PSs.imp BG λ_ _ _ h=>DO h]
theorem yp (h1:RS X G0 W0 st sm) (h2:RSs X G0 W0 sts sn):RSs X G0 W0 (st::sts) (aE sm sn):=#[PSs.imp (yP h1.h h2.h) λ_ _ _ h=>DM h]
theorem Bg (h1:RS X G0 W0 st sm):RSs X G0 W0 [st] sm:=#[BF h1.h]
theorem Bi (he:RE X G0 W0 e m) (a:swapsWith e none pos.line X.env=pure false):RS X G0 W0 (.Expr e pos) (jj m):=#[PS.imp (BH he.h a) λ_ _ _ h=>AN h]
theorem Ew (np:Nat) (a:∀ i,np<=i->G0.pr i=false) (he:RE X G0 W0 e m):RS X G0 W0 (.Return (some e) pos) (aN np m):=#[PS.imp (EY he.h) λ_ _ _ h=>DN a h]
theorem rs_if (a:RT X G0 W0 c t) (d:RSs X G0 W0 x sm) (b:RSs X G0 W0 y sn):RS X G0 W0 (.If c x y pos) (sIf t sm sn):=#[PS.imp (ps_if a.h d.h b.h) λ_ _ _ h=>tS_if h]
theorem yr (i:Nat) (d:X.N.Nodup) (hi:X.N[i]?=some x) (b:Loc X.env.scope x) (he:RE X G0 W0 e m) (c:swapsWith e (some (.Name x pos')) pos.line X.env=pure false) (hf:X.fn x=true\/X.env.scope.names.lookup x=some .local) (a:G0.pr i=false):RS X G0 W0 (.Assign [.Name x pos'] e pos) (aV i m):=#[PS.imp (EX d hi b he.h c hf) λ_ _ _ h=>DL a h]
theorem yq (d:PassesOwn (model X.prog X.w) X.A X.env X.xe) (a:RT X G0 W0 c t) (b:RSs X G0 W0 body sm):RS X G0 W0 (.While c body [] pos) (gp t sm):=#[PS.imp (yQ d a.h b.h) λ_ _ _ h=>xH h]
theorem Ex (b:PassesOwn (model X.prog X.w) X.A X.env X.xe) (e:X.calm=true) (hi:RI X G0 W0 tg iter im) (d:RG X G0.pr tg bnd) (a:RSs X G0 W0 body sm) (c:∀ x,foldedSetIterable iter X.env x=pure x):RS X G0 W0 (.For tg iter body [] pos) (cj im bnd sm):=by
 obtain ⟨g,h1,h2⟩:=d.h
 exact #[PS.imp (EZ b e hi.h h1 a.h c) λ_ _ _ h=>DP h2 h]
theorem uB (i:Nat) (c:X.N.Nodup) (hi:X.N[i]?=some x) (a:Loc X.env.scope x) (hf:X.fn x=true\/X.env.scope.names.lookup x=some .local) (b:pr i=false):RG X pr (.Name x pos) (ao i):=#[_,jq c hi a hf,iq b]
theorem Bs:RGs X pr [] kX:=#[_,uP,rP]
theorem yy (h1:RG X pr e bn) (h2:RGs X pr es bs) (a:(assignEach (e::es) X.env).map (·.2)=assign e X.env::(assignEach es X.env).map (·.2)):RGs X pr (e::es) (bS bn bs):=by
 obtain ⟨g,a1,a2⟩:=h1.h
 obtain ⟨b,b1,b2⟩:=h2.h
 exact #[_,lU a1 b1 a,kz a2 b2]
theorem EA {k n:Nat} (c:X.calm=true) (h:RGs X pr es bs) (b:(assignEach es X.env).length=n) (a:(assignEach es X.env).findIdx? (·.1)=none):RG X pr (.Tuple es k pos) (kW n bs):=by
 obtain ⟨d,b1,b2⟩:=h.h
 exact #[_,yX c b1 b a,vE b2]
theorem Bv (NY:List Str) (ix:List (Option Nat)) (f:X.calm=true) (hi:RI X G0 W0 tg iter im) (d:∀ s H C fp,PTs (aM X NY scope s H C fp) ifs (tT X.K (bx ix) noX cm)) (he:∀ s H C fp,RE (aM X NY scope s H C fp) (bx ix) noX elt em) (e:ik scope X.N X.env.scope NY ix=true) (a:Inj ix) (c:∀ x,foldedSetIterable iter X.env x=pure x) (b:∃ D,Bnd X.K (bx ix).pr D bnd/\∀ s H C fp,PG (aM X NY scope s H C fp) tg D):RE X G0 W0 (.ListComp elt [#[tg,iter,ifs,0]] scope pos) (bE im bnd cm em ix):=by
 obtain ⟨D,b1,b2⟩:=b
 exact #[PE.imp (BP NY ix f hi.h b2 d (λs H C fp=>(he s H C fp).h) e c) λ_ _ _ h=>AW szl a b1 h]
end
noncomputable def aw (F:Fn) (ms:M3 (List R3)):EM:=ag ms λrs=>λZ=>match prs (frz (qY rs) Z) rs with
 | none=>none
 | some ps=>match F ps with
  | none=>none
  | some (.ok p,qs)=>if qs.length=ps.length then some (.ok (.val p.1 p.2),back rs ps qs (frz (qY rs) Z)) else none
  | some (.error _,_)=>none
def vU (K:FG) (F:Fn):Sp:=λa H Q _=>∃ (ps:List It3) (p:D×Fl) (fs:List (D×Fl)),a=ps.map (·.v)/\(∀ p∈ps,Arg K H p)/\ps.Pairwise Apart3/\F (ps.map λp=>(p.d,p.f))=some (.ok p,fs) /\
 ∀ x qs H',Behind K H H' ps qs x->x.d=p.1->x.f=p.2->qs.map (λq=>(q.d,q.f))=fs->Q x.v H'
section
variable {K:FG} {G G0:Gm} {W W0:D->Sto->Prop} {H H':Hp} {Y:St} {Z Z':Sto} {T T':List It3} {g:Nat->Option It3} {x y z:It3} {α β:Type}
theorem xL (h:tE K G0 W0 (aw F ms) Y H Q):tA K G0 W0 ms Y H λD H1=>vU K F D H1 Q E0:=by
 refine h.use λG W le Z T g o Z' w e q=>?_
 refine tA.seq le w e q.err λrs Z1 e1 D H1 Ts g1 s a1=>?_
 obtain ⟨g2,d,O⟩:=Wf.frz (is:=qY rs) s
 cases j:prs (L3.frz (qY rs) Z1) rs with
 | none=>rw[j] at e1;exact nsE e1
 | some pfs =>
  rw[j] at e1
  dsimp only at e1
  have hd:∀ i,2<=(pls rs).count i->∀ y,g2 i=some y->y.f=.z:=λi E y n=>by
   have hm:i∈qY rs:=Hj.mpr #[List.count_pos_iff.mp (by lia),by simpa using E]
   have s1:=d.sl i
   rw[n] at s1
   have C:∃ y0,g1 i=some y0:=by
    cases A:g1 i with
    | some y0=>exact #[y0,rfl]
    | none =>
     exfalso
     have s2:=s.sl i
     rw[A] at s2
     have:=qV (is:=qY rs) s2.symm
     rw[this] at s1
     cases s1
   obtain ⟨y0,l⟩:=C
   obtain ⟨S,b,_,R⟩:=O i y0 l
   rw[n] at b
   cases b
   exact R hm
  obtain ⟨ps,f1,f2,L,f4,J⟩:=Ars.args a1 d hd j
  have hit:∀ p∈ps,Itm (Ts++T) g2 p:=λp k=>by
   rcases f4 p k with ⟨i,_,u⟩ | h
   .exact .inl #[i,u]
   .exact .inr (GK _ h)
  have c:∀ p∈ps,Arg K H1 p:=λp k=>⟨(d.itm (hit p k)).rep,λhf=>by
   obtain ⟨m,a,L',v1,v2,N,_⟩:=(d.itm (hit p k)).own hf
   exact ⟨m,a,L',v1,v2,N⟩⟩
  subst f2
  cases b:F pfs with
  | none=>rw[b] at e1;exact nsE e1
  | some r =>
   obtain ⟨out,fs⟩:=r
   rw[b] at e1
   cases out with
   | ok p =>
    dsimp only at e1
    split at e1
    .cases e1
     refine #[ps,p,fs,rfl,c,L,by rw[f1];exact b,?_]
     intro x qs H' B x1 P M
     obtain ⟨g',φ,I⟩:=Wf.after d j f1 f4 J B.toBehindX
     have t:=I x B.rep B.own B.src B.apx
     rw[M] at t
     rw[<- x1,<- P] at q
     exact q x.v H' #[[x],g',t,.val x]
    .exact nsE e1
   | error er=>exact nsE e1
def eD (b:Bool) (p:It3):It3:=if b then dw p else p
theorem nG:∀ {mask:List Bool} {ps:List It3},(List.zipWith eD mask ps).map (λp=>(p.d,p.f))=List.zipWith wH mask (ps.map λp=>(p.d,p.f))
 | [],_=>rfl
 | _::_,[]=>rfl
 | b::mask,p::ps=>by
  simp only[List.zipWith_cons_cons,G6,nG]
  cases b <;> rfl
theorem wG {i:Nat} (h:(List.zipWith eD mask ps)[i]?=some q):∃ b p,mask[i]?=some b/\ps[i]?=some p/\q=eD b p:=by grind
theorem qE {i:Nat} (a:ps.length=mask.length) (h:ps[i]?=some p):∃ b,mask[i]?=some b/\(List.zipWith eD mask ps)[i]?=some (eD b p):=by
 have hi:i < mask.length:=by have:=(GU.mp h).1;omega
 simp_all
theorem eC (b:Bool) (p:It3):(eD b p).d=p.d/\(eD b p).v=p.v/\(eD b p).L=p.L/\((eD b p).f=p.f\/(eD b p).f=.z):=by
 cases b
 .exact #[rfl,rfl,rfl,.inl rfl]
 .exact #[rfl,rfl,rfl,.inr rfl]
theorem NoRoot.low (h:NoRoot a b) (d:a'.v=a.v) (hf:a'.f=a.f\/a'.f=.z) (g:b'.L=b.L):NoRoot a' b':=λq c e=>by
 rw[g]
 rcases hf with f | f
 .exact h (by rw[<- f];exact q) c (by rw[<- d];exact e)
 .exact absurd f q
def prM (mask:List Bool) (i:Nat):Bool:=match mask[i]? with
 | some b=>!b
 | none=>false
theorem Cj {f:α->β} {l:List α} {i:Nat} {a:α} (h:l[i]?=some a):(l.map f)[i]?=some (f a):=by rw[GY,h];rfl
set_option tactic.hygienic true in
theorem vj {n:Nat} (hn:mask.length<=n) (h:vU K (fnM mask n m) vs H Q E) :
  ∃ G:Gm,G.pr=prM mask/\tS K G noX m { nx:=λ_ H'=>Q .non H',rt:=Q } (vs.map some++List.replicate (n - vs.length) none) H:=by
 obtain ⟨ps,p,fs,rfl,σ,hp,l,q⟩:=h
 unfold fnM at l
 rw[GS] at l
 split at l
 .rename_i hl
  rw[<- nG] at l
  generalize w:List.zipWith eD mask ps=g at l
  have X:g.length=ps.length:=by rw[<- w,List.length_zipWith];lia
  have R:g.map (·.v)=ps.map (·.v):=by
   refine List.ext_getElem? λi=>?_
   rw[GY,GY]
   cases e:ps[i]? with
   | none=>rw[List.getElem?_eq_none (by have:=List.getElem?_eq_none_iff.mp e;lia)]
   | some u =>
    obtain ⟨b,_,t⟩:=qE (mask:=mask) hl e
    rw[w] at t
    rw[t]
    show some (eD b u).v=some u.v
    rw[(eC b u).2.1]
  have up:∀ (i:Nat) (u:It3),g[i]?=some u->∃ b s,mask[i]?=some b/\ps[i]?=some s/\u=eD b s:=λi u e=>by rw[<- w] at e;exact wG e
  have A:∀ u∈g,∃ b s,s∈ps/\u=eD b s:=λu hu=>by
   obtain ⟨i,hi,e⟩:=List.mem_iff_getElem.mp hu
   obtain ⟨b,s,_,t,y⟩:=up i u (by rw[GO hi,e])
   exact #[b,s,GV t,y]
  have I:∀ u∈g,Arg K H u:=λu hu=>by
   obtain ⟨b,s,h0,rfl⟩:=A u hu
   obtain ⟨e1,t,y,S⟩:=eC b s
   refine #[by rw[e1,t,y];exact (σ s h0).rep,λhf=>?_]
   rw[e1,t,y]
   refine (σ s h0).own λz=>hf ?_
   rcases S with f | f
   .rw[f];exact z
   .exact f
  have P:g.Pairwise Apart3:=by
   rw[List.pairwise_iff_getElem]
   intro i j hi hj lt
   obtain ⟨b,s,_,t,y⟩:=up i _ (GO hi)
   obtain ⟨F,ab,_,V,W⟩:=up j _ (GO hj)
   have ap:=df hp (λ_ _=>Apart3.symm) (G4 lt) t V
   rw[y,W]
   obtain ⟨_,a2,φ,a4⟩:=eC b s
   obtain ⟨_,b2,b3,b4⟩:=eC F ab
   exact #[ap.1.low a2 a4 b3,ap.2.low b2 b4 φ]
  have M:∀ (i:Nat) (u:It3),g[i]?=some u->u.f≠.z->prM mask i=true:=λi u e hf=>by
   obtain ⟨b,s,e1,t,y⟩:=up i u e
   unfold prM
   rw[e1]
   cases b with
   | false=>rfl
   | true=>rw[y] at hf;exact absurd rfl hf
  have alls:∀ c,dC g c->dC ps c:=λc #[u,hu,N]=>by
   obtain ⟨b,s,h0,rfl⟩:=A u hu
   exact #[s,h0,by rw[<- (eC b s).2.2.1];exact N]
  have lift:∀ {H':Hp} {qs:List It3},BehindX K H H' g qs->BehindX K H H' ps qs:=λ{H' qs} B=>by
   refine #[λb o hb hn=>B.frame b o hb λu hu hf R=>?_,Paired.ofGet ?_ λk u v eu ev=>?_,B.apart]
   .obtain ⟨F,s,h0,rfl⟩:=A u hu
    obtain ⟨_,t,_,S⟩:=eC F s
    rcases S with f | f
    .exact hn s h0 (by rw[<- f];exact hf) (by rw[<- t];exact R)
    .rw[f] at hf;cases hf
   .rw[<- X];exact Paired.length B.back
   .obtain ⟨b,_,t⟩:=qE (mask:=mask) hl eu
    rw[w] at t
    have b1:=Paired.at B.back t ev
    obtain ⟨a1,a2,φ,a4⟩:=eC b u
    refine #[λhz=>?_,by rw[b1.v,a2],?_,b1.arg,λc N=>(b1.src c N).imp id (alls c),λhf F J=>?_]
    .have:eD b u=u:=by
      cases b
      .rfl
      .obtain ⟨d,v,L,f⟩:=u
       have hz:f=.z:=hz
       subst hz;rfl
     rw[<- this]
     exact b1.z (by rw[this];exact hz)
    .rcases b1.f with h | h
     .rcases a4 with f | f
      .exact .inl (h.trans f)
      .exact .inr (h.trans f)
     .exact .inr h
    .rcases a4 with f | f
     .exact b1.there (by rw[f];exact hf) F (by rw[a2];exact J)
     .-- lowered: as it was
      obtain ⟨_,a,L',v1,v2,_⟩:=(σ u (GV eu)).own (by rw[hf];intro q;cases q)
      rw[J] at v1;cases v1
      have ρ:=b1.z f
      have r:=b1.arg.rep
      rw[ρ,a1,a2,φ] at r
      exact (r.inH F (by rw[v2];exact GG)).ex
  have T:g.length<=n:=by lia
  have wf:=xx (K:=K) (H:=H) (n:=n) (pr:=prM mask) T I P M
  rw[R] at wf
  refine #[gOf H (prM mask) ((ps.map (·.v)).map some++List.replicate (n - (ps.map (·.v)).length) none) g,rfl,?_]
  have h0:∀ (i:Nat) (u:It3),g[i]?=some u->((ps.map (·.v)).map some++List.replicate (n - (ps.map (·.v)).length) none)[i]?=some (some u.v):=λi u e=>m9 (by rw[<- R];exact Cj e)
  unfold fn0 at l
  cases e:m (kM n (g.map λp=>(p.d,p.f))) with
  | none=>rw[e] at l;exact nsE l
  | some rr =>
   obtain ⟨r,Z2⟩:=rr
   rw[e] at l
   refine tS.mk (r:=r) (Le.refl K _ _) wf e ?_
   have fin:∀ {x:It3} {Y':St} {H':Hp} {g':Nat->Option It3} {d:D} {f:Fl},Wf K (gOf H (prM mask) ((ps.map (·.v)).map some++List.replicate (n - (ps.map (·.v)).length) none) g) H' Y' Z2 [x] g'->x.d=d->x.f=f ->
     ((fS Z2 0 (g.map λp=>(p.d,p.f))).map λfs=>((.ok (d,f),fs):Except D (D×Fl)×List (D×Fl)))=some (.ok p,fs)->Q x.v H':=λ{x Y' H' g' d f} O xd xf l=>by
    cases C:fS Z2 0 (g.map λp=>(p.d,p.f)) with
    | none=>rw[C] at l;exact nsE l
    | some fs' =>
     rw[C] at l
     cases l
     obtain ⟨qs,B,ρ⟩:=uc (n:=n) I P M h0 O C
     have BX:=lift B.toBehindX
     exact q x qs H' #[BX,B.rep,B.own,λc N=>(B.src c N).imp id (alls c),B.apx] xd xf ρ
   cases r with
   | error er=>
    dsimp only at l
    cases C:fS Z2 0 (g.map λp=>(p.d,p.f)) with
    | none=>rw[C] at l;exact nsE l
    | some fs'=>rw[C] at l;cases l
   | ok fl =>
    cases fl with
    | nx =>
     intro Y' H' g' O
     obtain ⟨Ts,g2,w2,a2⟩:=O.const .non
     obtain ⟨x,rfl,x1,x2,x3⟩:=a2.val_inv
     have:=fin w2 x1 x2 l
     rw[x3] at this
     exact this
    | br=>exact nsE l
    | ct=>exact nsE l
    | rt d f =>
     intro x Y' H' g' O x1 x2
     exact fin O x1 x2 l
 .exact nsE l
end
abbrev aF (P:Program) (w:World) (K:FG) (mg:Str->Option Value) (base:Heap) (x:Str) (k:Nat) (ps:List Str) (F:Fn):Prop:=Callee P w K mg base x k ps (vU K F)
theorem aL {k:Nat} {nn:Nat} (D:Def K mg x st) (S:FnScope N ps (aj st)) (c:mask.length=ps.length) (b:N.length=nn) (e:∀ (kV doc pm:Value) (an:Option Addr) (a ct:Value) (us:List Value),us.length=ps.length->bindArgs (PySem.W.fnOf x x (aX st) (aR st) (aj st) .none kV doc pm an a ct) #[us,[]]=pure (ps.zip us)) (body:∀ (a:Value) (A:Around) (outer:List Env) (s:Shared) (H:Hp) (E:XK) (f:Addr) (G:Gm),Room k (A.deeper (PyProof.Rows.envOfC x (aj st) s.heap.objs.size f a))->G.pr=prM mask->RSs (re CX0 P w K mg base N x (aj st) f a A outer s H E).nox G noX (aR st) m) :
  aF P w K mg base x (k+1) ps (fnM mask nn m):=by
 refine D.callee e λf fd F=>F.ok S (λi H Q E h=>?_) λa A outer s H i Q E j h=>?_
 .obtain ⟨d,p,fs,rfl,_,_,n,_⟩:=h
  unfold fnM at n
  grind
 .have hle:mask.length<=nn:=by
   rw[c,<- b]
   have:=congrArg List.length S.pre
   rw[He] at this
   omega
  obtain ⟨G,g,l⟩:=vj hle h
  subst b
  exact #[_,(body a A outer s H E f G j g).h,l]
theorem Bw {k:Nat} (c:aF X.prog X.w X.K X.mg X.base x k ps F) (f:Room k X.A) (g:RA X G0 W0 (e::es) ms) (d:Gl X x) (a:(x == ("__debug__":Str))=false) (he:starEach (e::es) X.env=(false,eval e X.env)::starEach es X.env) (b:(backTo pos (starEach es X.env)).any (·.1)=false):RE X G0 W0 (.Call (.Name x p) (e::es) [] pos) (aw F ms) :=
 #[PE.imp (pe_fn c f g.h d a he b) λ_ _ _ h=>xL h]
def orD (f g:D->D->Option (D×Fl)) (a b:D):Option (D×Fl):=match f a b with
 | some p=>some p
 | none=>g a b
section
variable {K:FG} {H:Hp} {Ks:Addr->Prop} {d:D} {v:V} {L:List Addr} {X:Cx}
theorem cy (r:Rep K H d v []):New K H H Ks #[d,v,[],.z]:=#[Same.refl _,r,λ_ h=>(by cases h),λh=>absurd rfl h]
theorem oO (r:Rep K H d v L) (h:∀ c∈L,Ks c):New K H H Ks #[d,v,L,.z]:=#[Same.refl _,r,λc a=>.inr (h c a),λh=>absurd rfl h]
theorem Cc (a:H p=none) (r:Reps (Rep K H) ds vs L) (h:∀ c∈L,Ks c):New K H (upd H p (.lst vs)) Ks #[.lst ds,.ref p,p::L,.u]:=by
 have np:p ∉ L:=λd=>by obtain ⟨o,b⟩:=(r.inH p d).ex;rw[a] at b;exact nsE b
 refine #[ba a,.lst aD (r.same (ba a)),λc d=>?_,λ_=>#[rfl,p,L,rfl,rfl,np,a]]
 grind
theorem zk (a:H p=none) (r:Reps (Rep K H) ds vs L) (h:∀ c∈L,Ks c):New K H (upd H p (.tup vs)) Ks #[.tup ds,.ref p,L,.z] :=
 #[ba a,.tup aD (r.same (ba a)),λc b=>.inr (h c b),λh=>absurd rfl h]
theorem kR (a:y∈ys) (h:Arg K H y) (hm:jC y.d=false):∀ c∈y.L,eG ys c:=λc b=>⟨y,a,b,λhf=>by
 have:=(h.own hf).1
 rw[hm] at this;cases this⟩
theorem md (g:y∈ys) (h:Arg K H y) (b:y.v=.ref a) (f:y.L=a::L):∀ c∈L,eG ys c:=λc d=>⟨y,g,by rw[f];exact GH _ d,λhf e=>by
 obtain ⟨_,j,L',v1,v2,i⟩:=h.own hf
 rw[b] at v1;cases v1
 rw[f] at v2;cases v2
 rw[b] at e;cases e
 exact i d⟩
theorem OpD.or (h:OpD K r f) (h':OpD K r' g):OpD K (λx y H Q=>r x y H Q\/r' x y H Q) (orD f g):=λa b H Q p ra rb e q=>by
 unfold orD at e
 cases c:f a.d b.d with
 | some p'=>rw[c] at e;cases e;exact .inl (h a b H Q _ ra rb c q)
 | none=>rw[c] at e;exact .inr (h' a b H Q p ra rb e q)
def fg (C:Int->Int->Bool) (g:Int->Int->D):D->D->Option (D×Fl)
 | .int i,.int j=>if C i j then #v[g i j] else none
 | _,_=>none
set_option tactic.hygienic true in
theorem jD (d:∀ i j,Cb i j=true->C i j) (c:∀ i j H,Rep K H (gd i j) (g i j) []):OpD K (rI C g) (fg Cb gd):=λa b H Q p ra rb e q=>by
 obtain ⟨da,n,m,o⟩:=a
 obtain ⟨db,l,h,r⟩:=b
 obtain ⟨ra,k⟩:=ra
 obtain ⟨rb,ob⟩:=rb
 dsimp only at ra rb
 cases da <;> try (exact nsE e)
 rename_i i
 obtain ⟨rfl,rfl⟩:=ra.view
 cases db <;> try (exact nsE e)
 rename_i j
 obtain ⟨rfl,rfl⟩:=rb.view
 have e:(if Cb i j then some (gd i j,Fl.z) else none)=some p:=e
 split at e
 .rename_i f
  cases e
  exact #[i,j,rfl,rfl,d i j f,q #[gd i j,g i j,[],.z] H (cy (c i j H)) rfl rfl]
 .exact nsE e
theorem rI_of:rI0 g=rI (λ_ _=>True) g:=by
 funext x y H Q
 unfold rI0 rI
 grind
theorem fu (a:∀ i j H,Rep K H (gd i j) (g i j) []):OpD K (rI0 g) (fg (λ_ _=>true) gd):=by
 rw[rI_of]
 exact jD (λ_ _ _=>trivial) a
abbrev pF:Int->Int->Bool:=λ_ _=>true
abbrev addI:=fg pF λi j=>.int (i+j)
abbrev dE:=fg pF λi j=>.int (i - j)
abbrev eA:=fg (λi j=>decide ((-(2 ^ 64) < i/\i < 2 ^ 64)\/(-(2 ^ 64) < j/\j < 2 ^ 64))) λi j=>.int (i * j)
abbrev sY:=fg (λ_ j=>decide (0 < j)) λi j=>.int (i % j)
abbrev sP:=fg (λi j=>decide (0<=j/\j<=1000000/\i.natAbs < 2 ^ 64)) λi j=>.int (i ^ j.toNat)
abbrev ltI:=fg pF λi j=>.bl (decide (i < j))
abbrev leI:=fg pF λi j=>.bl (decide (i<=j))
abbrev gtI:=fg pF λi j=>.bl (decide (j < i))
abbrev geI:=fg pF λi j=>.bl (decide (j<=i))
theorem od_addI:OpD K (rI0 λi j=>.int (i+j)) addI:=fu λi j _=>.int _
theorem B2:OpD K (rI0 λi j=>.int (i - j)) dE:=fu λi j _=>.int _
theorem B5:OpD K (rI CMul λi j=>.int (i * j)) eA:=jD (λi j h=>by simpa[CMul,xw,AF] using h) λi j _=>.int _
theorem B6:OpD K (rI (λ_ j=>0 < j) λi j=>.int (i % j)) sY:=jD (λi j h=>by simpa[CMul,xw,AF] using h) λi j _=>.int _
theorem B3:OpD K (rI AF λi j=>.int (i ^ j.toNat)) sP:=jD (λi j h=>by simpa[CMul,xw,AF] using h) λi j _=>.int _
theorem zf:OpD K (rI0 λi j=>.bl (decide (i < j))) ltI:=fu λi j _=>.bl _
theorem uU:OpD K (rI0 λi j=>.bl (decide (i<=j))) leI:=fu λi j _=>.bl _
theorem Dj:OpD K (rI0 λi j=>.bl (decide (j < i))) gtI:=fu λi j _=>.bl _
theorem od_ge:OpD K (rI0 λi j=>.bl (decide (j<=i))) geI:=fu λi j _=>.bl _
def Gp:D->D->Option (D×Fl)
 | .tup xs,.tup ys=>if xs.length+ys.length<=16777216 then #v[.tup (xs++ys)] else none
 | _,_=>none
def Gr:D->D->Option (D×Fl)
 | .lst xs,.lst ys=>if xs.length+ys.length<=16777216 then some (.lst (xs++ys),.u) else none
 | _,_=>none
def Gq:D->D->Option (D×Fl)
 | .str xs,.str ys=>if xs.length+ys.length<=16777216 then #v[.str (xs++ys)] else none
 | _,_=>none
theorem Reps.len (r:Reps (Rep K H) ds vs L):ds.length=vs.length:=by
 induction r with
 | nil=>rfl
 | cons _ _ ih=>simp[ih]
theorem Reps.append (r:Reps (Rep K H) ds vs L) (b:Reps (Rep K H) ds' vs' L'):Reps (Rep K H) (ds++ds') (vs++vs') (L++L'):=by
 induction r with
 | nil=>exact b
 | cons a _ ih=>rw[List.append_assoc];exact .cons a ih
theorem Reps.nil_iff (r:Reps (Rep K H) ds vs L):ds=[] ↔ vs=[]:=by cases r <;> simp
def oH (K:FG):R2:=λx y H Q=>∃ a b ys,x=.ref a/\y=.ref b/\SqT K H a []/\SqT K H b ys/\Q (.ref b) H
theorem zd:OpR X (binaryOp .Add) (oH X.K):=by
 intro pins s Y H x y v u Q I t A h
 obtain ⟨a,b,ys,rfl,rfl,z,r,q⟩:=h
 cases t
 cases A
 obtain ⟨its,w,o,_⟩:=I.tuple z
 obtain ⟨i,B,p2,_⟩:=I.tuple r
 have e:its=[]:=w.nil_iff.mpr rfl
 subst e
 obtain ⟨⟨cls,p,data,sl⟩,l,j,n,hd⟩:=id o
 obtain ⟨⟨k,f,data2,g⟩,c,d,m,hd2⟩:=id p2
 simp only at j hd d hd2
 subst j hd d hd2
 exact concat_meets #[_,l,rfl] #[_,c,rfl] noFill_tuple_add seq_tuple_add PySem.F.slot_tuple_add PySem.F.entry_tuple_add (PySem.F.args_tuple_add_2 _ _)
   (PyProof.Rows.tuple_addW0 a b _ _ n m p f sl g (by simp)) #[l,c,#[.ref b,H,I,rfl,q]]
set_option tactic.hygienic true in
theorem od_catT:OpD K (λx y H Q=>uJ K x y H Q\/oH K x y H Q) Gp:=λa b H Q p ra rb e q=>by
 obtain ⟨da,C,k,r⟩:=a
 obtain ⟨db,B,l,s⟩:=b
 obtain ⟨ra,t⟩:=ra
 obtain ⟨rb,ob⟩:=rb
 dsimp only at ra rb
 cases da <;> try (exact nsE e)
 rename_i xs
 obtain ⟨g,u,rfl,i,rs⟩:=ra.view
 cases db <;> try (exact nsE e)
 rename_i ys
 obtain ⟨j,ws,rfl,f,d⟩:=rb.view
 have e:(if xs.length+ys.length<=16777216 then some (D.tup (xs++ys),Fl.z) else none)=some p:=e
 split at e
 .rename_i v
  cases e
  by_cases o:u=[]
  .have n:=rs.nil_iff.mpr o
   subst o n
   refine .inr #[g,j,ws,rfl,rfl,SqT.of i,SqT.of f,?_]
   exact q #[.tup ys,.ref j,l,.z] H (oO (.tup f d) (kR (y:=#[.tup ys,.ref j,l,s]) (GH _ (Hh.mpr rfl)) #[.tup f d,ob] rfl)) rfl rfl
  .refine .inl #[g,j,u,ws,rfl,rfl,SqT.of i,SqT.of f,o,by rw[<- rs.len,<- d.len,<- szl];exact v,λhw=>?_,λhw p A=>?_]
   .have m:=d.nil_iff.mpr hw
    subst m
    refine q #[.tup (xs++[]),.ref g,k,.z] H (oO (by rw[List.append_nil];exact .tup i rs) (kR (y:=#[.tup xs,.ref g,k,r]) GG #[.tup i rs,t] rfl)) rfl rfl
   .refine q #[.tup (xs++ys),.ref p,k++l,.z] _ (zk A (rs.append d) λc w=>?_) rfl rfl
    rcases GQ.mp w with h | h
    .exact kR (y:=#[.tup xs,.ref g,k,r]) GG #[.tup i rs,t] rfl c h
    .exact kR (y:=#[.tup ys,.ref j,l,s]) (GH _ (Hh.mpr rfl)) #[.tup f d,ob] rfl c h
 .exact nsE e
set_option tactic.hygienic true in
theorem B9:OpD K Bz Gr:=λa b H Q p ra rb e q=>by
 obtain ⟨da,x,g,t⟩:=a
 obtain ⟨db,w,f,v⟩:=b
 obtain ⟨ra,m⟩:=ra
 obtain ⟨rb,ob⟩:=rb
 dsimp only at ra rb
 cases da <;> try (exact nsE e)
 rename_i xs
 obtain ⟨j,n,g,rfl,rfl,k,rs⟩:=ra.view
 cases db <;> try (exact nsE e)
 rename_i ys
 obtain ⟨i,ws,f,rfl,rfl,l,d⟩:=rb.view
 have e:(if xs.length+ys.length<=16777216 then some (D.lst (xs++ys),Fl.u) else none)=some p:=e
 split at e
 .rename_i r
  cases e
  refine #[j,i,n,ws,rfl,rfl,k,l,by rw[<- rs.len,<- d.len,<- szl];exact r,λp o=>?_]
  refine q #[.lst (xs++ys),.ref p,p::(g++f),.u] _ (Cc o (rs.append d) λc s=>?_) rfl rfl
  rcases GQ.mp s with h | h
  .exact md (y:=#[.lst xs,.ref j,j::g,t]) GG #[.lst k rs,m] rfl rfl c h
  .exact md (y:=#[.lst ys,.ref i,i::f,v]) (GH _ (Hh.mpr rfl)) #[.lst l d,ob] rfl rfl c h
 .exact nsE e
set_option tactic.hygienic true in
theorem od_catS:OpD K (λx y H Q=>∃ i j,x=.str i/\y=.str j/\i.length+j.length<=sizeLine/\Q (.str (i++j)) H) Gq:=λa b H Q p ra rb e q=>by
 obtain ⟨da,k,h,l⟩:=a
 obtain ⟨db,g,d,m⟩:=b
 obtain ⟨ra,f⟩:=ra
 obtain ⟨rb,ob⟩:=rb
 dsimp only at ra rb
 cases da <;> try (exact nsE e)
 rename_i i
 obtain ⟨rfl,rfl⟩:=ra.view
 cases db <;> try (exact nsE e)
 rename_i j
 obtain ⟨rfl,rfl⟩:=rb.view
 have e:(if i.length+j.length<=16777216 then some (D.str (i++j),Fl.z) else none)=some p:=e
 split at e
 .rename_i c
  cases e
  exact #[i,j,rfl,rfl,by rw[<- szl];exact c,q #[.str (i++j),.str (i++j),[],.z] H (cy (.str _)) rfl rfl]
 .exact nsE e
abbrev bu:=orD addI (orD Gq (orD Gp Gr))
theorem Fv:OpD K (λx y H Q=>rI0 (λi j=>.int (i+j)) x y H Q\/((∃ i j,x=.str i/\y=.str j/\i.length+j.length<=sizeLine/\Q (.str (i++j)) H)\/((uJ K x y H Q\/oH K x y H Q)\/Bz x y H Q))) bu:=od_addI.or (od_catS.or (od_catT.or B9))
theorem BV:OpR X (binaryOp .Add) (λx y H Q=>rI0 (λi j=>.int (i+j)) x y H Q\/((∃ i j,x=.str i/\y=.str j/\i.length+j.length<=sizeLine/\Q (.str (i++j)) H)\/((uJ X.K x y H Q\/oH X.K x y H Q)\/Bz x y H Q))):=op_add.or (op_add_str.or ((op_catT.or zd).or Fr))
def eqS:D->D->Option Bool
 | .non,.non=>some true | .non,.int _=>some false | .int _,.non=>some false | .non,.bl _=>some false | .bl _,.non=>some false | .non,.str _=>some false | .str _,.non=>some false
 | .int i,.int j=>some (decide (i=j)) | .bl i,.bl j=>some (decide (i=j)) | .str i,.str j=>some (decide (i=j))
 | .int _,.str _=>some false | .str _,.int _=>some false | .bl _,.str _=>some false | .str _,.bl _=>some false
 | _,_=>none
theorem zY (ra:Rep K H a u L) (rb:Rep K H b v L') (e:eqS a b=some k):En u v=true/\k=decide (u=v):=by
 cases a <;> cases b <;> first | exact nsE e | (obtain ⟨rfl,rfl⟩:=ra.view;obtain ⟨rfl,rfl⟩:=rb.view;cases e;exact #[rfl,by simp])
def zH:D->Bool
 | .non=>true
 | _=>false
def isN:D->D->Option (D×Fl)
 | a,.non=>#v[.bl (zH a)]
 | _,_=>none
theorem Rep.non_iff (ra:Rep K H a u L):zH a=decide (u=.non):=by cases ra <;> simp[zH]
theorem Fu:OpD K (λx y H Q=>y=.non/\Q (.bl (decide (x=.non))) H) isN:=λa b H Q p ra rb e q=>by
 obtain ⟨db,d,c,f⟩:=b
 obtain ⟨rb,ob⟩:=rb
 dsimp only at rb
 cases db <;> try (exact nsE e)
 obtain ⟨rfl,rfl⟩:=rb.view
 unfold isN at e
 cases e
 refine #[rfl,?_]
 rw[<- ra.rep.non_iff]
 exact q #[_,_,[],.z] H (cy (.bl _)) rfl rfl
def Cd:D->Option (D×Fl)
 | .int i=>#v[.int (-i)]
 | _=>none
theorem DG:UnD K (rU λi=>.int (-i)) Cd:=λa H Q p ra e q=>by
 obtain ⟨da,b,f,d⟩:=a
 obtain ⟨ra,c⟩:=ra
 dsimp only at ra
 cases da <;> try (exact nsE e)
 obtain ⟨rfl,rfl⟩:=ra.view
 cases e
 exact #[_,rfl,q #[_,_,[],.z] H (cy (.int _)) rfl rfl]
theorem Reps.at:∀ {ds:List D} {a:List V} {L:List Addr} {i:Nat} {d:D},Reps (Rep K H) ds a L->ds[i]?=some d->∃ v L',a[i]?=some v/\Rep K H d v L'/\∀ c∈L',c∈L
 | _,_,_,_,_,.nil,h=>by simp at h
 | _,_,_,0,_,.cons r _,h=>by simp at h;subst h;exact #[_,_,rfl,r,λc F=>GK _ F]
 | _,_,_,i+1,_,.cons _ t,h=>by
  obtain ⟨v,L',h1,h2,h3⟩:=Reps.at (i:=i) t (by simpa using h)
  exact #[v,L',by simpa using h1,h2,λc F=>GL _ (h3 c F)]
theorem Reps.atI {i:Int} (r:Reps (Rep K H) ds vs L) (h:atI ds i=some d):∃ v L',atI vs i=some v/\Rep K H d v L'/\∀ c∈L',c∈L:=by
 unfold L2.atI at h ⊢
 rw[<- r.len]
 cases e:ixN ds.length i with
 | none=>rw[e] at h;exact nsE h
 | some j=>rw[e] at h;exact r.at h
def ixD:D->D->Option (D×Fl)
 | .lst xs,.int i=>(atI xs i).map λd=>(d,.z)
 | .fls xs,.int i=>(atI xs i).map λd=>(d,.z)
 | .tup xs,.int i=>(atI xs i).map λd=>(d,.z)
 | _,_=>none
set_option tactic.hygienic true in
theorem od_ix:OpD K (λx y H Q=>yK K x y H Q\/yJ K x y H Q) ixD:=λa b H Q p ra rb e q=>by
 obtain ⟨da,t,l,m⟩:=a
 obtain ⟨db,n,s,o⟩:=b
 obtain ⟨rb,ob⟩:=rb
 have g:=ra
 obtain ⟨ra,r⟩:=ra
 dsimp only at ra rb
 cases da <;> try (exact nsE e)
 all_goals (cases db <;> try (exact nsE e))
 all_goals (rename_i xs i;obtain ⟨rfl,rfl⟩:=rb.view)
 .obtain ⟨f,j,rfl,k,rs⟩:=ra.view
  obtain ⟨d,h1,h2⟩:=GJ.mp (show (atI xs i).map (λd=>(d,Fl.z))=some p from e)
  subst h2
  obtain ⟨v,L',g1,g2,g3⟩:=rs.atI h1
  refine .inr #[f,j,i,v,rfl,rfl,SqT.of k,g1,q #[d,v,L',.z] H (oO g2 λc h=>?_) rfl rfl]
  exact kR (y:=#[.tup xs,.ref f,l,m]) GG g rfl c (g3 c h)
 .obtain ⟨f,j,l,rfl,rfl,k,rs⟩:=ra.view
  obtain ⟨d,h1,h2⟩:=GJ.mp (show (atI xs i).map (λd=>(d,Fl.z))=some p from e)
  subst h2
  obtain ⟨v,L',g1,g2,g3⟩:=rs.atI h1
  refine .inl #[f,j,i,v,rfl,rfl,SqL.of k,g1,q #[d,v,L',.z] H (oO g2 λc h=>?_) rfl rfl]
  exact md (y:=#[.lst xs,.ref f,f::l,m]) GG g rfl rfl c (g3 c h)
 .obtain ⟨f,j,rfl,k,rs⟩:=ra.view
  obtain ⟨d,h1,h2⟩:=GJ.mp (show (atI xs i).map (λd=>(d,Fl.z))=some p from e)
  subst h2
  obtain ⟨v,L',g1,g2,g3⟩:=rs.atI h1
  refine .inl #[f,j,i,v,rfl,rfl,k.sq,g1,q #[d,v,L',.z] H (oO g2 λc h=>?_) rfl rfl]
  exact kR (y:=#[.fls xs,.ref f,l,m]) GG g rfl c (g3 c h)
theorem ix_ok:IxR X (λx y H Q=>yK X.K x y H Q\/yJ X.K x y H Q):=ix_list.or FW
end
section
variable {K:FG} {H:Hp} {Ks:Addr->Prop} {d:D} {v:V} {L:List Addr} {X:Cx}
def c1 (f:D->Option (D×Fl)):List D->Option (D×Fl)
 | [d]=>f d
 | _=>none
def c2 (f:D->D->Option (D×Fl)):List D->Option (D×Fl)
 | [d,d']=>f d d'
 | _=>none
theorem dA {ys:List It3} (e:c1 f (ys.map (·.d))=some p):∃ y,ys=[y]/\f y.d=some p:=by
 match ys,e with
 | [],e=>exact nsE e
 | [y],e=>exact #[y,rfl,e]
 | _::_::_,e=>exact nsE e
theorem ua {ys:List It3} (e:c2 f (ys.map (·.d))=some p):∃ y z,ys=[y,z]/\f y.d z.d=some p:=by
 match ys,e with
 | [],e=>exact nsE e
 | [_],e=>exact nsE e
 | [y,z],e=>exact #[y,z,rfl,e]
 | _::_::_::_,e=>exact nsE e
def qH:D->Option (D×Fl)
 | .lst xs=>#v[.int xs.length]
 | .fls xs=>#v[.int xs.length]
 | .tup xs=>#v[.int xs.length]
 | _=>none
abbrev eF:=c1 qH
set_option tactic.hygienic true in
theorem Am:cb K (λxs H Q=>∃ p ys,xs=[.ref p]/\(SqL K H p ys\/SqT K H p ys)/\Q (.int ys.length) H) eF:=λys H Q p ra e q=>by
 obtain ⟨y,rfl,f⟩:=dA e
 clear e
 have e:=f
 clear f
 have d:=(ra y GG).rep
 obtain ⟨da,h,g,i⟩:=y
 dsimp only at d e
 cases da <;> try (exact nsE e)
 .rename_i xs
  obtain ⟨c,a,rfl,b,rs⟩:=d.view
  cases e
  exact #[c,a,rfl,.inr (SqT.of b),by rw[<- rs.len];exact q #[_,_,[],.z] H (cy (.int _)) rfl rfl]
 .rename_i xs
  obtain ⟨c,a,g,rfl,rfl,b,rs⟩:=d.view
  cases e
  exact #[c,a,rfl,.inl (SqL.of b),by rw[<- rs.len];exact q #[_,_,[],.z] H (cy (.int _)) rfl rfl]
 .rename_i xs
  obtain ⟨c,a,rfl,b,rs⟩:=d.view
  cases e
  exact #[c,a,rfl,.inl b.sq,by rw[<- rs.len];exact q #[_,_,[],.z] H (cy (.int _)) rfl rfl]
def tupQ:D->Option (D×Fl)
 | .lst xs=>#v[.tup xs]
 | .tup xs=>#v[.tup xs]
 | _=>none
abbrev AK:=c1 tupQ
set_option tactic.hygienic true in
theorem Gk:cb K (λxs H Q=>∃ p ys,xs=[.ref p]/\((SqL K H p ys/\∀ l,H l=none->Q (.ref l) (upd H l (.tup ys)))\/(SqT K H p ys/\Q (.ref p) H))) AK:=λys H Q p ra e q=>by
 obtain ⟨y,rfl,h⟩:=dA e
 clear e
 have e:=h
 clear h
 have f:=ra y GG
 have g:=f.rep
 obtain ⟨da,k,b,i⟩:=y
 dsimp only at g e
 cases da <;> try (exact nsE e)
 .rename_i xs
  obtain ⟨a,d,rfl,c,rs⟩:=g.view
  cases e
  exact #[a,d,rfl,.inr #[SqT.of c,q #[.tup xs,.ref a,b,.z] H (oO (.tup c rs) (kR (y:=#[.tup xs,.ref a,b,i]) GG f rfl)) rfl rfl]]
 .rename_i xs
  obtain ⟨a,d,b,rfl,rfl,c,rs⟩:=g.view
  cases e
  exact #[a,d,rfl,.inl #[SqL.of c,λl j=>q #[.tup xs,.ref l,b,.z] _ (zk j rs (md (y:=#[.lst xs,.ref a,a::b,i]) GG f rfl rfl)) rfl rfl]]
def absQ:D->Option (D×Fl)
 | .int i=>#v[.int (if i < 0 then -i else i)]
 | _=>none
abbrev absD:=c1 absQ
theorem Rep.int_inv {i:Int} (r:Rep K H (.int i) v L):v=.int i:=by cases r;rfl
theorem Go:cb K (λxs H Q=>∃ i,xs=[.int i]/\Q (.int (if i < 0 then -i else i)) H) absD:=λys H Q p ra e q=>by
 obtain ⟨y,rfl,b⟩:=dA e
 clear e
 have e:=b
 clear b
 have a:=(ra y GG).rep
 obtain ⟨da,c,f,d⟩:=y
 dsimp only at a e
 cases a <;> try (exact nsE e)
 cases e
 exact #[_,rfl,q #[_,_,[],.z] H (cy (.int _)) rfl rfl]
def qN (C:Int->Int->Bool) (g:Int->Int->D):D->D->Option (D×Fl)
 | .int i,.int j=>if C i j then #v[g i j] else none
 | _,_=>none
set_option tactic.hygienic true in
theorem kc (e:qN C g a b=some p):∃ i j,a=.int i/\b=.int j/\C i j=true/\p=(g i j,.z):=by
 cases a <;> cases b <;> try (exact nsE e)
 rename_i i j
 have e:(if C i j then some (g i j,Fl.z) else none)=some p:=e
 split at e
 .rename_i h;cases e;exact #[i,j,rfl,rfl,h,rfl]
 .exact nsE e
abbrev uY:=c2 (qN pF λi j=>.int (if j > i then j else i))
abbrev Dk:=c2 (qN pF λi j=>.int (if j < i then j else i))
abbrev z8:=c2 (qN (λ_ j=>decide (0 < j/\j < 1073741824)) λi j=>.tup [.int (i / j),.int (i % j)])
theorem CL:cb K (λxs H Q=>∃ i j,xs=[.int i,.int j]/\Q (.int (if j > i then j else i)) H) uY:=λys H Q p ra e q=>by
 obtain ⟨y,z,rfl,b⟩:=ua e
 clear e
 have e:=b
 clear b
 obtain ⟨i,j,f,d,_,rfl⟩:=kc e
 have c:=(ra y GG).rep
 have a:=(ra z (GH _ GG)).rep
 rw[f] at c
 rw[d] at a
 refine #[i,j,?_,q #[_,_,[],.z] H (cy (.int _)) rfl rfl]
 show [y.v,z.v]=_
 rw[c.int_inv,a.int_inv]
theorem CK:cb K (λxs H Q=>∃ i j,xs=[.int i,.int j]/\Q (.int (if j < i then j else i)) H) Dk:=λys H Q p ra e q=>by
 obtain ⟨y,z,rfl,b⟩:=ua e
 clear e
 have e:=b
 clear b
 obtain ⟨i,j,f,d,_,rfl⟩:=kc e
 have c:=(ra y GG).rep
 have a:=(ra z (GH _ GG)).rep
 rw[f] at c
 rw[d] at a
 refine #[i,j,?_,q #[_,_,[],.z] H (cy (.int _)) rfl rfl]
 show [y.v,z.v]=_
 rw[c.int_inv,a.int_inv]
theorem xb:cb K (λxs H Q=>∃ i j,xs=[.int i,.int j]/\xw i j/\∀ p,H p=none->Q (.ref p) (upd H p (.tup [.int (i / j),.int (i % j)]))) z8:=λys H Q p ra e q=>by
 obtain ⟨y,z,rfl,d⟩:=ua e
 clear e
 have e:=d
 clear d
 obtain ⟨i,j,k,g,a,rfl⟩:=kc e
 have f:=(ra y GG).rep
 have b:=(ra z (GH _ GG)).rep
 rw[k] at f
 rw[g] at b
 refine #[i,j,?_,by simpa[xw] using a,λp h=>q #[_,.ref p,[],.z] _ (zk h (L:=[]) (.cons (L:=[]) (.int _) (.cons (L:=[]) (.int _) .nil)) λc a=>by cases a) rfl rfl]
 show [y.v,z.v]=_
 rw[f.int_inv,b.int_inv]
def iN:List D->Option (List Bool)
 | []=>some []
 | .bl b::ds=>(iN ds).map (b::·)
 | _=>none
set_option tactic.hygienic true in
theorem rQ:∀ {ds:List D} {bs:List Bool},iN ds=some bs->ds=bs.map D.bl
 | [],bs,e=>by cases e;rfl
 | d::ds,bs,e=>by
  cases d <;> try (exact nsE e)
  rename_i b
  obtain ⟨r,h1,h2⟩:=GJ.mp (show (iN ds).map (b::·)=some bs from e)
  subst h2
  rw[rQ h1];rfl
theorem Reps.bls:∀ {bs:List Bool} {a:List V} {L:List Addr},Reps (Rep K H) (bs.map D.bl) a L->a=bs.map V.bl
 | [],_,_,.nil=>rfl
 | b::bs,_,_,.cons r rs=>by
  rw[Reps.bls rs]
  cases r;rfl
def Gy:D->Option (D×Fl)
 | .lst xs=>(iN xs).map λbs=>(.bl (bs.all id),.z)
 | _=>none
abbrev mW:=c1 Gy
set_option tactic.hygienic true in
theorem Gn:cb K (λxs H Q=>∃ (a:Addr) (bs:List Bool),xs=[.ref a]/\SqL K H a (bs.map V.bl)/\Q (.bl (bs.all id)) H) mW:=λys H Q p ra e q=>by
 obtain ⟨y,rfl,c⟩:=dA e
 clear e
 have e:=c
 clear c
 have b:=(ra y GG).rep
 obtain ⟨da,i,d,j⟩:=y
 dsimp only at b e
 cases da <;> try (exact nsE e)
 rename_i xs
 obtain ⟨g,h,d,rfl,rfl,f,rs⟩:=b.view
 obtain ⟨bs,h1,h2⟩:=GJ.mp (show (iN xs).map (λbs=>(D.bl (bs.all id),Fl.z))=some p from e)
 subst h2
 have:=rQ h1
 subst this
 have:=rs.bls
 subst this
 exact #[g,bs,rfl,SqL.of f,q #[_,_,[],.z] H (cy (.bl _)) rfl rfl]
def mQ (xs:List D) (lo hi:Option Int):List D:=(xs.drop (HT.sIx xs.length 0 lo)).take (HT.sIx xs.length xs.length hi - HT.sIx xs.length 0 lo)
end
def Db:D->Option (List D)
 | .lst xs=>some xs
 | .fls xs=>some xs
 | .tup xs=>some xs
 | _=>none
def bZ (m:EM):IM:=ag m λr=>ag (der r) λd=>a9 ((Db d).map λds=>([r],ds))
def iSeq (K:FG) (tl:TE):TI:=λY H R=>tl Y H λx H1=>(∃ a,x=.ref a/\(∃ xs,SqL K H1 a xs)/\R (Itl K a) H1)\/∃ a,x=.ref a/\(∃ xs,SqT K H1 a xs)/\R (Itt K a) H1
theorem E4 (k:PE X l tl):PI X tg l (iSeq X.K tl):=by
 intro pins s Y H R I h
 exact thn (k pins s Y H _ I h) λv s1 #[x,H1,c,g,i]=>by
   rcases i with ⟨a,e,⟨xs,d⟩,q⟩ | ⟨a,e,⟨xs,d⟩,q⟩
   .subst e
    cases g
    obtain ⟨its,j,p,hz⟩:=c.list d
    refine wpAny_pyIter_list p.isList ?_
    refine #[s1.heap.objs.size,[s1.heap.objs.size],_,_,H1,rfl,c.kept (t':=s1.toks) λb o e=>GI _ e,vM a _,#[_,GR _ rfl,rfl,rfl],λb f=>?_,q]
    have e:b=s1.heap.objs.size:=by simpa using f
    subst e
    exact c.fpOk (GZ _) (c.hok.fresh (GZ _))
   .subst e
    cases g
    obtain ⟨its,j,p,hz⟩:=c.tuple d
    refine wpAny_pyIter_tuple (show s1.heap.IsTuple a its.toArray from p) ?_
    refine #[s1.heap.objs.size,[s1.heap.objs.size],_,_,H1,rfl,c.kept (t':=s1.toks) λb o e=>GI _ e,rZ a _,#[_,GR _ rfl,rfl,rfl],λb f=>?_,q]
    have e:b=s1.heap.objs.size:=by simpa using f
    subst e
    exact c.fpOk (GZ _) (c.hok.fresh (GZ _))
section
variable {K:FG} {G G0:Gm} {W W0:D->Sto->Prop} {H H':Hp} {Y:St} {Z Z':Sto} {T T':List It3} {g:Nat->Option It3} {x y z:It3} {α β:Type} {X:Cx}
theorem Ar.item2 (w:Wf K G H Y Z (Ts++T) g) (a:Ar Y r v Ts) (e:der r Z=some (.ok d,Z)):∃ y,y.d=d/\y.v=v/\((∃ i,i∈pls [r]/\g i=some y)\/y∈Ts):=by
 cases a with
 | @pl i v h =>
  have k:der (.pl i) Z=((Z[i]?).join).map λp=>(.ok p.1,Z):=rfl
  rw[k] at e
  cases q:(Z[i]?).join with
  | none=>rw[q] at e;exact nsE e
  | some p =>
   rw[q] at e
   obtain ⟨y,e1,c,l,b⟩:=w.slot (d:=p.1) (f:=p.2) q
   have j:p.1=d:=by cases e;rfl
   rw[h] at b
   injection b with b
   injection b with b
   exact #[y,c.trans j,b.symm,.inl #[i,GG,e1]]
 | val x=>cases e;exact #[x,rfl,rfl,.inr (by simp)]
theorem n6 (j:Reps (Rep K H1) ds vs F) (m:∀ c∈F,eG [y] c) (s:∀ c∈F,c∈y.L) (f:∀ (M:Addr->Prop) (H':Hp),(∀ b,M b->MutAt H1 b)->(∀ b o,H1 b=some o->¬ M b->H' b=some o)->(∀ b∈y.L,¬ M b)->(∀ (i:Nat) (v:V),vs[i]?=some v->J.go i H'/\∀ x D,J.yld i H' x D->D=H'/\x=v)/\J.stop vs.length H'):Walk K J H1 [y] ds:=by
 obtain ⟨ws,h1,h2,h3⟩:=Reps.split j
 refine #[ws,λx g=>#[(h3 x g).1,(h3 x g).2.1,λc e=>m c ((h3 x g).2.2 c e)],λM H' hm a h=>?_]
 obtain ⟨go,stop⟩:=f M H' hm a (h y GG)
 refine #[λi d hd=>?_,by rw[j.len];exact stop]
 have hi:∃ u,ws[i]?=some u/\u.d=d:=by
  grind
 obtain ⟨u,k,q⟩:=hi
 have r:vs[i]?=some u.v:=by rw[<- h2,GY,k];rfl
 obtain ⟨g1,g2⟩:=go i u.v r
 refine #[g1,λx D l=>?_]
 obtain ⟨e1,p⟩:=g2 x D l
 subst e1 p
 have hu:=GV k
 refine #[u,#[Same.refl _,(h3 u hu).2.1.keep a hm λb n=>h y GG b (s b ((h3 u hu).2.2 b n)),λc e=>.inr #[u,hu,e],λhf=>absurd (h3 u hu).1 hf],q,(h3 u hu).1,rfl]
theorem mY {y:It3} {a:Addr} {ds:List D} {c:List V} (j:∀ H',SqL K H' a c->True) (e:∀ (M:Addr->Prop) (H':Hp),(∀ b,M b->MutAt H b)->(∀ b o,H b=some o->¬ M b->H' b=some o)->(∀ b∈y.L,¬ M b)->SqL K H' a c) :
  ∀ (M:Addr->Prop) (H':Hp),(∀ b,M b->MutAt H b)->(∀ b o,H b=some o->¬ M b->H' b=some o)->(∀ b∈y.L,¬ M b)->(∀ (i:Nat) (v:V),c[i]?=some v->(Itl K a).go i H'/\∀ x F,(Itl K a).yld i H' x F->F=H'/\x=v)/\(Itl K a).stop c.length H':=λM H' hm f g=>by
 have sq:SqL K H' a c:=e M H' hm f g
 refine #[λi v d=>#[#[c,v,sq,d],λx F #[e1,h]=>#[e1,?_]],#[c,sq,GZ _]]
 have:=h c sq
 rw[d] at this
 injection this with this
 exact this.symm
theorem DT (h:tI K G0 W0 (bZ m) Y H R):iSeq K (tE K G0 W0 m) Y H R:=by
 obtain ⟨G,W,le,Z,T,g,o,Z',w,e,q⟩:=h
 have r:∀ x,o=.error x->W x Z':=λx Q=>by subst Q;exact q
 refine tE.seq le w e r λra Z1 e1 v H1 #[Ts,g1,C,a1]=>?_
 obtain ⟨d,d1,u⟩:=aI e1
 obtain ⟨p,F,rfl,rfl⟩:=bA u
 obtain ⟨ds,n,φ⟩:=GJ.mp F
 subst φ
 obtain ⟨y,S,P,I⟩:=a1.item2 C d1
 have N:Itm (Ts++T) g1 y:=by
  rcases I with ⟨i,_,V⟩ | h
  .exact .inl #[i,V]
  .exact .inr (GK _ h)
 have E:=(C.itm N).arg
 have D:∀ J,Walk K J H1 [y] ds->R J H1:=λJ hw=>q J H1 [v] Ts g1 [y] C (by simpa using Ars.cons a1 .nil) (λz hz=>by rw[Hh.mp hz];exact I) hw
 clear e1 u F q
 subst S P
 have f:=E
 obtain ⟨da,σ,s,B⟩:=y
 obtain ⟨t,X⟩:=E
 dsimp only at t n
 cases da with
 | tup xs =>
  obtain ⟨a,j,rfl,b,rs⟩:=t.view
  cases n
  refine .inr #[a,rfl,#[_,SqT.of b],D _ (n6 rs (kR (y:=#[.tup ds,.ref a,s,B]) GG f rfl) (λc l=>l) λM H' hm k A=>?_)]
  have sq:SqT K H' a j:=SqT.of (k a _ b λz=>(hm a z).notup b)
  refine #[λi v L=>#[#[j,v,sq,L],λx O #[e1,u]=>#[e1,?_]],#[j,sq,GZ _]]
  have:=u j sq
  rw[L] at this
  injection this with this
  exact this.symm
 | lst xs =>
  obtain ⟨a,j,s,rfl,rfl,b,rs⟩:=t.view
  cases n
  refine .inl #[a,rfl,#[_,SqL.of b],D _ (n6 rs (md (y:=#[.lst ds,.ref a,a::s,B]) GG f rfl rfl) (λc l=>GH _ l) (mY (ds:=ds) (λ_ _=>trivial) λM H' hm k A=>SqL.of (k a _ b (A a GG))))]
 | fls xs =>
  obtain ⟨a,j,rfl,b,rs⟩:=t.view
  cases n
  refine .inl #[a,rfl,#[_,b.sq],D _ (n6 rs (kR (y:=#[.fls ds,.ref a,s,B]) GG f rfl) (λc l=>l) (mY (ds:=ds) (λ_ _=>trivial) λM H' hm k A=>(b.keep k hm).sq))]
 | _=>exact nsE n
theorem Ez (h:RE X G0 W0 l m):RI X G0 W0 tg l (bZ m):=#[PI.imp (E4 h.h) λ_ _ _ h=>DT h]
def bm (lo:Int) (n:Nat):List D:=(List.range n).map λ(k:Nat)=>D.int (lo+(k:Int))
theorem pG {lo:Int} {n:Nat}:Walk K (Itr lo n) H1 ys (bm lo n):=by
 refine #[[],λx f=>(by cases f),λM H' _ _ _=>#[λi d hd=>?_,?_]]
 .unfold bm at hd
  rw[GY] at hd
  obtain ⟨k,a,b⟩:=GJ.mp hd
  obtain ⟨c,e⟩:=GU.mp a
  rw[List.getElem_range] at e
  subst e
  rw[List.length_range] at c
  refine #[c,λx h #[e1,g]=>?_]
  subst e1
  exact #[#[d,x,[],.z],cy (by rw[<- b,g];exact .int _),rfl,rfl,rfl]
 .show n<=(bm lo n).length
  unfold bm
  simp
def gb (j:Int):Bool:=decide (-(2 ^ 62)<=j/\j < 2 ^ 62)
def dn:List D->Option (List D)
 | [.int j]=>if gb j then some (bm 0 j.toNat) else none
 | _=>none
def jl:List D->Option (List D)
 | [.int i,.int j]=>if gb i && gb j then some (bm i (j - i).toNat) else none
 | _=>none
def bF (f:List D->Option (List D)) (ms:M3 (List R3)):IM:=ag ms λrs=>ag (dz rs) λds=>a9 ((f ds).map λxs=>([],xs))
set_option tactic.hygienic true in
theorem AR (h:tI K G0 W0 (bF dn ms) Y H R):Dq (tA K G0 W0 ms) Y H R:=by
 obtain ⟨G,W,le,Z,T,g,o,Z',w,e,q⟩:=h
 have b:∀ x,o=.error x->W x Z':=λx k=>by subst k;exact q
 refine tA.seq le w e b λrs Z1 e1 t H1 Ts g1 f a1=>?_
 obtain ⟨ds,d1,n⟩:=bL e1
 obtain ⟨p,m,rfl,rfl⟩:=bA n
 obtain ⟨xs,a,s⟩:=GJ.mp m
 subst s
 obtain ⟨ys,i,f1,f2⟩:=a1.items f (λx k=>GK _ k) d1
 subst f1 f2
 match ys,a,i,a1 with
 | [],a,_,_=>exact nsE a
 | y::z::r,a,_,_=>cases hd:y.d <;> (rw[G6,G6,hd] at a;exact nsE a)
 | [y],a,i,a1 =>
  have l:=(f.itm (i y GG)).rep
  cases hd:y.d <;> (rw[G6,hd] at a;try (exact nsE a))
  rename_i j
  rw[hd] at l
  have a:(if gb j then some (bm 0 j.toNat) else none)=some xs:=a
  split at a
  .rename_i c
   cases a
   have c:=of_decide_eq_true c
   refine #[j,by show [y.v]=_;rw[l.int_inv],c.1,c.2,?_]
   exact q _ H1 [] [] g1 [] (f.sub (GW Ts T)) .nil (λ_ h=>by cases h) pG
  .exact nsE a
set_option tactic.hygienic true in
theorem AQ (h:tI K G0 W0 (bF jl ms) Y H R):Dp (tA K G0 W0 ms) Y H R:=by
 obtain ⟨G,W,le,Z,T,g,o,Z',w,e,q⟩:=h
 have b:∀ x,o=.error x->W x Z':=λx m=>by subst m;exact q
 refine tA.seq le w e b λrs Z1 e1 E H1 Ts g1 f a1=>?_
 obtain ⟨ds,d1,A⟩:=bL e1
 obtain ⟨p,t,rfl,rfl⟩:=bA A
 obtain ⟨xs,B,C⟩:=GJ.mp t
 subst C
 obtain ⟨ys,k,f1,f2⟩:=a1.items f (λx m=>GK _ m) d1
 subst f1 f2
 have inv:∀ {ds:List D},jl ds=some xs->∃ i j,ds=[.int i,.int j]/\gb i=true/\gb j=true/\xs=bm i (j - i).toNat:=λ{ds} h=>by
  unfold jl at h
  split at h
  .rename_i i j
   split at h
   .rename_i l
    cases h
    simp only[Bool.and_eq_true] at l
    exact #[i,j,rfl,l.1,l.2,rfl]
   .exact nsE h
  .exact nsE h
 obtain ⟨i,j,a,hi,c,rfl⟩:=inv B
 match ys,a,k,a1 with
 | [],a,_,_=>cases a
 | [y],a,_,_=>exact absurd (congrArg List.length a) (by simp)
 | y::z::u::r,a,_,_=>exact absurd (congrArg List.length a) (by simp)
 | [y,z],a,k,a1 =>
  have s:=(f.itm (k y GG)).rep
  have n:=(f.itm (k z (GH _ GG))).rep
  have h1:y.d=.int i:=by injection a
  have h2:z.d=.int j:=by injection a with _ h;injection h
  rw[h1] at s
  rw[h2] at n
  have hi:=of_decide_eq_true hi
  have c:=of_decide_eq_true c
  refine #[i,j,by show [y.v,z.v]=_;rw[s.int_inv,n.int_inv],#[hi.1,hi.2,c.1,c.2],?_]
  exact q _ H1 [] [] g1 [] (f.sub (GW Ts T)) .nil (λ_ h=>by cases h) pG
theorem Bp (b:Gl X "range") (hm:X.mg "range"=none) (c:RA X G0 W0 [a] ms) (d:starEach [a] X.env=[(false,eval a X.env)]):RI X G0 W0 tg (.Call (.Name "range" p) [a] [] pos) (bF dn ms):=#[PI.imp (wm b hm c.h d) λ_ _ _ h=>AR h]
theorem Bo (d:Gl X "range") (hm:X.mg "range"=none) (e:RA X G0 W0 [a,b] ms) (f:starEach [a,b] X.env=[(false,eval a X.env),(false,eval b X.env)]) (c:starEach [b] X.env=[(false,eval b X.env)]):RI X G0 W0 tg (.Call (.Name "range" p) [a,b] [] pos) (bF jl ms):=#[PI.imp (wl d hm e.h f c) λ_ _ _ h=>AQ h]
end
section
variable {K:FG} {G G0:Gm} {W W0:D->Sto->Prop} {H H':Hp} {Y:St} {Z Z':Sto} {T T':List It3} {g:Nat->Option It3} {x y z:It3} {α β:Type} {X:Cx} {L:List Addr}
def wa (bnd:D->Sto->Option Sto) (m:EM):SM:=ag m λr=>ag (fm r) λp=>λZ=>(bnd p.1 Z).map λZ1=>(.ok .nx,Z1)
theorem DQ (i:Bnd K G0.pr tg bnd) (h:tS K G0 W0 (wa bnd m) E Y H):xM (tE K G0 W0 m) tg E Y H:=by
 refine h.use λG W le Z T g r Z' w e q=>?_
 refine tE.seq le w e q.err λra Z1 e1 v H1 #[Ts,g1,n,a1]=>?_
 obtain ⟨p,Z2,g2,x,k,j,f1,_,_,b⟩:=a1.take n e1
 have c:=Wf.lowT (Ts:=[x]) j
 obtain ⟨Z3,a,l⟩:=GJ.mp k
 cases l
 rw[<- b]
 exact i G H1 Y Z2 _ T g2 (dw x) _ le.pr rfl c (by show bnd x.d Z2=_;rw[f1];exact a) λY2 g3 f=>q _ _ _ f
theorem Ey (d:RG X G0.pr tg bnd) (he:RE X G0 W0 e m) (c:swapsWithSole [tg] e pos.line X.env=pure false) (hw:swappedStores [tg] e X.env=pure none) (h1:(assignEach [tg] X.env).map (·.2)=[assign tg X.env]):RS X G0 W0 (.Assign [tg] e pos) (wa bnd m):=by
 obtain ⟨g,a,b⟩:=d.h
 exact #[PS.imp (yS he.h a c hw h1) λ_ _ _ h=>DQ b h]
theorem sH {i:Nat} {y:Str} (m:X.N.Nodup) (g:X.N[i]?=some y) (k:Loc X.env.scope y) (NY:List Str) (ix:List (Option Nat)) (l:X.calm=true) (hi:RI X G0 W0 tg iter im) (e:∀ s H C fp,PTs (aM X NY scope s H C fp) ifs (tT X.K (bx ix) noX cm)) (he:∀ s H C fp,RE (aM X NY scope s H C fp) (bx ix) noX elt em) (f:ik scope X.N X.env.scope NY ix=true) (a:Inj ix) (c:swapsWith (.ListComp elt [#[tg,iter,ifs,0]] scope pos) (some (.Name y py)) spos.line X.env=pure true) (hf:X.fn y=true\/X.env.scope.names.lookup y=some .local) (d:∀ x,foldedSetIterable iter X.env x=pure x) (j:G0.pr i=false) (b:∃ D,Bnd X.K (bx ix).pr D bnd/\∀ s H C fp,PG (aM X NY scope s H C fp) tg D):RS X G0 W0 (.Assign [.Name y py] (.ListComp elt [#[tg,iter,ifs,0]] scope pos) spos) (aV i (bE im bnd cm em ix)):=by
 obtain ⟨D,b1,b2⟩:=b
 exact #[PS.imp (sM m g k NY ix l hi.h b2 e (λs H C fp=>(he s H C fp).h) f c hf d) λ_ _ _ h=>sj szl a b1 j h]
def isL:D->Bool
 | .lst _=>true
 | _=>false
theorem zI:∀ d v L H,isL d=true->Rep K H d v L->tyV K "list" v H:=λd v L H h r=>by
 cases r with
 | lst ha _=>exact .inl #[rfl,_,SqL.of ha]
 | _=>cases h
def CW:D->List D->Option (D×D)
 | .lst xs,[d]=>if xs.length < 16777216 then some (.lst (xs++[d]),.non) else none
 | _,_=>none
set_option tactic.hygienic true in
theorem FJ:MutD K uK CW:=λa d l as H Q p r m na ra j e q=>by
 cases d with
 | lst xs =>
  obtain ⟨_,g,_,e1,u,k,rs⟩:=r.view
  cases e1
  cases u
  match as,e,ra,j with
  | [],e,_,_=>exact nsE e
  | _::_::_,e,_,_=>exact nsE e
  | [y],e,ra,j =>
   have e:(if xs.length < 16777216 then some (D.lst (xs++[y.d]),D.non) else none)=some p:=e
   split at e
   .rename_i w
    cases e
    refine #[a,g,y.v,rfl,rfl,k,by rw[<- rs.len,<- szl];exact w,?_]
    have t:=ra y GG
    have s:=j y GG
    have ma:MutAt H a:=.inl #[_,k]
    have keep:∀ {d v L},Rep K H d v L->a ∉ L->Rep K (upd H a (.lst (g++[y.v]))) d v L:=λ{d v L} r n=>r.keep (M:=λb=>b=a) (λb o f h=>by rw[ay h];exact f) (λb e=>by rw[e];exact ma) λb f e=>n (by rw[<- e];exact f)
    have keeps:Reps (Rep K (upd H a (.lst (g++[y.v])))) xs g l:=rs.keep (M:=λb=>b=a) (λb o f h=>by rw[ay h];exact f) (λb e=>by rw[e];exact ma) λb f e=>na (by rw[<- e];exact f)
    exact q (.lst (g++[y.v])) (l++(y.L++[])) #[.non,.non,[],.z] (.lst aD (keeps.append (.cons (keep t s) .nil))) rfl (λc i=>by
     rcases GQ.mp i with h | h
     .exact .inl h
     .rw[List.append_nil] at h;exact .inr #[y,GG,h]) rfl rfl .non λc i=>by cases i
   .exact nsE e
 | _=>exact nsE e
def zW:D->List D->Option (D×D)
 | .lst xs,[.lst ys]=>if xs.length+ys.length<=16777216 then some (.lst (xs++ys),.non) else none
 | _,_=>none
theorem ext2 (a:D):zW (.lst xs) (a::b::r)=none:=by cases a <;> rfl
set_option tactic.hygienic true in
theorem FI:MutD K uH zW:=λa d w as H Q p r m na ra k e q=>by
 cases d with
 | lst xs =>
  obtain ⟨_,l,_,e1,A,t,rs⟩:=r.view
  cases e1
  cases A
  match as,e,ra,k with
  | [],e,_,_=>exact nsE e
  | y::_::_,e,_,_=>exact nsE ((ext2 y.d).symm.trans e)
  | [y],e,ra,k =>
   have u:=ra y GG
   have s:=k y GG
   obtain ⟨B,C,F,E⟩:=y
   dsimp only at u s e
   cases B with
   | lst ys =>
    obtain ⟨b,ws,v,rfl,rfl,g,i⟩:=u.view
    have e:(if xs.length+ys.length<=16777216 then some (D.lst (xs++ys),D.non) else none)=some p:=e
    split at e
    .rename_i x
     cases e
     refine #[a,b,l,ws,rfl,rfl,t,g,by rw[<- rs.len,<- i.len,<- szl];exact x,?_]
     have ma:MutAt H a:=.inl #[_,t]
     have keeps:∀ {ds f L},Reps (Rep K H) ds f L->a ∉ L->Reps (Rep K (upd H a (.lst (l++ws)))) ds f L:=λ{ds f L} r n=>r.keep (M:=λb=>b=a) (λb o g h=>by rw[ay h];exact g) (λb e=>by rw[e];exact ma) λb g e=>n (by rw[<- e];exact g)
     exact q (.lst (l++ws)) (w++v) #[.non,.non,[],.z] (.lst aD ((keeps rs na).append (keeps i λh=>s (GH _ h)))) rfl (λc j=>by
      rcases GQ.mp j with h | h
      .exact .inl h
      .exact .inr #[_,GG,GH _ h]) rfl rfl .non λc j=>by cases j
    .exact nsE e
   | _=>exact nsE e
 | _=>exact nsE e
def A5:D->List D->Option (D×D)
 | .lst xs,[.int i,d]=>(ixN xs.length i).map λj=>(.lst (xs.set j d),.non)
 | _,_=>none
theorem Reps.set:∀ {ds:List D} {a:List V} {L L':List Addr} {d:D} {v:V} (j:Nat),Reps (Rep K H) ds a L->Rep K H d v L'->∃ L2,Reps (Rep K H) (ds.set j d) (a.set j v) L2/\∀ c∈L2,c∈L\/c∈L'
 | _,_,_,_,_,_,j,.nil,_=>#[[],.nil,λc F=>by cases F]
 | _,_,_,L',_,_,0,.cons (L:=L1) (L':=L1') r rs,r'=>⟨L'++L1',.cons r' rs,λc F=>by
  rcases GQ.mp F with h | h
  .exact .inr h
  .exact .inl (GL _ h)⟩
 | _,_,_,L',_,_,j+1,.cons (L:=L1) (L':=L1') r rs,r'=>by
  obtain ⟨L2,h1,h2⟩:=Reps.set j rs r'
  refine #[L1++L2,.cons r h1,λc F=>?_]
  rcases GQ.mp F with h | h
  .exact .inl (GK _ h)
  .rcases h2 c h with h | h
   .exact .inl (GL _ h)
   .exact .inr h
theorem set1 (a:D):A5 (.lst xs) [a]=none:=by cases a <;> rfl
theorem set3' (a:D):A5 (.lst xs) (a::b::c::r)=none:=by cases a <;> rfl
theorem Cf:MutD K (lP uF) A5:=λa d x as H Q p r m na ra n e q=>by
 cases d with
 | lst xs =>
  obtain ⟨_,g,_,e1,A,t,rs⟩:=r.view
  cases e1
  cases A
  match as,e,ra,n with
  | [],e,_,_=>exact nsE e
  | [y],e,_,_=>exact nsE ((set1 y.d).symm.trans e)
  | y::_::_::_,e,_,_=>exact nsE ((set3' y.d).symm.trans e)
  | [k,y],e,ra,n =>
   have u:=ra k GG
   have B:=ra y (GH _ GG)
   have w:=n y (GH _ GG)
   obtain ⟨kd,F,E,G⟩:=k
   dsimp only at u
   cases kd with
   | int i =>
    obtain ⟨rfl,rfl⟩:=u.view
    obtain ⟨j,h1,h2⟩:=GJ.mp (show (ixN xs.length i).map (λj=>(D.lst (xs.set j y.d),D.non))=some p from e)
    subst h2
    refine #[.int i,y.v,rfl,a,g,i,j,rfl,rfl,t,by rw[<- rs.len];exact h1,?_]
    have ma:MutAt H a:=.inl #[_,t]
    have s:Rep K (upd H a (.lst (g.set j y.v))) y.d y.v y.L:=B.keep (M:=λb=>b=a) (λb o f h=>by rw[ay h];exact f) (λb e=>by rw[e];exact ma) λb f e=>w (by rw[<- e];exact f)
    have keeps:Reps (Rep K (upd H a (.lst (g.set j y.v)))) xs g x:=rs.keep (M:=λb=>b=a) (λb o f h=>by rw[ay h];exact f) (λb e=>by rw[e];exact ma) λb f e=>na (by rw[<- e];exact f)
    obtain ⟨L2,h3,C⟩:=keeps.set j s
    exact q (.lst (g.set j y.v)) L2 #[.non,.non,[],.z] (.lst aD h3) rfl (λc l=>(C c l).imp id λh=>#[y,GH _ GG,h]) rfl rfl .non λc l=>by cases l
   | _=>exact nsE e
 | _=>exact nsE e
theorem oD {i:Nat} {x:Str} {id:String} (o:PlainAttrs Ty) (slot:Slot Ty nm id) (j:typeOf (.builtin id)=pure (.type "method_descriptor")) (hm:MtR X id r) (l:MutD X.K r f) (hok:∀ d v L H,ok d=true->Rep X.K H d v L->tyV X.K Ty v H) (n:PE X (.Name x pn) (vR i)) (m:RA X G0 W0 (e::es) ms) (c:attributeBase (.Name x pn) nm X.env (eval (.Name x pn) X.env)=eval (.Name x pn) X.env) (g:((backTo cpos (starEach (e::es) X.env)).all (λx=>!x.1) && (backToKw cpos (keywordEach [] X.env)).all (λx=>x.1.isSome) && decide ((e::es).length+([]:List Keyword).length+(if ([]:List Keyword).isEmpty then 0 else 1) < 30))=true) (b:(apos.endLine == cpos.line)=true) (k:starEach (e::es) X.env=(false,eval e X.env)::starEach es X.env) (a:(backTo cpos (starEach es X.env)).any (·.1)=false):RE X G0 W0 (.Call (.Attribute (.Name x pn) nm apos) (e::es) [] cpos) (qC ok f i ms) :=
 #[PE.imp (Dh o slot j hm n m.h c g b k a) λ_ _ _ h=>DY l hok h]
theorem Ev {i:Nat} {x:Str} (b:AD X t) (g:MutD X.K (lP t) f) (c:PE X (.Name x pn) (vR i)) (a:RE X G0 W0 k mk) (d:RE X G0 W0 e mv) (j:∀ v,assign (.Subscript (.Name x pn) k p2) X.env v=(do
   let ov <- holding [v] (eval (.Name x pn) X.env)
   let D <- holding [v,ov] (eval k X.env)
   standAt p2
   holding [v,ov,D] (setItem ov D v)
   release [v,ov,D] [])) (h1:swapsWithSole [.Subscript (.Name x pn) k p2] e pos.line X.env=pure false) (h2:swappedStores [.Subscript (.Name x pn) k p2] e X.env=pure none) (h3:(assignEach [.Subscript (.Name x pn) k p2] X.env).map (·.2)=[assign (.Subscript (.Name x pn) k p2) X.env]):RS X G0 W0 (.Assign [.Subscript (.Name x pn) k p2] e pos) (kO f i mk mv) :=
 #[PS.imp (yS d.h (E5 c a.h b j) h1 h2 h3) λ_ _ _ h=>DK g h]
end
section
variable {K:FG} {G G0:Gm} {W W0:D->Sto->Prop} {H H':Hp} {Y:St} {Z Z':Sto} {T T':List It3} {g:Nat->Option It3} {x y z:It3} {α β:Type} {X:Cx} {L:List Addr}
theorem yw:PTs σ [] (tT K (bx ix) noX b9):=λpins s Y H Q I h=>BD pins s Y H Q I (DH h)
theorem tG (h:(ix.filterMap id).Nodup):Inj ix:=by
 intro j k i a b
 induction ix generalizing j k with
 | nil=>simp at a
 | cons o ix ih =>
  grind
def x5:SM:=λ_=>none
theorem yt:RS X G0 W0 st x5:=⟨PS.imp yR λ_ _ _ h=>by
 refine h.use λG W le Z T g r Z' w e q=>?_
 cases e⟩
theorem xK (ho:OpD K r f) (B:OpD K r' f') (h:tE K G0 W0 (j5 f f' ma mb mc) Y H Q):sy r r' (tE K G0 W0 ma) (tE K G0 W0 mb) (tE K G0 W0 mc) Y H Q:=by
 refine h.use λG W le Z T g o Z' w e q=>?_
 refine tE.seq le w e q.err λra Z1 e1 va H1 #[Ts,g1,w1,a1]=>?_
 refine tE.seq le w1 e1 q.err λrb Z2 e2 vb H2 #[Us,g2,j,a2]=>?_
 obtain ⟨da,d1,e3⟩:=aI e2
 obtain ⟨db,d2,e4⟩:=aI e3
 obtain ⟨k,e5,C⟩:=j8 e4
 obtain ⟨S,E,f1,f2⟩:=a1.item j (λx i=>GL _ (GK _ i)) d1
 obtain ⟨M,N,f3,f4⟩:=a2.item j (λx i=>GK _ i) d2
 obtain ⟨p,I,e8⟩:=Hg.mp e5
 have hp:=Az e8
 subst f1 f2 f4
 rw[<- f3] at I
 refine ho S M H2 _ p (j.itm E).arg (j.itm N).arg I λu H3 F ud uf=>?_
 have w3:=j.push F λc h=>j.kids (ys:=[S,M]) (λy b=>by
  rcases GN.mp b with h | b
  .rw[h];exact E
  .rw[Hh.mp b];exact N) h
 have L:=F.rep
 rw[ud,hp] at L
 refine #[k,L.bl_eq.1,?_]
 have J:=w3.sub (List.sublist_cons_self u _)
 cases k with
 | false =>
  cases C
  have d:=J.sub (T':=T) ((GW Ts T).trans (GW Us _))
  exact q _ _ (d.const (.bl false))
 | true =>
  simp only[if_true] at C ⊢
  refine tE.seq le J C q.err λrc Z5 ρ vc H5 #[m,O,d,a5]=>?_
  obtain ⟨D,σ,t⟩:=aI ρ
  obtain ⟨X,d4,v⟩:=aI t
  obtain ⟨p',a,rfl,rfl⟩:=bA v
  obtain ⟨l,V,f5,f6⟩:=a2.item d (λx i=>GL _ (GK _ i)) σ
  obtain ⟨P,R,f7,f8⟩:=a5.item d (λx i=>GK _ i) d4
  cases z:f' D X with
  | none=>rw[z] at a;exact nsE a
  | some s =>
   rw[z] at a
   cases a
   have φ:=d
   rw[show m++(Us++(Ts++T))=(m++(Us++Ts))++T by simp] at φ
   have A:Itm ((m++(Us++Ts))++T) O l:=by simpa using V
   have n:Itm ((m++(Us++Ts))++T) O P:=by simpa using R
   rw[<- f6,<- f8]
   refine B l P H5 Q s (d.itm V).arg (d.itm R).arg (by rw[f5,f7];exact z) (nQ φ (λy b=>?_) q)
   rcases GN.mp b with h | b
   .rw[h];exact A
   .rw[Hh.mp b];exact n
theorem p9 (k:OpR X (compareOp op) r) (hd:OpD X.K r f) (i:OpR X (compareOp op') r') (d:OpD X.K r' f') (j:RE X G0 W0 a ma) (e:RE X G0 W0 b mb) (g:RE X G0 W0 c mc) (h:PE X a (tE X.K G0 W0 ma)->PE X b (tE X.K G0 W0 mb)->PE X c (tE X.K G0 W0 mc)->PE X (.Compare a [op,op'] [b,c] pos) (sy r r' (tE X.K G0 W0 ma) (tE X.K G0 W0 mb) (tE X.K G0 W0 mc))):RE X G0 W0 (.Compare a [op,op'] [b,c] pos) (j5 f f' ma mb mc):=#[PE.imp (h j.h e.h g.h) λ_ _ _ h=>xK hd d h]
theorem iQ (c:OpR X (compareOp op) r) (hd:OpD X.K r f) (e:RE X G0 W0 a ma) (d:RE X G0 W0 b mb) (hm:behindInMarks op b=false):RT X G0 W0 (.Compare a [op] [b] pos) (cB (ah f ma mb)):=#[PT.imp (BE c e.h d.h hm) λ_ _ _ h=>n9 hd (tT_b h)]
def ic (n:Nat):List D->List D
 | []=>[]
 | d::ds=>.tup [.int n,d]::ic (n+1) ds
theorem ki:∀ {ds:List D} {n i:Nat},(ic n ds)[i]?=(ds[i]?).map λd=>.tup [.int ((n+i:Nat):Int),d]
 | [],n,i=>by simp[ic]
 | d::ds,n,0=>by simp[ic]
 | d::ds,n,i+1=>by
  show (ic (n+1) ds)[i]?=_
  rw[ki]
  simp only[List.getElem?_cons_succ]
  rw[show n+1+i=n+(i+1) by lia]
theorem kh:∀ {ds:List D} {n:Nat},(ic n ds).length=ds.length
 | [],_=>rfl
 | d::ds,n=>by simp[ic,kh]
def tJ (ms:M3 (List R3)):IM:=ag ms λrs=>ag (dz rs) λds=>a9 (match ds with
 | [.lst xs]=>some (rs,ic 0 xs)
 | _=>none)
theorem AT (h:tI K G0 W0 (tJ ms) Y H R):Ds K (tA K G0 W0 ms) Y H R:=by
 obtain ⟨G,W,le,Z,T,g,o,Z',w,e,q⟩:=h
 have m:∀ x,o=.error x->W x Z':=λx s=>by subst s;exact q
 refine tA.seq le w e m λrs Z1 e1 j H1 Ts g1 E a1=>?_
 obtain ⟨ds,d1,B⟩:=bL e1
 obtain ⟨p,n,rfl,rfl⟩:=bA B
 have inv:∃ xs,ds=[.lst xs]/\p=(rs,ic 0 xs):=by
  split at n
  .cases n;exact #[_,rfl,rfl]
  .exact nsE n
 obtain ⟨xs,rfl,rfl⟩:=inv
 match rs,d1,a1,q with
 | [],d1,_,_=>cases d1
 | r::r'::rs,d1,_,_ =>
  obtain ⟨_,_,f⟩:=aI (k:=λd=>ag (dz (r'::rs)) λds=>aY (d::ds)) d1
  obtain ⟨X,e6,e7⟩:=bL f
  obtain ⟨_,_,e8⟩:=aI (k:=λd=>ag (dz rs) λds=>aY (d::ds)) e6
  obtain ⟨ρ,_,e9⟩:=bL e8
  cases e9
  cases e7
 | [r],d1,a1,q =>
  obtain ⟨d,t,f⟩:=aI (k:=λd=>ag (dz []) λds=>aY (d::ds)) d1
  have hd:d=.lst xs:=by
   have f:some ((.ok [d],Z'):Except D (List D)×Sto)=some (.ok [.lst xs],Z'):=f
   cases f;rfl
  subst hd
  cases a1 with
  | @cons _ v Ts1 _ vs1 Us1 a as =>
   cases as with
   | nil =>
    obtain ⟨y,P,y2,φ⟩:=Ar.item2 (T:=T) (by simpa using E) a t
    have hy:Itm (([]++Ts1)++T) g1 y:=by
     rcases φ with ⟨i,_,ei⟩ | h
     .exact .inl #[i,ei]
     .exact .inr (by simpa using GK T h)
    have Q:=(E.itm hy).arg
    have qq:∀ J,Walk K J H1 [y] (ic 0 xs)->R J H1:=λJ hw=>q J H1 [v] ([]++Ts1) g1 [y] E (.cons a .nil) (λz hz=>by
     rw[Hh.mp hz]
     rcases φ with h | h
     .exact .inl h
     .exact .inr (by simpa using h)) hw
    clear q
    subst y2
    have A:=Q
    obtain ⟨yd,yv,yL,yf⟩:=y
    obtain ⟨N,oo⟩:=Q
    dsimp only at N P
    subst P
    cases N with
    | @lst _ pa j La ha rs =>
     refine #[pa,rfl,#[_,SqL.of ha],qq _ ?_]
     obtain ⟨ws,h1,h2,h3⟩:=Reps.split rs
     refine #[ws,λx s=>#[(h3 x s).1,(h3 x s).2.1,λc C=>md (y:=#[.lst xs,.ref pa,pa::La,yf]) GG A rfl rfl c ((h3 x s).2.2 c C)],λM H' hm I S=>?_]
     have sq:SqL K H' pa j:=SqL.of (I pa _ ha (S _ GG pa GG))
     refine #[λi d hd=>?_,by rw[kh];exact #[j,sq,by rw[<- rs.len];exact GZ _]]
     rw[ki] at hd
     obtain ⟨F,l,rfl⟩:=GJ.mp hd
     have hw:∃ u,ws[i]?=some u/\u.d=F:=by
      rw[<- h1,GY] at l
      obtain ⟨u,a,b⟩:=GJ.mp l
      exact #[u,a,b]
     obtain ⟨u,O,ud⟩:=hw
     have V:j[i]?=some u.v:=by rw[<- h2,GY,O];rfl
     have hu:=GV O
     refine #[#[j,u.v,sq,V],λx ab #[Tt,yv,e1,B,n,t]=>?_]
     have f:=t j sq
     rw[V] at f
     cases f
     subst e1 n
     have ru:Rep K H' u.d u.v u.L:=(h3 u hu).2.1.keep I hm λb σ=>S _ GG b (GH _ ((h3 u hu).2.2 b σ))
     refine #[#[.tup [.int ((0+i:Nat):Int),F],.ref Tt,[]++(u.L++[]),.z],zk B (.cons (L:=[]) (by rw[Ha];exact .int _) (.cons (by rw[<- ud];exact ru) .nil)) (λc C=>#[u,hu,by simpa using C]),rfl,rfl,rfl]
theorem Br {k:Nat} (b:Gl X "enumerate") (hm:X.mg "enumerate"=none) (c:RA X G0 W0 [a] ms) (d:starEach [a] X.env=[(false,eval a X.env)]):RI X G0 W0 (.Tuple elts k tp) (.Call (.Name "enumerate" p) [a] [] pos) (tJ ms):=#[PI.imp (BN b hm c.h d) λ_ _ _ h=>AT h]
end
end L3
namespace L3
theorem BI {i:Nat} (h:mask.length<=i):prM mask i=false:=by
 unfold prM
 rw[List.getElem?_eq_none h]
end L3
end
section
namespace L3
open PySem L2
structure Bl (mg:Str->Option Value):Prop where
 len:mg "len"=none
 range:mg "range"=none
 abs:mg "abs"=none
 divmod:mg "divmod"=none
 enumerate:mg "enumerate"=none
 tuple:mg "tuple"=none
 isinstance:mg "isinstance"=none
 int:mg "int"=none
 bool:mg "bool"=none
 all:mg "all"=none
 str:mg "str"=none
 max:mg "max"=none
 min:mg "min"=none
 list:mg "list"=none
 dict:mg "dict"=none
 repr:mg "repr"=none
 sorted:mg "sorted"=none
 set:mg "set"=none
 zip:mg "zip"=none
 reversed:mg "reversed"=none
 sum:mg "sum"=none
theorem DB:bootBuiltins "len"=some (.builtin "len"):=by decide +kernel
theorem b_abs:bootBuiltins "abs"=some (.builtin "abs"):=by decide +kernel
theorem Ay:bootBuiltins "divmod"=some (.builtin "divmod"):=by decide +kernel
theorem vG:bootBuiltins "tuple"=some (.type "tuple"):=by decide +kernel
theorem pD:bootBuiltins "isinstance"=some (.builtin "isinstance"):=by decide +kernel
theorem b_int:bootBuiltins "int"=some (.type "int"):=by decide +kernel
theorem Gv:bootBuiltins "bool"=some (.type "bool"):=by decide +kernel
theorem b_all:bootBuiltins "all"=some (.builtin "all"):=by decide +kernel
theorem b_str:bootBuiltins "str"=some (.type "str"):=by decide +kernel
theorem b_max:bootBuiltins "max"=some (.builtin "max"):=by decide +kernel
theorem b_min:bootBuiltins "min"=some (.builtin "min"):=by decide +kernel
theorem ue:bootBuiltins "dict"=some (.type "dict"):=by decide +kernel
theorem Gu:bootBuiltins "repr"=some (.builtin "repr"):=by decide +kernel
theorem rS:bootBuiltins "sorted"=some (.builtin "sorted"):=by decide +kernel
section
variable {K:FG} {G G0:Gm} {W W0:D->Sto->Prop} {H H':Hp} {Y:St} {Z Z':Sto} {T T':List It3} {g:Nat->Option It3} {x y z:It3} {α β:Type} {X:Cx} {L:List Addr}
theorem uo (h:tE K G0 W0 m Y H Q) (f:∀ v H,Q v H->Q' v H):tE K G0 W0 m Y H Q':=by
 refine h.use λG W le Z T g o Z' w e q=>?_
 refine tE.mk le w e ?_
 cases o with
 | ok r=>exact λv H' g=>f v H' (q v H' g)
 | error x=>exact q
def Dn:D->Option String
 | .non=>some "NoneType" | .bl _=>some "bool" | .int _=>some "int" | .str _=>some "str"
 | .tup _=>some "tuple" | .lst _=>some "list" | .fls _=>some "list" | .dk _=>some "dict" | .dt _=>some "dict" | .exc _ _=>none | .desk _ _=>none
def i6 (t:String) (d:D):Option (D×Fl):=(Dn d).map λk=>(.bl (oX k t),.z)
theorem Rep.kind (r:Rep K H d v L) (e:Dn d=some k):KindOf K H v k:=by
 cases r with
 | non=>cases e;exact .non
 | bl b=>cases e;exact .bool b
 | int i=>cases e;exact .int i
 | str s=>cases e;exact .str s
 | tup h _=>cases e;exact .tuple (SqT.of h)
 | lst h _=>cases e;exact .list (SqL.of h)
 | lstF h _=>cases e;exact .list h.sq
 | dK h _ _=>cases e;exact .dK h
 | dT h _ _=>cases e;exact .dT h
 | exc _ _=>cases e
 | excV _ _ _ _ _ _ _ _=>cases e
 | desk _ _ _ _=>cases e
theorem oE (l:CallR X (.builtin "isinstance") (λxs H Q=>∃ x k,xs=[x,.ty t]/\KindOf X.K H x k/\Q (.bl (oX k t)) H)) (f:Gl X "isinstance") (hm:X.mg "isinstance"=none) (i:PE X (.Name tn pT) (tC (.ty t))) (g:RE X G0 W0 a ma) (b:starEach [a,.Name tn pT] X.env=(false,eval a X.env)::starEach [.Name tn pT] X.env) (c:starEach [.Name tn pT] X.env=(false,eval (.Name tn pT) X.env)::starEach [] X.env) (d:(backTo pos (starEach [.Name tn pT] X.env)).any (·.1)=false):RE X G0 W0 (.Call (.Name "isinstance" p) [a,.Name tn pT] [] pos) (mUn (i6 t) ma) :=
 ⟨PE.imp (lW l f hm pD (jr g.h (jr i oN c) b) (by decide) (by decide) b d) λY H Q h=>by
  have h:=C4 (r:=λx H Q=>∃ k,KindOf X.K H x k/\Q (.bl (oX k t)) H) (λa H Q p ra e q=>by
   obtain ⟨k,h1,h2⟩:=GJ.mp e
   subst h2
   exact #[k,ra.rep.kind h1,q #[.bl (oX k t),.bl (oX k t),[],.z] H (cy (.bl _)) rfl rfl]) h
  refine uo h λx H1 #[k,j,q]=>?_
  exact ⟨x,k,rfl,j,q⟩⟩
def zF:D->Option Key
 | .int i=>some (.inl i)
 | .str s=>some (.inr s)
 | _=>none
def ci:List D->Option (List Key)
 | []=>some []
 | d::ds=>match zF d,ci ds with
  | some k,some ks=>some (k::ks)
  | _,_=>none
theorem wL (r:Rep K H d v L) (e:zF d=some k):v=kV k:=by
 cases r <;> cases e <;> rfl
theorem dh:∀ {ds:List D} {a:List V} {L:List Addr} {ks:List Key},Reps (Rep K H) ds a L->ci ds=some ks->a=ks.map kV
 | _,_,_,ks,.nil,e=>by cases e;rfl
 | _,_,_,ks,.cons (d:=d) (ds:=ds) r rs,e=>by
  unfold ci at e
  cases h1:zF d with
  | none=>rw[h1] at e;exact nsE e
  | some k =>
   cases h2:ci ds with
   | none=>rw[h1,h2] at e;exact nsE e
   | some ks' =>
    rw[h1,h2] at e
    cases e
    rw[wL r h1,dh rs h2];rfl
def b8 (kvs:List (List Key×D)) (k:List Key):Option D:=(kvs.find? λa=>decide (a.1=k)).map (·.2)
def dL (kvs:List (List Key×D)) (k:List Key) (v:D):List (List Key×D) :=
 if (kvs.any λa=>decide (a.1=k))=true then kvs.map (λa=>if a.1=k then (a.1,v) else a) else kvs++[(k,v)]
theorem jH:∀ {kvs:List (List Key×D)} {ps:List (List Key×V)} {L:List Addr} {k:List Key} {d:D},kvs.map (·.1)=ps.map (·.1)->Reps (Rep K H) (kvs.map (·.2)) (ps.map (·.2)) L->b8 kvs k=some d->∃ v L',eJ ps k=some v/\Rep K H d v L'/\∀ c∈L',c∈L
 | [],ps,L,k,d,hk,r,e=>by cases e
 | I::kvs,[],L,k,d,hk,r,e=>by cases hk
 | I::kvs,p::ps,L,k,d,hk,r,e=>by
  have F:I.1=p.1/\kvs.map (·.1)=ps.map (·.1):=by simpa using hk
  generalize f:(I::kvs).map (·.2)=xs at r
  generalize g:(p::ps).map (·.2)=ys at r
  cases r with
  | nil=>cases f
  | cons a as =>
   cases f
   cases g
   unfold b8 at e
   rw[List.find?_cons] at e
   by_cases h:I.1=k
   .rw[G7 h] at e
    cases e
    exact #[_,_,gg (F.1.symm.trans h),a,λc b=>GK _ b]
   .rw[G8 h] at e
    obtain ⟨v,L',h1,h2,h3⟩:=jH F.2 as e
    exact #[v,L',by rw[gh (λz=>h (F.1.trans z))];exact h1,h2,λc b=>GL _ (h3 c b)]
def qU:D->D->Option (D×Fl)
 | .dt kvs,.tup ks=>match ci ks with
  | some k=>(b8 kvs k).map λd=>(d,.z)
  | none=>none
 | _,_=>none
def uI:R2:=λx y H Q=>∃ a v,x=.ref a/\DGet H a y (some v)/\Q v H
theorem B7:OpD K uI qU:=λa b H Q p ra rb e q=>by
 obtain ⟨da,C,u,o⟩:=a
 obtain ⟨db,s,A,w⟩:=b
 have g:=ra
 obtain ⟨ra,x⟩:=ra
 obtain ⟨rb,ob⟩:=rb
 dsimp only at ra rb e
 cases da with
 | dt kvs =>
  obtain ⟨f,ps,i,rfl,rfl,⟨n,r⟩,j,rs⟩:=ra.view
  cases db with
  | tup ks =>
   obtain ⟨B,ws,rfl,l,h⟩:=rb.view
   have e:(match ci ks with | some k=>(b8 kvs k).map λd=>(d,Fl.z) | none=>none)=some p:=e
   cases h1:ci ks with
   | none=>rw[h1] at e;exact nsE e
   | some k =>
    rw[h1] at e
    obtain ⟨d,h2,h3⟩:=GJ.mp (show (b8 kvs k).map (λd=>(d,Fl.z))=some p from e)
    subst h3
    have hw:=dh h h1
    subst hw
    obtain ⟨v,L',g1,g2,g3⟩:=jH j rs h2
    refine #[f,v,rfl,by rw[<- g1];exact DGet.t r l,q #[d,v,L',.z] H (oO g2 λc m=>?_) rfl rfl]
    exact md (y:=#[.dt kvs,.ref f,f::i,o]) GG g rfl rfl c (g3 c m)
  | _=>exact nsE e
 | _=>exact nsE e
open PySem.Spec PyProof.Rows in
theorem Cy (hu:X.A.units+1 < cLine):IxR X uI:=by
 intro value slice pins s Y H x y v u Q I j i h d
 obtain ⟨a,w,rfl,g,q⟩:=h
 cases j
 have c:=q9 I g
 unfold subscriptTail
 refine GC ?_
 rw[getitemInPython_of_ne c.not_modules]
 refine GC (wpAny_specialOf c PySem.F.slot_dict_getitem.lookup ?_)
 have fin:wpAny (model X.prog X.w) X.A (subscripted slice false (.ref a) u) (λr e=>wpAny (model X.prog X.w) X.A (letTemporaryGo value (.ref a) r >>= λ_=>pure r) (EP X pins Y Q) X.xe e) X.xe s:=by
  rw[d]
  exact wpAny_operating (wY hu I g i λk s3 f b=>GC (wpAny_letTemporaryGo (GD #[w,H,f,b,q])))
 first
  | exact GD (GC fin)
  | exact GC (GD (GC fin))
  | exact GC fin
abbrev aA:=orD ixD qU
theorem Fs:OpD K (λx y H Q=>(yK K x y H Q\/yJ K x y H Q)\/uI x y H Q) aA:=od_ix.or B7
theorem FX (hu:X.A.units+1 < cLine):IxR X (λx y H Q=>(yK X.K x y H Q\/yJ X.K x y H Q)\/uI x y H Q):=ix_ok.or (Cy hu)
def l8:EM:=aY (.val (.dt []) .u)
theorem yB:RE X G0 W0 (.Dict [] [] pos) l8:=⟨PE.imp y8 λY H Q h=>by
 refine h.use λG W le Z T g o Z' w e q=>?_
 cases e
 intro p a
 refine q _ _ (Wf.done (Us:=[]) (ys:=[]) (x:=#[.dt [],.ref p,[p],.u]) w (λ_ h=>(by cases h)) #[ba a,.dT aD rfl .nil,λc b=>?_,λ_=>#[rfl,p,[],rfl,rfl,(by simp),a]])
 rw[Hh.mp b];exact .inl a⟩
def uN:D->List D->Option (D×D)
 | .dt kvs,[.tup ks,v]=>match ci ks with
  | some k=>if kvs.length < 16777216 then some (.dt (dL kvs k v),.non) else none
  | none=>none
 | _,_=>none
def uG:CZ:=λo i v H Q=>∃ a H',o=.ref a/\DPut H a i v H'/\Q H'
theorem xZ (hu:X.A.units+1 < cLine):AD X uG:=by
 intro pins s Y H o i v ov f u Q I d e b h
 obtain ⟨a,H',rfl,g,q⟩:=h
 cases d
 exact wX hu I g e b λs' c=>#[H',c,q]
theorem qe:∀ {kvs:List (List Key×D)} {ps:List (List Key×V)} {L L':List Addr} {k:List Key} {d:D} {v:V},kvs.map (·.1)=ps.map (·.1)->Reps (Rep K H) (kvs.map (·.2)) (ps.map (·.2)) L->Rep K H d v L' ->
  ∃ L2,Reps (Rep K H) ((kvs.map λF=>if F.1=k then (F.1,d) else F).map (·.2)) ((ps.map λF=>if F.1=k then (F.1,v) else F).map (·.2)) L2/\(∀ c∈L2,c∈L\/c∈L')
 | [],[],L,L',k,d,v,hk,r,rd=>#[[],.nil,λc J=>by cases J]
 | [],_::_,_,_,_,_,_,hk,_,_=>by cases hk
 | _::_,[],_,_,_,_,_,hk,_,_=>by cases hk
 | F::kvs,p::ps,L,L',k,d,v,hk,r,rd=>by
  have I:F.1=p.1/\kvs.map (·.1)=ps.map (·.1):=by simpa using hk
  generalize b:(F::kvs).map (·.2)=xs at r
  generalize e:(p::ps).map (·.2)=ys at r
  cases r with
  | nil=>cases b
  | @cons _ _ L1 _ _ L1' a as =>
   cases b
   cases e
   obtain ⟨L2,h1,h2⟩:=qe (k:=k) I.2 as rd
   by_cases h:F.1=k
   .refine #[L'++L2,?_,λc J=>?_]
    .simp only[G6,if_pos h,if_pos (I.1.symm.trans h)]
     exact .cons rd h1
    .rcases GQ.mp J with z | z
     .exact .inr z
     .rcases h2 c z with y | y
      .exact .inl (GL _ y)
      .exact .inr y
   .refine #[L1++L2,?_,λc J=>?_]
    .simp only[G6,if_neg h,if_neg (λz=>h (I.1.trans z))]
     exact .cons a h1
    .rcases GQ.mp J with z | z
     .exact .inl (GK _ z)
     .rcases h2 c z with y | y
      .exact .inl (GL _ y)
      .exact .inr y
theorem AA {kvs:List (List Key×D)} {ps:List (List Key×V)} (a:kvs.map (·.1)=ps.map (·.1)):(kvs.any λF=>decide (F.1=k))=ps.any λF=>decide (F.1=k):=by
 have h1:(kvs.any λF=>decide (F.1=k))=(kvs.map (·.1)).any λx=>decide (x=k):=by rw[List.any_map];rfl
 have h2:(ps.any λF=>decide (F.1=k))=(ps.map (·.1)).any λx=>decide (x=k):=by rw[List.any_map];rfl
 rw[h1,h2,a]
theorem qw {kvs:List (List Key×α)} {d:α}:(kvs.map λD=>if D.1=k then (D.1,d) else D).map (·.1)=kvs.map (·.1):=by
 rw[Hs]
 refine Ht λD _=>?_
 show (if D.1=k then (D.1,d) else D).1=D.1
 split <;> rfl
theorem put1 (a:D):uN (.dt kvs) [a]=none:=by cases a <;> rfl
theorem put3' (a:D):uN (.dt kvs) (a::b::c::r)=none:=by cases a <;> rfl
set_option tactic.hygienic true in
theorem Cg:MutD K (lP uG) uN:=λa d s as H Q p r m na ra u e q=>by
 cases d with
 | dt kvs =>
  obtain ⟨_,ps,_,e1,E,⟨n,x⟩,i,rs⟩:=r.view
  cases e1
  cases E
  match as,e,ra,u with
  | [],e,_,_=>exact nsE e
  | [y],e,_,_=>exact nsE ((put1 y.d).symm.trans e)
  | y::_::_::_,e,_,_=>exact nsE ((put3' y.d).symm.trans e)
  | [k,y],e,ra,u =>
   have A:=ra k GG
   have G:=ra y (GH _ GG)
   have B:=u y (GH _ GG)
   obtain ⟨kd,J,I,N⟩:=k
   dsimp only at A
   cases kd with
   | tup ks =>
    obtain ⟨F,ws,rfl,f,w⟩:=A.view
    have e:(match ci ks with | some k=>if kvs.length < 16777216 then some (D.dt (dL kvs k y.d),D.non) else none | none=>none)=some p:=e
    cases h1:ci ks with
    | none=>rw[h1] at e;exact nsE e
    | some key =>
     rw[h1] at e
     dsimp only at e
     split at e
     .rename_i C
      cases e
      have hw:=dh w h1
      subst hw
      have hlen:kvs.length=ps.length:=by have:=congrArg List.length i;simpa using this
      refine #[.ref F,y.v,rfl,a,_,rfl,DPut.t x f (by rw[<- hlen,<- szl];exact C),?_]
      have ma:MutAt H a:=.inr (.inr (.inl #[_,_,x]))
      have g:Rep K (upd H a (.dT (fM ps key y.v) n)) y.d y.v y.L:=G.keep (M:=λb=>b=a) (λb o f h=>by rw[ay h];exact f) (λb e=>by rw[e];exact ma) λb f e=>B (by rw[<- e];exact f)
      have keeps:Reps (Rep K (upd H a (.dT (fM ps key y.v) n))) (kvs.map (·.2)) (ps.map (·.2)) s:=rs.keep (M:=λb=>b=a) (λb o f h=>by rw[ay h];exact f) (λb e=>by rw[e];exact ma) λb f e=>na (by rw[<- e];exact f)
      have fin:∃ l,Reps (Rep K (upd H a (.dT (fM ps key y.v) n))) ((dL kvs key y.d).map (·.2)) ((fM ps key y.v).map (·.2)) l/\(∀ c∈l,c∈s\/c∈y.L)/\(dL kvs key y.d).map (·.1)=(fM ps key y.v).map (·.1):=by
       generalize upd H a (HO.dT (fM ps key y.v) n)=H2 at keeps g ⊢
       unfold dL fM
       rw[AA i]
       split
       .obtain ⟨L2,g1,g2⟩:=qe (k:=key) i keeps g
        exact #[L2,g1,g2,by rw[qw,qw];exact i]
       .refine #[s++(y.L++[]),?_,λc j=>?_,by rw[List.map_append,List.map_append,i];rfl]
        .rw[List.map_append,List.map_append]
         exact keeps.append (.cons g .nil)
        .rcases GQ.mp j with z | z
         .exact .inl z
         .rw[List.append_nil] at z;exact .inr z
      obtain ⟨l,g1,g2,g3⟩:=fin
      exact q (.dT (fM ps key y.v) n) l #[.non,.non,[],.z] (.dT aD g3 g1) rfl (λc j=>(g2 c j).imp id λh=>#[y,GH _ GG,h]) rfl rfl .non λc j=>by cases j
     .exact nsE e
   | _=>exact nsE e
 | _=>exact nsE e
def Fh (f g:D->List D->Option (D×D)) (a:D) (b:List D):Option (D×D):=match f a b with
 | some p=>some p
 | none=>g a b
theorem MutD.or {f g:D->List D->Option (D×D)} (h:MutD K r f) (h':MutD K r' g):MutD K (λx y H Q=>r x y H Q\/r' x y H Q) (Fh f g):=λa d c as H Q p r m na ra i e q=>by
 unfold Fh at e
 cases b:f d (as.map (·.d)) with
 | some p'=>rw[b] at e;cases e;exact .inl (h a d c as H Q _ r m na ra i b q)
 | none=>rw[b] at e;exact .inr (h' a d c as H Q p r m na ra i e q)
abbrev jV:=Fh A5 uN
theorem FH:MutD K (lP λo i v H Q=>uF o i v H Q\/uG o i v H Q) jV:=λa d c as H Q p r m na ra b e q=>by
 rcases MutD.or Cf Cg a d c as H Q p r m na ra b e q with ⟨k,v,h1,h2⟩ | ⟨k,v,h1,h2⟩
 .exact #[k,v,h1,.inl h2]
 .exact #[k,v,h1,.inr h2]
theorem A4 (hu:X.A.units+1 < cLine):AD X (λo i v H Q=>uF o i v H Q\/uG o i v H Q):=by
 intro pins s Y H o i v ov a u Q I c d b h
 rcases h with h | h
 .exact xY pins s Y H o i v ov a u Q I c d b h
 .exact xZ hu pins s Y H o i v ov a u Q I c d b h
end
section
open PySem.Spec PyProof.Rows HT
variable {prog:Program} {w:World} {A:Around} {E:Value->Shared->Prop} {s:Shared}
theorem iK {lo hi:Option Int} (a:IsTup s.heap t items) (e:s.heap.IsSliceOf sl vl vu .none) (pl:IsPart vl lo) (pu:IsPart vu hi) (hw:sIx items.size 0 lo=0/\sIx items.size items.size hi=items.size) (h:Q (.ref t) s) (hsz:items.size<=sizeLine):wpAny (model prog w) A (getItem (.ref t) (.ref sl)) Q E s:=by
 obtain ⟨os,c,b,f⟩:=id e
 have d:s.TypeIs (.ref sl) "slice":=#[os,c,b]
 unfold getItem
 try with_reducible refine GF ?_
 first | refine GC (GD ?_) | skip
 refine GC (wpAny_sequenceKey a.typeIs (by decide) ?_)
 refine GC (wpAny_callSpecial?_slot (name:=Str.ofString "__getitem__") a.typeIs PyProof.Rows.slot_tuple_getitem
  (wpAny_call_entry PyProof.Rows.slot_tuple_getitem a.typeIs entry_tuple_getitem ?_ (args_tuple_getitem _ _)))
 show wpAny _ _ (Builtin.Tuple.tupleItemsOf (.ref t) >>= _) _ _ s
 refine GC (tupleItemsOf_ a ?_)
 refine GC (wpAny_typeOf d ?_)
 rw[if_pos (by decide)]
 refine GC (fq e pl pu ?_)
 show wpAny _ _ (if (((sIx items.size 0 lo:Nat):Int) == 0 && (1:Int) == 1 && (sIx items.size items.size hi - sIx items.size 0 lo) == items.size)=true then _ else _) _ _ s
 rw[if_pos (by simp[hw.1,hw.2])]
 refine GC ?_
 unfold Builtin.Tuple.tupleIsExact
 refine GC (wpAny_typeOf a.typeIs ?_)
 refine GD ?_
 rw[if_pos (by decide)]
 exact GC (wpAny_rule (GD #[_,rfl,GD h]))
end
section
variable {K:FG} {G G0:Gm} {W W0:D->Sto->Prop} {H H':Hp} {Y:St} {Z Z':Sto} {T T':List It3} {g:Nat->Option It3} {x y z:It3} {α β:Type} {X:Cx} {L:List Addr}
def yF (K:FG):V->Option Int->Option Int->Hp->VK->Prop:=λx lo hi H Q=>∃ a xs,x=.ref a/\SqT K H a xs/\(HT.sIx xs.length 0 lo=0/\HT.sIx xs.length xs.length hi=xs.length)/\Q (.ref a) H
theorem AZ:SlR X (yF X.K):=by
 intro pins s Y H x v f g lo hi sl Q I e c pl pu h
 obtain ⟨a,xs,rfl,d,hw,q⟩:=h
 cases e
 obtain ⟨its,r,b,hz⟩:=I.tuple d
 have hlen:its.toArray.size=xs.length:=by rw[G5];exact r.length.symm
 refine #["tuple",_,PyProof.Rows.slot_tuple_getitem.lookup,b.typeIs,?_]
 exact iK b c pl pu (by rw[hlen];exact hw) #[.ref a,H,I,rfl,q] (by rw[hlen];exact hz)
def asI:D->Option Int
 | .int i=>some i
 | _=>none
def qh:M3 (Option Int):=aY none
def nz (m:EM):M3 (Option Int):=ag m λr=>ag (der r) λd=>a9 ((asI d).map some)
def EndP (K:FG) (G:Gm) (W:D->Sto->Prop) (Y:St) (T:List It3) (Z':Sto) (Q:Option Int->Hp->Prop):Except D (Option Int)->Prop
 | .ok b=>∀ H' g',Wf K G H' Y Z' T g'->Q b H'
 | .error e=>W e Z'
def tP (K:FG) (G0:Gm) (W0:D->Sto->Prop) (m:M3 (Option Int)):TO:=λY H Q=>∃ G W,Le K G W G0 W0/\∃ Z T g r Z',Wf K G H Y Z T g/\m Z=some (r,Z')/\EndP K G W Y T Z' Q r
structure RP (X:Cx) (G0:Gm) (W0:D->Sto->Prop) (e:Option Expr) (m:M3 (Option Int)):Prop where
 h:PO X e (tP X.K G0 W0 m)
theorem PO.imp (h:PO X e t) (f:∀ Y H Q,t' Y H Q->t Y H Q):PO X e t':=λpins s Y H Q I q=>h pins s Y H Q I (f Y H Q q)
theorem Bk:RP X G0 W0 none qh:=⟨PO.imp BK λY H Q h=>by
 obtain ⟨G,W,le,Z,T,g,r,Z',w,e,q⟩:=h
 cases e
 exact q _ _ w⟩
theorem Bj (h:RE X G0 W0 e m):RP X G0 W0 (some e) (nz m):=⟨PO.imp (BJ h.h) λY H Q h=>by
 obtain ⟨G,W,le,Z,T,g,r,Z',w,e,q⟩:=h
 have a:∀ x,r=.error x->W x Z':=λx f=>by subst f;exact q
 refine tE.seq le w e a λra Z1 e1 v H1 #[Ts,g1,c,a1]=>?_
 obtain ⟨d,d1,k⟩:=aI e1
 obtain ⟨o,j,rfl,rfl⟩:=bA k
 obtain ⟨i,l,p⟩:=GJ.mp j
 subst p
 obtain ⟨y,n,f1,f2⟩:=a1.item c (λx f=>GK _ f) d1
 have b:=(c.itm n).rep
 rw[f1] at b
 have hd:d=.int i:=by cases d <;> cases l;rfl
 rw[hd] at b
 refine ⟨i,by rw[<- f2];exact b.int_inv,q _ _ (c.sub (GW Ts T))⟩⟩
def mSl (f:D->Option Int->Option Int->Option (D×Fl)) (ma:EM) (pl pu:M3 (Option Int)):EM:=ag ma λra=>ag pl λlo=>ag pu λhi=>ag (der ra) λd=>a9 ((f d lo hi).map λp=>R3.val p.1 p.2)
def SlD (K:FG) (r:V->Option Int->Option Int->Hp->VK->Prop) (f:D->Option Int->Option Int->Option (D×Fl)):Prop:=∀ (a:It3) (lo hi:Option Int) (H:Hp) (Q:VK) (p:D×Fl),Arg K H a->f a.d lo hi=some p ->
 (∀ w H',New K H H' (eG [a]) w->w.d=p.1->w.f=p.2->Q w.v H')->r a.v lo hi H Q
theorem tP.seq (le:Le K G W G0 W0) (w:Wf K G H Y Z T g) (e:ag ma k Z=some (r,Z')) (he:∀ x,r=.error x->W x Z') (h:∀ b Z1,k b Z1=some (r,Z')->∀ H1 g1,Wf K G H1 Y Z1 T g1->P b H1):tP K G0 W0 ma Y H P:=by
 unfold ag at e
 cases q:ma Z with
 | none=>rw[q] at e;exact nsE e
 | some p =>
  obtain ⟨o,Z1⟩:=p
  rw[q] at e
  cases o with
  | error x=>cases e;exact #[G,W,le,Z,T,g,.error x,Z',w,q,he x rfl]
  | ok ra=>exact #[G,W,le,Z,T,g,.ok ra,Z1,w,q,h ra Z1 e]
theorem tE_sl (hd:SlD K r f) (h:tE K G0 W0 (mSl f ma pl pu) Y H Q):tSl r (tE K G0 W0 ma) (tP K G0 W0 pl) (tP K G0 W0 pu) Y H Q:=by
 refine h.use λG W le Z T g o Z' w e q=>?_
 refine tE.seq le w e q.err λra Z1 e1 v H1 #[Ts,g1,m,a1]=>?_
 refine tP.seq le m e1 q.err λlo Z2 k H2 g2 u=>?_
 refine tP.seq le u k q.err λhi Z3 j n g3 c=>?_
 obtain ⟨d,d1,l⟩:=aI j
 obtain ⟨p,a,rfl,rfl⟩:=bA l
 obtain ⟨y,i,f1,f2⟩:=a1.item c (λx t=>GK _ t) d1
 subst f1 f2
 cases b:f y.d lo hi with
 | none=>rw[b] at a;exact nsE a
 | some s =>
  rw[b] at a
  cases a
  exact hd y lo hi n Q s (c.itm i).arg b (nQ c (λz hz=>by rw[Hh.mp hz];exact i) q)
theorem Reps.take:∀ {ds:List D} {a:List V} {L:List Addr} (n:Nat),Reps (Rep K H) ds a L->∃ L',Reps (Rep K H) (ds.take n) (a.take n) L'/\∀ c∈L',c∈L
 | _,_,_,0,_=>#[[],by simpa using Reps.nil,λc F=>by cases F]
 | _,_,_,n+1,.nil=>#[[],by simpa using Reps.nil,λc F=>by cases F]
 | _,_,_,n+1,.cons (L:=L1) r rs=>by
  obtain ⟨L',h1,h2⟩:=Reps.take n rs
  exact ⟨L1++L',by simpa using Reps.cons r h1,λc F=>by
   rcases GQ.mp F with h | h
   .exact GK _ h
   .exact GL _ (h2 c h)⟩
theorem Reps.drop:∀ {ds:List D} {a:List V} {L:List Addr} (n:Nat),Reps (Rep K H) ds a L->∃ L',Reps (Rep K H) (ds.drop n) (a.drop n) L'/\∀ c∈L',c∈L
 | _,_,L,0,r=>#[L,by simpa using r,λc F=>F]
 | _,_,_,n+1,.nil=>#[[],by simpa using Reps.nil,λc F=>by cases F]
 | _,_,_,n+1,.cons r rs=>by
  obtain ⟨L',h1,h2⟩:=Reps.drop n rs
  exact #[L',by simpa using h1,λc F=>GL _ (h2 c F)]
theorem Reps.cut (lo hi:Option Int) (r:Reps (Rep K H) ds vs L):∃ L',Reps (Rep K H) (mQ ds lo hi) (rf vs lo hi) L'/\∀ c∈L',c∈L:=by
 unfold mQ rf
 rw[<- r.len]
 obtain ⟨d,h1,h2⟩:=r.drop (HT.sIx ds.length 0 lo)
 obtain ⟨L2,h3,b⟩:=h1.take (HT.sIx ds.length ds.length hi - HT.sIx ds.length 0 lo)
 exact #[L2,h3,λc a=>h2 c (b c a)]
def slD:D->Option Int->Option Int->Option (D×Fl)
 | .lst xs,lo,hi=>some (.lst (mQ xs lo hi),.u)
 | .fls xs,lo,hi=>some (.lst (mQ xs lo hi),.u)
 | .tup xs,lo,hi=>#v[.tup (mQ xs lo hi)]
 | _,_,_=>none
theorem sd_sl:SlD K (λx lo hi H Q=>EQ K x lo hi H Q\/(EO K x lo hi H Q\/yF K x lo hi H Q)) slD:=λa lo hi H Q p ra e q=>by
 obtain ⟨da,n,j,k⟩:=a
 have f:=ra
 obtain ⟨ra,m⟩:=ra
 dsimp only at ra e
 cases da with
 | lst xs =>
  obtain ⟨b,d,l,rfl,rfl,g,rs⟩:=ra.view
  cases e
  obtain ⟨L',h1,h2⟩:=rs.cut lo hi
  exact .inl #[b,d,rfl,SqL.of g,λp i=>q #[_,.ref p,p::L',.u] _ (Cc i h1 λc h=>md (y:=#[.lst xs,.ref b,b::l,k]) GG f rfl rfl c (h2 c h)) rfl rfl]
 | fls xs =>
  obtain ⟨b,d,rfl,g,rs⟩:=ra.view
  cases e
  obtain ⟨L',h1,h2⟩:=rs.cut lo hi
  exact .inl #[b,d,rfl,g.sq,λp i=>q #[_,.ref p,p::L',.u] _ (Cc i h1 λc h=>kR (y:=#[.fls xs,.ref b,j,k]) GG f rfl c (h2 c h)) rfl rfl]
 | tup xs =>
  obtain ⟨b,d,rfl,g,rs⟩:=ra.view
  cases e
  by_cases hw:HT.sIx d.length 0 lo=0/\HT.sIx d.length d.length hi=d.length
  .have h:mQ xs lo hi=xs:=by
    unfold mQ
    rw[rs.len,hw.1,hw.2,<- rs.len]
    simp
   rw[h] at q
   exact .inr (.inr #[b,d,rfl,SqT.of g,hw,q #[.tup xs,.ref b,j,.z] H (oO (.tup g rs) (kR (y:=#[.tup xs,.ref b,j,k]) GG f rfl)) rfl rfl])
  .obtain ⟨L',h1,h2⟩:=rs.cut lo hi
   exact .inr (.inl #[b,d,rfl,SqT.of g,hw,λp i=>q #[_,.ref p,L',.z] _ (zk i h1 λc h=>kR (y:=#[.tup xs,.ref b,j,k]) GG f rfl c (h2 c h)) rfl rfl])
 | _=>exact nsE e
theorem Ei:SlR X (λx lo hi H Q=>EQ X.K x lo hi H Q\/(EO X.K x lo hi H Q\/yF X.K x lo hi H Q)):=sl_list.or (sl_tup.or AZ)
theorem yA (he:RE X G0 W0 e m) (a:RP X G0 W0 lo pl) (hu:RP X G0 W0 hi pu):RE X G0 W0 (.Subscript e (.Slice lo hi none p2) pos) (mSl slD m pl pu):=#[PE.imp (y6 Ei he.h a.h hu.h) λ_ _ _ h=>tE_sl sd_sl h]
end
mutual
def pyD:D->Option PyData
 | .non=>some .none
 | .bl b=>some (.bool b)
 | .int i=>some (.int i)
 | .str x=>some (.str x)
 | .tup xs=>(jo xs).map .tuple
 | .lst xs=>(jo xs).map .list
 | .fls xs=>(jo xs).map .list
 | .dk _=>none
 | .dt _=>none
 | .exc _ _=>none
 | .desk _ _=>none
def jo:List D->Option (List PyData)
 | []=>some []
 | d::ds=>match pyD d,jo ds with
  | some p,some ps=>some (p::ps)
  | _,_=>none
end
section
variable {K:FG} {H:Hp} {Ks:Addr->Prop} {d:D} {v:V} {L:List Addr} {X:Cx}
set_option tactic.hygienic true in
theorem Rep.dv (r:Rep K H d v L):∀ p,pyD d=some p->DV K H v p:=by
 refine Rep.rec (motive_1:=λd v _ _=>∀ p,pyD d=some p->DV K H v p) (motive_2:=λds b _ _=>∀ ps,jo ds=some ps->DVs K H b ps) ?_ ?_ ?_ ?_ ?_ ?_ ?_ ?_ ?_ ?_ ?_ ?_ ?_ ?_ r
 .intro p e;unfold pyD at e;cases e;exact .non
 .intro _ p e;unfold pyD at e;cases e;exact .bl _
 .intro _ p e;unfold pyD at e;cases e;exact .int _
 .intro _ p e;unfold pyD at e;cases e;exact .str _
 .intro xs a b L h _ c p e
  unfold pyD at e
  obtain ⟨ps,e1,rfl⟩:=GJ.mp e
  exact .tup (SqT.of h) (c ps e1)
 .intro xs a b L h _ c p e
  unfold pyD at e
  obtain ⟨ps,e1,rfl⟩:=GJ.mp e
  exact .lst (SqL.of h) (c ps e1)
 .intro xs a b L h _ c p e
  unfold pyD at e
  obtain ⟨ps,e1,rfl⟩:=GJ.mp e
  exact .lst h.sq (c ps e1)
 .intro _ _ _ _ _ _ _ _ p e;unfold pyD at e;exact nsE e
 .intro _ _ _ _ _ _ _ _ _ p e;unfold pyD at e;exact nsE e
 .intros;rename_i e;unfold pyD at e;exact nsE e
 .intros;rename_i e;unfold pyD at e;exact nsE e
 .intros;rename_i e;unfold pyD at e;exact nsE e
 .intro ps e;unfold jo at e;cases e;exact .nil
 .intro d v L ds b L' _ _ f g ps e
  unfold jo at e
  cases h1:pyD d with
  | none=>rw[h1] at e;exact nsE e
  | some p =>
   cases h2:jo ds with
   | none=>rw[h1,h2] at e;exact nsE e
   | some qs=>rw[h1,h2] at e;cases e;exact .cons (f p h1) (g qs h2)
def eqP (a b:D):Option Bool:=match pyD a,pyD b with
 | some p,some q=>if p.canLay0 && q.canLay0 && decide (min p.depth q.depth<=30) then some (PyData.eqv p q) else none
 | _,_=>none
def eqA (a b:D):Option Bool:=match eqS a b with
 | some k=>some k
 | none=>eqP a b
abbrev eqX (a b:D):Option (D×Fl):=(eqA a b).map λk=>(.bl k,.z)
abbrev neX (a b:D):Option (D×Fl):=(eqA a b).map λk=>(.bl (!k),.z)
def rEqP:R2:=λx y H Q=>∃ p q,DV X.K H x p/\DV X.K H y q/\p.canLay0=true/\q.canLay0=true/\min p.depth q.depth<=30/\Q (.bl (PyData.eqv p q)) H
def rNeP:R2:=λx y H Q=>∃ p q,DV X.K H x p/\DV X.K H y q/\p.canLay0=true/\q.canLay0=true/\min p.depth q.depth<=30/\Q (.bl (!PyData.eqv p q)) H
theorem zc (hu:X.A.units+64 < cLine):OpR X (compareOp .Eq) (λx y H Q=>rEq x y H Q\/rEqP (X:=X) x y H Q):=by
 intro pins s Y H x y v u Q I b a h
 rcases h with h | ⟨p,q,h1,h2,h3,d,e,c⟩
 .exact op_eq pins s Y H x y v u Q I b a h
 .obtain ⟨as,ra⟩:=DV.reads I h1 b
  obtain ⟨bs,rb⟩:=DV.reads I h2 a
  exact PySem.SeqAt.compareEq_reads ra rb h3 d (by lia) #[.bl _,H,I,rfl,c]
theorem Fm (hu:X.A.units+64 < cLine):OpR X (compareOp .NotEq) (λx y H Q=>rNe x y H Q\/rNeP (X:=X) x y H Q):=by
 intro pins s Y H x y v u Q I b a h
 rcases h with h | ⟨p,q,h1,h2,h3,d,e,c⟩
 .exact op_ne pins s Y H x y v u Q I b a h
 .obtain ⟨as,ra⟩:=DV.reads I h1 b
  obtain ⟨bs,rb⟩:=DV.reads I h2 a
  exact PySem.SeqAt.compareNe_reads ra rb h3 d (by lia) #[.bl _,H,I,rfl,c]
set_option tactic.hygienic true in
theorem vn (e:eqP a b=some k):∃ p q,pyD a=some p/\pyD b=some q/\p.canLay0=true/\q.canLay0=true/\min p.depth q.depth<=30/\k=PyData.eqv p q:=by
 unfold eqP at e
 cases h1:pyD a with
 | none=>rw[h1] at e;exact nsE e
 | some p =>
  cases h2:pyD b with
  | none=>rw[h1,h2] at e;exact nsE e
  | some q =>
   rw[h1,h2] at e
   dsimp only at e
   split at e
   .rename_i h
    cases e
    simp only[Bool.and_eq_true,decide_eq_true_eq] at h
    exact #[p,q,rfl,rfl,h.1.1,h.1.2,h.2,rfl]
   .exact nsE e
theorem zg:OpD X.K (λx y H Q=>rEq x y H Q\/rEqP (X:=X) x y H Q) eqX:=λa b H Q p ra rb e q=>by
 obtain ⟨k,h1,h2⟩:=GJ.mp e
 subst h2
 unfold eqA at h1
 cases c:eqS a.d b.d with
 | some k' =>
  rw[c] at h1
  cases h1
  obtain ⟨s,h⟩:=zY ra.rep rb.rep c
  exact .inl #[s,by rw[<- h];exact q #[.bl k,.bl k,[],.z] H (cy (.bl k)) rfl rfl]
 | none =>
  rw[c] at h1
  obtain ⟨p,f,e1,i,g,l,j,rfl⟩:=vn h1
  exact .inr #[p,f,ra.rep.dv p e1,rb.rep.dv f i,g,l,j,q #[.bl _,.bl _,[],.z] H (cy (.bl _)) rfl rfl]
theorem Ft:OpD X.K (λx y H Q=>rNe x y H Q\/rNeP (X:=X) x y H Q) neX:=λa b H Q p ra rb e q=>by
 obtain ⟨k,h1,h2⟩:=GJ.mp e
 subst h2
 unfold eqA at h1
 cases c:eqS a.d b.d with
 | some k' =>
  rw[c] at h1
  cases h1
  obtain ⟨s,h⟩:=zY ra.rep rb.rep c
  exact .inl #[s,by rw[<- h];exact q #[.bl (!k),.bl (!k),[],.z] H (cy (.bl _)) rfl rfl]
 | none =>
  rw[c] at h1
  obtain ⟨p,f,e1,i,g,l,j,rfl⟩:=vn h1
  exact .inr #[p,f,ra.rep.dv p e1,rb.rep.dv f i,g,l,j,q #[.bl _,.bl _,[],.z] H (cy (.bl _)) rfl rfl]
end
theorem Gb {k:Nat} {nn:Nat} (F:Fun K x x st f fd) (S:FnScope N ps (aj st)) (c:mask.length=ps.length) (b:N.length=nn) (body:∀ (a:Value) (A:Around) (outer:List Env) (s:Shared) (H:Hp) (E:XK) (f:Addr) (G:Gm),Room k (A.deeper (PyProof.Rows.envOfC x (aj st) s.heap.objs.size f a))->G.pr=prM mask->RSs (re CX0 P w K mg base N x (aj st) f a A outer s H E).nox G noX (aR st) m) :
  FnOk P w K mg base CX0 (k+1) f fd ps (vU K (fnM mask nn m)):=by
 refine F.ok S (λd H Q E h=>?_) λa A outer s H d Q E g h=>?_
 .obtain ⟨e,p,fs,rfl,_,_,j,_⟩:=h
  unfold fnM at j
  grind
 .have hle:mask.length<=nn:=by
   rw[c,<- b]
   have:=congrArg List.length S.pre
   rw[He] at this
   omega
  obtain ⟨G,l,i⟩:=vj hle h
  subst b
  exact #[_,(body a A outer s H E f G g l).h,i]
def xQ (K:FG):Sp:=λb H Q _=>∃ (a:Addr) (ns:List Int),b=[.ref a]/\SqL K H a (ns.map V.int)/\C0 H/\ns.length<=63/\∀ H',Q (.bl true) H'
theorem jY:∀ ns:List Int,Reps (Rep K H) (ns.map D.int) (ns.map V.int) []
 | []=>.nil
 | n::ns=>.cons (L:=[]) (.int n) (jY ns)
theorem Cq (c:∀ ns:List Int,ns.length<=63->∃ fs,F [(.fls (ns.map .int),.z)]=some (.ok (.bl true,.z),fs)) (h:xQ K vs H Q E):vU K F vs H Q E:=by
 obtain ⟨a,ns,rfl,i,b,f,q⟩:=h
 obtain ⟨fs,e⟩:=c ns f
 have g:FzL K H a (ns.map V.int):=by
  rcases i with (h | h) | h
  .rcases b a with z | ⟨o,xs,z⟩
   .rw[h] at z;cases z
   .rw[h] at z;cases z
  .exact .inl h
  .exact .inr h
 refine #[[#[.fls (ns.map .int),.ref a,[],.z]],(.bl true,.z),fs,rfl,λp d=>?_,.cons (λ_ h=>by cases h) .nil,e,λx qs H' B x1 j _=>?_]
 .rw[Hh.mp d]
  exact #[.lstF g (jY ns),λh=>absurd rfl h]
 .have r:=B.rep
  rw[x1] at r
  have inv:∀ {v:V} {L:List Addr},Rep K H' (.bl true) v L->v=.bl true:=λr=>by cases r;rfl
  rw[inv r]
  exact q H'
def qD (ok:D->Bool) (f:List D->Option (D×Fl)) (c:EM) (ms:M3 (List R3)):EM:=ag c λa=>ag (der a) λb=>if ok b then ag ms λrs=>ag (dz (a::rs)) λds=>a9 ((f ds).map λp=>R3.val p.1 p.2) else λ_=>none
section
variable {K:FG} {G G0:Gm} {W W0:D->Sto->Prop} {H H':Hp} {Y:St} {Z Z':Sto} {T T':List It3} {g:Nat->Option It3} {x y z:It3} {α β:Type} {X:Cx} {v:V} {d:D} {L:List Addr}
theorem AV (E:cb K (λxs H Q=>∃ x l,xs=x::l/\r x l H Q) f) (hok:∀ d v L H,ok d=true->Rep K H d v L->tyV K Ty v H) (h:tE K G0 W0 (qD ok f mo ms) Y H Q) :
  tBM K Ty r (tE K G0 W0 mo) (tA K G0 W0 ms) Y H Q:=by
 refine h.use λG W le Z T g o Z' w e q=>?_
 refine tE.seq le w e q.err λJ Z1 e1 F H1 #[Ts,g1,k,a1]=>?_
 obtain ⟨n,d1,a⟩:=aI e1
 cases j:ok n with
 | false=>rw[j] at a;exact nsE a
 | true =>
  rw[j] at a
  obtain ⟨y0,I,f0,f1⟩:=a1.item k (λx m=>GK _ m) d1
  refine #[hok n F _ H1 j (by rw[<- f0,<- f1];exact (k.itm I).rep),?_]
  refine tA.seq le k a q.err λrs Z2 u l H2 Us g2 b a2=>?_
  obtain ⟨ds,C,A⟩:=bL u
  obtain ⟨p,c,rfl,rfl⟩:=bA A
  rw[<- List.append_assoc] at b
  obtain ⟨ys,t,f2,B⟩:=(Ars.cons a1 a2).items b (λx m=>GK _ m) C
  subst f2
  cases i:f (ys.map (·.d)) with
  | none=>rw[i] at c;exact nsE c
  | some s =>
   rw[i] at c
   cases c
   obtain ⟨M,D,h1,h2⟩:=E ys H2 Q s (λy z=>(b.itm (t y z)).arg) i (nQ b t q)
   rw[B] at h1
   cases h1
   exact h2
theorem Bu {id:String} (p:PlainAttrs Ty) (slot:Slot Ty nm id) (i:typeOf (.builtin id)=pure (.type "method_descriptor")) (hm:MtR X id r) (l:cb X.K (λxs H Q=>∃ x j,xs=x::j/\r x j H Q) f) (hok:∀ d v L H,ok d=true->Rep X.K H d v L->tyV X.K Ty v H) (n:RE X G0 W0 o mo) (m:RA X G0 W0 (e::es) ms) (c:attributeBase o nm X.env (eval o X.env)=eval o X.env) (g:((backTo cpos (starEach (e::es) X.env)).all (λx=>!x.1) && (backToKw cpos (keywordEach [] X.env)).all (λx=>x.1.isSome) && decide ((e::es).length+([]:List Keyword).length+(if ([]:List Keyword).isEmpty then 0 else 1) < 30))=true) (b:(apos.endLine == cpos.line)=true) (k:starEach (e::es) X.env=(false,eval e X.env)::starEach es X.env) (a:(backTo cpos (starEach es X.env)).any (·.1)=false):RE X G0 W0 (.Call (.Attribute o nm apos) (e::es) [] cpos) (qD ok f mo ms) :=
 #[PE.imp (Dh p slot i hm n.h m.h c g b k a) λ_ _ _ h=>AV l hok h]
def bW:List D->Option (List Int)
 | []=>some []
 | .int i::ds=>(bW ds).map (i::·)
 | _=>none
set_option tactic.hygienic true in
theorem d5:∀ {ds:List D} {ns:List Int},bW ds=some ns->ds=ns.map D.int
 | [],ns,e=>by cases e;rfl
 | d::ds,ns,e=>by
  cases d <;> try (exact nsE e)
  rename_i b
  obtain ⟨r,h1,h2⟩:=GJ.mp (show (bW ds).map (b::·)=some ns from e)
  subst h2
  rw[d5 h1];rfl
theorem Reps.ints:∀ {ns:List Int} {a:List V} {L:List Addr},Reps (Rep K H) (ns.map D.int) a L->a=ns.map V.int
 | [],_,_,.nil=>rfl
 | b::bs,_,_,.cons r rs=>by
  rw[Reps.ints rs]
  cases r;rfl
def leastI:List Int->Option Int
 | []=>none
 | x::xs=>some (xs.foldl (λa b=>if b < a then b else a) x)
def mostI:List Int->Option Int
 | []=>none
 | x::xs=>some (xs.foldl (λa b=>if a < b then b else a) x)
theorem qW:∀ (xs:List Int) (x:Int),(xs.foldl (λa b=>if b < a then b else a) x)∈x::xs/\∀ n∈x::xs,(xs.foldl (λa b=>if b < a then b else a) x)<=n
 | [],x=>#[GG,λn h=>by simp at h;subst h;exact Int.le_refl _]
 | y::xs,x=>by
  obtain ⟨h1,h2⟩:=qW xs (if y < x then y else x)
  rw[List.foldl_cons]
  refine #[?_,λn c=>?_]
  .rcases GN.mp h1 with h | h
   .rw[h];split <;> simp
   .exact GH _ (GH _ h)
  .have h3:=h2 _ GG
   have d:(if y < x then y else x)<=x/\(if y < x then y else x)<=y:=by split <;> lia
   rcases GN.mp c with h | c
   .subst h;exact Int.le_trans h3 d.1
   .rcases GN.mp c with h | c
    .subst h;exact Int.le_trans h3 d.2
    .exact h2 n (GH _ c)
theorem mq:∀ (xs:List Int) (x:Int),(xs.foldl (λa b=>if a < b then b else a) x)∈x::xs/\∀ n∈x::xs,n<=(xs.foldl (λa b=>if a < b then b else a) x)
 | [],x=>#[GG,λn h=>by simp at h;subst h;exact Int.le_refl _]
 | y::xs,x=>by
  obtain ⟨h1,h2⟩:=mq xs (if x < y then y else x)
  rw[List.foldl_cons]
  refine #[?_,λn c=>?_]
  .rcases GN.mp h1 with h | h
   .rw[h];split <;> simp
   .exact GH _ (GH _ h)
  .have h3:=h2 _ GG
   have d:x<=(if x < y then y else x)/\y<=(if x < y then y else x):=by split <;> lia
   rcases GN.mp c with h | c
   .subst h;exact Int.le_trans d.1 h3
   .rcases GN.mp c with h | c
    .subst h;exact Int.le_trans d.2 h3
    .exact h2 n (GH _ c)
end
section
variable {K:FG} {G G0:Gm} {W W0:D->Sto->Prop} {H H':Hp} {Y:St} {Z Z':Sto} {T T':List It3} {g:Nat->Option It3} {x y z:It3} {α β:Type} {X:Cx} {v:V} {d:D} {L:List Addr}
theorem Reps.rep (r:Reps (Rep K H) ds vs L):∀ n:Nat,∃ L',Reps (Rep K H) (List.replicate n ds).flatten (List.replicate n vs).flatten L'/\∀ c∈L',c∈L
 | 0=>#[[],.nil,λ_ h=>by cases h]
 | n+1=>by
  obtain ⟨L',h1,h2⟩:=Reps.rep r n
  refine #[L++L',?_,λc a=>?_]
  .rw[List.replicate_succ,List.replicate_succ,List.flatten_cons,List.flatten_cons];exact r.append h1
  .rcases GQ.mp a with h | h
   .exact h
   .exact h2 c h
def AG (i j:Int):Prop:=0 < j/\j < 1267650600228229401496703205376
theorem zb:OpR X (binaryOp .FloorDiv) (rI AG λi j=>.int (i / j)):=opI λi j _ _ _ _ _ a q=>by
 have h1:(0:Int) < j:=a.1
 have h2:j < 1267650600228229401496703205376:=a.2
 refine PyProof.Rows.floordiv_int (by lia) (by rw[Int.fdiv_eq_ediv_of_nonneg i (by lia)];exact q) (.inl (PyProof.noPylong_of_log2 ?_))
 have h3:j.natAbs < 2 ^ 100:=by lia
 exact Nat.lt_trans ((Nat.log2_lt (by lia)).mpr h3) (by decide)
abbrev q8:=fg (λ_ j=>decide (0 < j/\j < 1267650600228229401496703205376)) λi j=>.int (i / j)
theorem B8:OpD K (rI AG λi j=>.int (i / j)) q8:=jD (λi j h=>by simpa[AG] using h) λi j _=>.int _
end
section
variable {K:FG} {G G0:Gm} {W W0:D->Sto->Prop} {H H':Hp} {Y:St} {Z Z':Sto} {T T':List It3} {g:Nat->Option It3} {x y z:It3} {α β:Type} {X:Cx} {v:V} {d:D} {L:List Addr}
def zG:Key->D
 | .inl i=>.int i
 | .inr s=>.str s
def wK (k:List Key):D:=.tup (k.map zG)
def keysD:D->Option (List D)
 | .dt kvs=>some (kvs.map λF=>wK F.1)
 | _=>none
def tH (m:EM):IM:=ag m λr=>ag (der r) λd=>a9 ((keysD d).map λds=>([r],ds))
theorem lM:∀ k:List Key,Reps (Rep K H) (k.map zG) (k.map kV) []
 | []=>.nil
 | .inl i::k=>.cons (L:=[]) (.int i) (lM k)
 | .inr s::k=>.cons (L:=[]) (.str s) (lM k)
theorem mZ {kvs:List (List Key×D)} {n:Int} (j:H1 a=some (.dT ps n)) (h:kvs.map (·.1)=ps.map (·.1)) (k:a∈y.L):Walk K (Itk a ps.length n) H1 [y] (kvs.map λF=>wK F.1):=by
 refine #[[],λx q=>(by cases q),λM H' hm f r=>?_]
 have h':H' a=some (.dT ps n):=f a _ j (r y GG a k)
 have s:kvs.length=ps.length:=by have:=congrArg List.length h;simpa using this
 refine #[λi d hd=>?_,#[ps,.inl h',rfl,by rw[GS,s];exact GZ _]]
 rw[GY] at hd
 obtain ⟨F,h1,h2⟩:=GJ.mp hd
 have hi:i < kvs.length:=(GU.mp h1).1
 obtain ⟨p,o,c⟩:∃ p,ps[i]?=some p/\p.1=F.1:=by
  have e:=congrArg (λl=>l[i]?) h
  simp only[GY,h1] at e
  obtain ⟨p,e1,g⟩:=GJ.mp e.symm
  exact #[p,e1,g]
 refine #[#[ps,.inl h',rfl,by lia],λx t #[e1,g]=>?_]
 subst e1
 obtain ⟨b,rfl,m⟩:=g ps p (.inl h') o
 exact #[#[d,.ref b,[],.z],cy (by rw[<- h2,<- c];exact .tup m (lM _)),rfl,rfl,rfl]
theorem AS (h:tI K G0 W0 (tH m) Y H R):Dr (tE K G0 W0 m) Y H R:=by
 obtain ⟨G,W,le,Z,T,g,o,Z',w,e,q⟩:=h
 have a:∀ x,o=.error x->W x Z':=λx D=>by subst D;exact q
 refine tE.seq le w e a λra Z1 e1 v H1 #[Ts,g1,c,a1]=>?_
 obtain ⟨d,d1,k⟩:=aI e1
 obtain ⟨p,f,rfl,rfl⟩:=bA k
 obtain ⟨ds,b,F⟩:=GJ.mp f
 subst F
 obtain ⟨y,E,C,r⟩:=a1.item2 c d1
 have t:Itm (Ts++T) g1 y:=by
  rcases r with ⟨i,_,I⟩ | h
  .exact .inl #[i,I]
  .exact .inr (GK _ h)
 have s:=(c.itm t).arg
 have B:∀ J,Walk K J H1 [y] ds->R J H1:=λJ hw=>q J H1 [v] Ts g1 [y] c (by simpa using Ars.cons a1 .nil) (λz hz=>by rw[Hh.mp hz];exact r) hw
 clear e1 k f q
 subst E C
 obtain ⟨da,P,L,N⟩:=y
 obtain ⟨j,O⟩:=s
 dsimp only at j b
 cases da with
 | dt kvs =>
  obtain ⟨A,ps,M,rfl,rfl,⟨n,l⟩,u,rs⟩:=j.view
  cases b
  exact #[A,ps,n,rfl,.inl l,B _ (mZ l u GG)]
 | _=>exact nsE b
theorem Bq (h:RE X G0 W0 l m):RI X G0 W0 tg l (tH m):=#[PI.imp (BM h.h) λ_ _ _ h=>AS h]
end
end L3
theorem L2.Room.hu {k:Nat} (a:L2.Room k A):A.units+1 < PySem.cLine:=L2.hu_of a
end
section
namespace L3
open PySem L2
section
variable {K:FG} {G G0:Gm} {W W0:D->Sto->Prop} {H H':Hp} {Y:St} {Z Z':Sto} {T T':List It3} {g:Nat->Option It3} {x y z:It3} {α β:Type} {X:Cx} {v:V} {d:D} {L:List Addr}
theorem ml:∀ {kvs:List (List Key×D)} {ps:List (List Key×V)} {k:List Key},kvs.map (·.1)=ps.map (·.1)->(b8 kvs k).isSome=(eJ ps k).isSome
 | [],[],k,_=>rfl
 | [],_::_,_,h=>by cases h
 | _::_,[],_,h=>by cases h
 | kv::kvs,p::ps,k,hk=>by
  have F:kv.1=p.1/\kvs.map (·.1)=ps.map (·.1):=by simpa using hk
  have a:=ml (k:=k) F.2
  unfold b8 at a ⊢
  rw[List.find?_cons]
  by_cases h:kv.1=k
  .rw[G7 h,gg (F.1.symm.trans h)];rfl
  .rw[G8 h,gh (λz=>h (F.1.trans z))];exact a
theorem Bt:Rep K H (zG k) (kV k) []:=by cases k <;> constructor
theorem rY {kvs:List (Key×D)} (h:H1 a=some (.dK ps)) (g:kvs.map (·.1)=ps.map (·.1)) (j:a∈y.L):Walk K (Iti a ps.length) H1 [y] (kvs.map λF=>zG F.1):=by
 refine #[[],λx f=>(by cases f),λM H' hm c m=>?_]
 have h':H' a=some (.dK ps):=c a _ h (m y GG a j)
 have o:kvs.length=ps.length:=by have:=congrArg List.length g;simpa using this
 refine #[λi d hd=>?_,#[ps,.inl h',rfl,by rw[GS,o];exact GZ _]]
 rw[GY] at hd
 obtain ⟨F,h1,h2⟩:=GJ.mp hd
 have hi:i < kvs.length:=(GU.mp h1).1
 obtain ⟨p,k,b⟩:∃ p,ps[i]?=some p/\p.1=F.1:=by
  have e:=congrArg (λl=>l[i]?) g
  grind
 refine #[#[ps,.inl h',rfl,by omega],λx q #[e1,n]=>?_]
 subst e1
 have f:=n ps p (.inl h') k
 subst f
 exact #[#[d,kV p.1,[],.z],cy (by rw[<- h2,<- b];exact Bt),rfl,rfl,rfl]
end
section
variable {K:FG} {G G0:Gm} {W W0:D->Sto->Prop} {H H':Hp}
def ntD (n:List Int):D:=.tup (n.map D.int)
theorem tD:∀ n:List Int,bW (n.map D.int)=some n
 | []=>rfl
 | a::n=>by
  show (bW (n.map D.int)).map _=_
  rw[tD n];rfl
theorem jm:∀ n:List Int,Reps (Rep K H) (n.map D.int) (n.map V.int) []
 | []=>.nil
 | a::n=>.cons (L:=[]) (.int a) (jm n)
end
section
variable {K:FG} {H H':Hp}
def jA:List Key->Option (List Int)
 | []=>some []
 | .inl i::k=>(jA k).map (i::·)
 | _=>none
def bC:List (List Key)->Option (List (List Int))
 | []=>some []
 | k::ks=>(jA k).bind λn=>(bC ks).map (n::·)
theorem me:∀ {k:List Key} {n:List Int},jA k=some n->k=n.map Sum.inl
 | [],n,h=>by cases h;rfl
 | .inl i::k,n,h=>by
  obtain ⟨m,h1,h2⟩:=GJ.mp (show (jA k).map (i::·)=some n from h)
  rw[me h1,<- h2];rfl
 | .inr i::k,n,h=>by cases h
theorem di:∀ {ks:List (List Key)} {ns:List (List Int)},bC ks=some ns->ks=ns.map λn=>n.map Sum.inl
 | [],ns,h=>by cases h;rfl
 | k::ks,ns,h=>by
  obtain ⟨n,h1,h2⟩:=Hg.mp (show ((jA k).bind λn=>(bC ks).map (n::·))=some ns from h)
  obtain ⟨ms,h3,a⟩:=GJ.mp h2
  rw[di h3,<- a,me h1];rfl
theorem uC:∀ {ns:List (List Int)} {bs:List Addr},bs.length=ns.length->(∀ (i:Nat) (b:Addr) (n:List Int),bs[i]?=some b->ns[i]?=some n->H b=some (.tup (n.map V.int)))->Reps (Rep K H) (ns.map ntD) (bs.map V.ref) []
 | [],[],_,_=>.nil
 | [],_::_,h,_=>by cases h
 | _::_,[],h,_=>by cases h
 | n::ns,b::bs,h,q=>.cons (L:=[]) (.tup (q 0 b n rfl rfl) (jm n)) (uC (by simpa using h) λi b n e1 a=>q (i+1) b n (by simpa using e1) (by simpa using a))
def yG:List V->Hp->VK->Prop:=λxs H Q=>∃ i:Int,xs=[.int i]/\i.natAbs.log2 < 1920/\Q (.str (iV i)) H
end
section
variable {K:FG} {H H':Hp}
def Cw (ns:List (List Int)):Bool:=ns.all (λn=>!n.isEmpty) || (match ns with | []::_=>true | _=>false)
theorem Cv (h:Cw ns=true):kOk ns:=by
 rcases Bool.or_eq_true_iff.mp h with h | h
 .refine .inl λn a z=>?_
  have:=List.all_eq_true.mp h n a
  subst z;simp at this
 .refine .inr ?_
  grind
end
section
variable {K:FG} {G0:Gm} {W0:D->Sto->Prop} {X:Cx}
def FN (k:Key) (i:Int):EM:=aY (.val (.dk [(k,.int i)]) .u)
theorem EJ {i:Int} (f:PE X k (tC (kV key))) (j:PE X v (tC (.int i))):RE X G0 W0 (.Dict [some k] [v] pos) (FN key i):=⟨PE.imp (Fb f j) λY H Q h=>by
 refine h.use λG W le Z T g o Z' w e q=>?_
 cases e
 intro p d
 have sm:Same H (upd (upd H p (.dK [])) p (.dK [(key,.int i)])):=λb o a=>by
  have n:b≠p:=λz=>by rw[z,d] at a;cases a
  rw[ay n,ay n];exact a
 refine q _ _ (Wf.done (Us:=[]) (ys:=[]) (x:=#[.dk [(key,.int i)],.ref p,[p],.u]) w (λ_ h=>(by cases h)) #[sm,.dK (L:=[]) aD rfl (.cons (L:=[]) (.int i) .nil),λc l=>?_,λ_=>#[rfl,p,[],rfl,rfl,(by simp),d]])
 rw[Hh.mp l];exact .inl d⟩
def FM (ns:List Int) (i:Int):EM:=aY (.val (.dt [(ns.map Sum.inl,.int i)]) .u)
theorem EI {x1:Nat} {i:Int} (hu:X.A.units+1 < cLine) (h0:ns≠[]) (hz:ns.length<=100) (k:es.map xr=ns.map some) (l:PE X v (tC (.int i))):RE X G0 W0 (.Dict [some (.Tuple es x1 pos')] [v] pos) (FM ns i):=⟨PE.imp (Fa hu h0 hz k l) λY H Q h=>by
 refine h.use λG W le Z T g o Z' w e q=>?_
 cases e
 intro p j b d
 have nb:b≠p:=λz=>by rw[z,aD] at d;cases d
 have f:H b=none:=by rw[ay nb] at d;exact d
 have sm:Same H (upd (upd (upd H p (.dT [] 0)) b (.tup (ns.map V.int))) p (.dT [(ns.map Sum.inl,.int i)] 0)):=λc o a=>by
  have n:c≠p:=λz=>by rw[z,j] at a;cases a
  have m:c≠b:=λz=>by rw[z,f] at a;cases a
  rw[ay n,ay m,ay n];exact a
 refine q _ _ (Wf.done (Us:=[]) (ys:=[]) (x:=#[.dt [(ns.map Sum.inl,.int i)],.ref p,[p],.u]) w (λ_ h=>(by cases h)) #[sm,.dT (L:=[]) aD rfl (.cons (L:=[]) (.int i) .nil),λc a=>?_,λ_=>#[rfl,p,[],rfl,rfl,(by simp),j]])
 rw[Hh.mp a];exact .inl j⟩
end
section
variable {K:FG} {X:Cx}
abbrev qR (ns:List Int):PyData:=.tuple (ns.map PyData.int)
theorem mj:∀ ns:List Int,PyData.canLayAll0 (ns.map PyData.int)=true/\PyData.depthAll (ns.map PyData.int)<=10
 | []=>#[by simp[PyData.canLayAll0],by simp[PyData.depthAll]]
 | n::ns=>by
  obtain ⟨h1,h2⟩:=mj ns
  exact #[by simp[PyData.canLayAll0,PyData.canLay0,h1],by simp[PyData.depthAll,PyData.depth];lia]
theorem qP (ns:List Int):(qR ns).canLay0=true:=by simp[PyData.canLay0,(mj ns).1]
theorem wR (ns:List Int):(qR ns).depth<=20:=by
 have:=(mj ns).2
 simp[PyData.depth];lia
theorem qQ:∀ a b:List Int,PyData.eqvAll (a.map PyData.int) (b.map PyData.int)=decide (a=b)
 | [],[]=>by simp[PyData.eqvAll]
 | [],b::bs=>by simp[PyData.eqvAll]
 | a::as,[]=>by simp[PyData.eqvAll]
 | a::as,b::bs=>by
  have D:=qQ as bs
  simp only[G6,PyData.eqvAll,PyData.eqv,D]
  rw[Bool.eq_iff_iff]
  simp
theorem mD:∀ ns:List Int,DVs K H (ns.map V.int) (ns.map PyData.int)
 | []=>.nil
 | n::ns=>.cons (.int n) (mD ns)
theorem qM:∀ {a b:List Int},a.map V.int=b.map V.int->a=b
 | [],[],_=>rfl
 | [],b::bs,e=>by cases e
 | a::as,[],e=>by cases e
 | a::as,b::bs,e=>by
  rw[G6,G6] at e
  injection e with e1 e2
  injection e1 with e1
  rw[e1,qM e2]
abbrev n5 (H:Hp) (b:Addr) (ns:List Int):Prop:=H b=some (.tup (ns.map V.int))
def nD (H:Hp) (ks:List Int) (w:Value):Bool:=@decide (∃ b,w=.ref b/\n5 H b ks) (Classical.propDecidable _)
theorem qu (h:n5 H b ns):nD H ks (.ref b)=decide (ns=ks):=by
 unfold nD
 by_cases e:ns=ks
 .grind
 .rw[G8 e]
  refine @G8 _ (Classical.propDecidable _) ?_
  rintro ⟨c,e1,h2⟩
  injection e1 with e1
  subst e1
  unfold n5 at h h2
  rw[h] at h2
  injection h2 with h2
  injection h2 with h2
  exact e (qM h2)
inductive TupsAt (H:Hp):List V->List (List Int)->Prop
 | nil:TupsAt H [] []
 | cons {b:Addr} {ns:List Int} {vs:List V} {nss:List (List Int)}:n5 H b ns->TupsAt H vs nss->TupsAt H (.ref b::vs) (ns::nss)
theorem TupsAt.any:∀ {a:List V} {nss:List (List Int)} {us:List Value},TupsAt H a nss->Vals a us->us.any (nD H ks)=decide (ks∈nss)
 | _,_,_,.nil,.nil=>rfl
 | _,_,_,.cons (b:=b) (ns:=ns) (nss:=nss) h t,.cons r rs=>by
  have c:=TupsAt.any (ks:=ks) t rs
  cases r
  rw[List.any_cons,c,qu h,Bool.eq_iff_iff]
  simp only[Bool.or_eq_true,decide_eq_true_eq,GN]
  constructor
  .rintro (h | h)
   .exact .inl h.symm
   .exact .inr h
  .rintro (h | h)
   .exact .inl h.symm
   .exact .inr h
theorem TupsAt.mem:∀ {a:List V} {nss:List (List Int)} {us:List Value},TupsAt H a nss->Vals a us->∀ w∈us,∃ b ns,w=.ref b/\n5 H b ns
 | _,_,_,.nil,.nil=>λw hw=>by cases hw
 | _,_,_,.cons h t,.cons r rs=>λw hw=>by
  rcases GN.mp hw with rfl | hw
  .cases r
   exact #[_,_,rfl,h]
  .exact TupsAt.mem t rs w hw
def De:R2:=λx y H Q=>∃ p a ks b nss,y=.ref p/\x=.ref a/\n5 H a ks/\SqL X.K H p b/\TupsAt H b nss/\Q (.bl (!decide (ks∈nss))) H
theorem BU (hu:X.A.units+64 < cLine):OpR X (compareOp .NotIn) (De (X:=X)):=by
 intro pins s Y H x y v u Q I i k h
 obtain ⟨p,a,ks,l,nss,rfl,rfl,j,f,d,q⟩:=h
 cases i
 cases k
 obtain ⟨its,r,pl,hz⟩:=I.list f
 refine SeqAt.notIn_listAt (nD H ks) pl.isList (λw hw=>?_) #[.bl _,H,I,rfl,?_]
 .obtain ⟨b,ns,rfl,c⟩:=d.mem r w (by simpa using hw)
  obtain ⟨as,ra⟩:=DV.reads I (.tup (SqT.of c) (mD ns):DV X.K H (.ref b) (qR ns)) rfl
  obtain ⟨bs,rb⟩:=DV.reads I (.tup (SqT.of j) (mD ks):DV X.K H (.ref a) (qR ks)) rfl
  have e:=SeqAt.eqAt_reads (qR ns) (qR ks) X.A.in1 s _ _ as bs ra rb (qP ns) (qP ks) (by
   have h1:=wR ns
   have h2:X.A.in1.units=X.A.units+1:=rfl
   lia)
  rw[qu c]
  have g:PyData.eqv (qR ns) (qR ks)=decide (ns=ks):=by
   simp only[PyData.eqv]
   exact qQ ns ks
  rw[g] at e
  exact e
 .rw[show its.toArray.any (nD H ks)=its.any (nD H ks) by simp,d.any r]
  exact q
def tupsI:List D->Option (List (List Int))
 | []=>some []
 | .tup xs::r=>match bW xs,tupsI r with
  | some ns,some m=>some (ns::m)
  | _,_=>none
 | _=>none
def FC (a b:D):Option (D×Fl):=match a,b with
 | .tup xs,.lst ys=>match bW xs,tupsI ys with
  | some ks,some nss=>#v[.bl (!decide (ks∈nss))]
  | _,_=>none
 | _,_=>none
set_option tactic.hygienic true in
theorem Reps.tupsI:∀ {ys:List D} {a:List V} {L:List Addr} {nss:List (List Int)},Reps (Rep K H) ys a L->L3.tupsI ys=some nss->TupsAt H a nss
 | _,_,_,nss,.nil,e=>by cases e;exact .nil
 | d::ys,_,_,nss,.cons r rs,e=>by
  cases d <;> try (exact nsE e)
  rename_i xs
  cases h1:bW xs with
  | none =>
   have e:(match bW xs,L3.tupsI ys with | some ns,some m=>some (ns::m) | _,_=>none)=some nss:=e
   rw[h1] at e
   exact nsE e
  | some ns =>
   cases h2:L3.tupsI ys with
   | none =>
    have e:(match bW xs,L3.tupsI ys with | some ns,some m=>some (ns::m) | _,_=>none)=some nss:=e
    rw[h1,h2] at e
    exact nsE e
   | some m =>
    have e:(match bW xs,L3.tupsI ys with | some ns,some m=>some (ns::m) | _,_=>none)=some nss:=e
    rw[h1,h2] at e
    cases e
    obtain ⟨g,a,rfl,b,f⟩:=r.view
    have c:=d5 h1
    subst c
    have:=f.ints
    subst this
    exact .cons b (Reps.tupsI rs h2)
set_option tactic.hygienic true in
theorem B4:OpD K (De (X:=X)) FC:=λa b H Q p ra rb e q=>by
 obtain ⟨da,n,m,o⟩:=a
 obtain ⟨db,l,j,r⟩:=b
 obtain ⟨ra,k⟩:=ra
 obtain ⟨rb,ob⟩:=rb
 dsimp only at ra rb e
 cases da <;> try (exact nsE e)
 cases db <;> try (exact nsE e)
 rename_i xs ys
 obtain ⟨i,us,rfl,f,rs⟩:=ra.view
 obtain ⟨g,c,L,rfl,rfl,h,rt⟩:=rb.view
 have e:(match bW xs,tupsI ys with | some ks,some nss=>some (D.bl (!decide (ks∈nss)),Fl.z) | _,_=>none)=some p:=e
 cases h1:bW xs with
 | none=>rw[h1] at e;exact nsE e
 | some ks =>
  cases h2:tupsI ys with
  | none=>rw[h1,h2] at e;exact nsE e
  | some nss =>
   rw[h1,h2] at e
   cases e
   have d:=d5 h1
   subst d
   have:=rs.ints
   subst this
   exact #[g,i,ks,c,nss,rfl,rfl,f,SqL.of h,rt.tupsI h2,q #[.bl _,.bl _,[],.z] H (cy (.bl _)) rfl rfl]
end
end L3
end
section
namespace L2
open PySem PySem.Spec PyProof.Rows
end L2
namespace L3
open PySem L2
section
variable {K:FG} {G G0:Gm} {W W0:D->Sto->Prop} {H H':Hp} {Y:St} {Z Z':Sto} {T T':List It3} {g:Nat->Option It3} {x y z:It3} {α β:Type} {X:Cx} {v:V} {d:D} {L:List Addr}
def lvQ:D->Option (D×Fl)
 | .dt kvs=>some (.lst (kvs.map (·.2)),.u)
 | _=>none
def u5:D->Option (D×Fl)
 | .dt kvs=>#v[.int kvs.length]
 | d=>qH d
abbrev lenXD:=c1 u5
def yH (K:FG):List V->Hp->VK->Prop:=λxs H Q=>(∃ p ys,xs=[.ref p]/\(SqL K H p ys\/SqT K H p ys)/\Q (.int ys.length) H)\/∃ p ys,xs=[.ref p]/\RdT H p ys/\Q (.int ys.length) H
theorem xj:CallR X (.builtin "len") (yH X.K):=CallR.or jM xk
theorem CN:cb K (yH K) lenXD:=λys H Q p ra e q=>by
 obtain ⟨y,rfl,a⟩:=dA e
 cases hd:y.d with
 | dt kvs =>
  have b:=(ra y GG).rep
  rw[hd] at b a
  obtain ⟨i,ps,j,h,_,c,f,_⟩:=b.view
  cases a
  have g:kvs.length=ps.length:=by have:=congrArg List.length f;simpa using this
  exact .inr #[i,ps,by show [y.v]=_;rw[h],c.rd,by rw[<- g];exact q #[.int kvs.length,.int kvs.length,[],.z] H (cy (.int _)) rfl rfl]
 | _=>refine .inl (Am [y] H Q p ra ?_ q);rw[hd] at a;show qH y.d=some p;rw[hd];exact a
end
end L3
end
section
namespace L3
open PySem L2
section
variable {K:FG} {X:Cx}
def copyQ:D->Option (D×Fl)
 | .dt kvs=>(bC (kvs.map (·.1))).bind λns=>if (ns.map dj).Nodup then some (.dt kvs,.u) else none
 | _=>none
abbrev Ae:=c1 copyQ
theorem CP:cb K yN Ae:=λys H Q p ra e q=>by
 obtain ⟨y,rfl,j⟩:=dA e
 clear e
 have e:=j
 clear j
 have h:=ra y GG
 have i:=h.rep
 obtain ⟨da,r,n,m⟩:=y
 dsimp only at i e
 cases da with
 | dt kvs =>
  obtain ⟨f,ps,d,rfl,rfl,l,g,rs⟩:=i.view
  obtain ⟨ns,h1,h2⟩:=Hg.mp (show ((bC (kvs.map (·.1))).bind λns=>if (ns.map dj).Nodup then some ((.dt kvs,.u):D×Fl) else none)=some p from e)
  by_cases a:(ns.map dj).Nodup
  .rw[if_pos a] at h2
   cases h2
   refine #[f,ps,ns,rfl,l.rd,by rw[<- g];exact di h1,a,λp b=>?_]
   refine q #[.dt kvs,.ref p,p::d,.u] _ #[ba b,.dT aD g (rs.same (ba b)),λc a=>?_,λ_=>#[rfl,p,d,rfl,rfl,λa=>?_,b]] rfl rfl
   .rcases GN.mp a with e | a
    .rw[e];exact .inl b
    .exact .inr (md (y:=#[.dt kvs,.ref f,f::d,m]) GG h rfl rfl c a)
   .obtain ⟨o,k⟩:=(rs.inH p a).ex
    rw[b] at k
    exact nsE k
  .rw[if_neg a] at h2;exact nsE h2
 | _=>exact nsE e
end
section
variable {K:FG} {H H':Hp}
def AX:D->Option (D×Fl)
 | .dt kvs=>(bC (kvs.map (·.1))).bind λns=>if (Cw ns && decide (ns.length<=16777216))=true then (bh ns).bind λis=>if (decide (is.length<=16777216) && is.all λi=>decide (i < ns.length))=true then some (.lst (is.map λi=>ntD (ns.getD i [])),.u) else none else none
 | _=>none
abbrev dF:=c1 AX
theorem xa:cb K uD dF:=λys H Q p ra e q=>by
 obtain ⟨y,rfl,a⟩:=dA e
 clear e
 have e:=a
 clear a
 have h:=(ra y GG).rep
 obtain ⟨da,C,x,B⟩:=y
 dsimp only at h e
 cases da with
 | dt kvs =>
  obtain ⟨o,ps,z,rfl,rfl,⟨n,s⟩,m,rs⟩:=h.view
  obtain ⟨ns,h1,h2⟩:=Hg.mp (show ((bC (kvs.map (·.1))).bind λns=>_)=some p from e)
  by_cases d:(Cw ns && decide (ns.length<=16777216))=true
  .rw[if_pos d] at h2
   obtain ⟨h3,w⟩:=Bool.and_eq_true_iff.mp d
   obtain ⟨is,r,f⟩:=Hg.mp h2
   by_cases hd:(decide (is.length<=16777216) && is.all λi=>decide (i < ns.length))=true
   .rw[if_pos hd] at f
    cases f
    obtain ⟨h7,h8⟩:=Bool.and_eq_true_iff.mp hd
    refine #[o,ps,ns,is,rfl,#[n,.inl s],by rw[<- m];exact di h1,Cv h3,r,by rw[sizeLine_eq];exact of_decide_eq_true w,by rw[sizeLine_eq];exact of_decide_eq_true h7,λbs A l p v=>?_]
    have t:(is.map λi=>V.ref (bs.getD i 0))=(is.map λi=>bs.getD i 0).map V.ref:=by rw[Hs];rfl
    have g:(is.map λi=>ntD (ns.getD i []))=(is.map λi=>ns.getD i []).map ntD:=by rw[Hs];rfl
    rw[t]
    refine q #[.lst (is.map λi=>ntD (ns.getD i [])),.ref p,[p],.u] _ (Cc v ?_ λc d=>by cases d) rfl rfl
    rw[g]
    refine uC (by simp) λi b n e1 a=>?_
    rw[GY] at e1 a
    cases hi:is[i]? with
    | none=>rw[hi] at e1;cases e1
    | some j =>
     rw[hi] at e1 a
     have k:j < ns.length:=of_decide_eq_true (List.all_eq_true.mp h8 j (GV hi))
     have g1:bs[j]?=some bs[j]:=GO (by lia)
     have g2:ns[j]?=some ns[j]:=GO k
     have e1:bs.getD j 0=b:=Hu e1
     have a:ns.getD j []=n:=Hu a
     rw[List.getD,g1] at e1
     rw[List.getD,g2] at a
     subst e1 a
     exact l j _ _ g1 g2
   .rw[if_neg hd] at f;exact nsE f
  .rw[if_neg d] at h2;exact nsE h2
 | _=>exact nsE e
end
section
variable {K:FG} {G G0:Gm} {W W0:D->Sto->Prop} {H H':Hp} {Y:St} {X:Cx}
def keysX:D->Option (List D)
 | .dt kvs=>some (kvs.map λF=>wK F.1)
 | .dk kvs=>some (kvs.map λF=>zG F.1)
 | _=>none
def jE (m:EM):IM:=ag m λr=>ag (der r) λd=>a9 ((keysX d).map λds=>([r],ds))
theorem xI {m:EM} {R:It->Hp->Prop} (h:tI K G0 W0 (jE m) Y H R):zL (tE K G0 W0 m) Y H R:=by
 obtain ⟨G,W,le,Z,T,g,o,Z',w,e,q⟩:=h
 have b:∀ x,o=.error x->W x Z':=λx E=>by subst E;exact q
 refine tE.seq le w e b λra Z1 e1 v H1 #[Ts,g1,k,a1]=>?_
 obtain ⟨d,d1,s⟩:=aI e1
 obtain ⟨p,r,rfl,rfl⟩:=bA s
 obtain ⟨ds,c,I⟩:=GJ.mp r
 subst I
 obtain ⟨y,F,D,u⟩:=a1.item2 k d1
 have C:Itm (Ts++T) g1 y:=by
  rcases u with ⟨i,_,L⟩ | h
  .exact .inl #[i,L]
  .exact .inr (GK _ h)
 have A:=(k.itm C).arg
 have t:∀ J,Walk K J H1 [y] ds->R J H1:=λJ hw=>q J H1 [v] Ts g1 [y] k (by simpa using Ars.cons a1 .nil) (λz hz=>by rw[Hh.mp hz];exact u) hw
 clear e1 s r q
 subst F D
 obtain ⟨da,P,M,N⟩:=y
 obtain ⟨j,O⟩:=A
 dsimp only at j c
 cases da with
 | dt kvs =>
  obtain ⟨l,ps,B,rfl,rfl,⟨n,a⟩,f,rs⟩:=j.view
  cases c
  exact .inl #[l,ps,n,rfl,.inl a,t _ (mZ a f GG)]
 | dk kvs =>
  obtain ⟨l,ps,B,rfl,rfl,a,f,rs⟩:=j.view
  cases c
  exact .inr #[l,ps,rfl,.inl a,t _ (rY a f GG)]
 | _=>exact nsE c
theorem yx {tg l:Expr} {m:EM} (h:RE X G0 W0 l m):RI X G0 W0 tg l (jE m):=#[PI.imp (yW h.h) λ_ _ _ h=>xI h]
def Dl:D->Option (D×Fl)
 | .dk kvs=>#v[.int kvs.length]
 | d=>u5 d
abbrev nH:=c1 Dl
def Df (K:FG):List V->Hp->VK->Prop:=λxs H Q=>yH K xs H Q\/∃ p ys,xs=[.ref p]/\Rd H p (.dK ys)/\Q (.int ys.length) H
theorem xi:CallR X (.builtin "len") (Df X.K):=CallR.or xj xl
theorem CM:cb K (Df K) nH:=λys H Q p ra e q=>by
 obtain ⟨y,rfl,a⟩:=dA e
 have b:=(ra y GG).rep
 by_cases hd:∃ kvs,y.d=.dk kvs
 .obtain ⟨kvs,hd⟩:=hd
  obtain ⟨da,l,j,m⟩:=y
  dsimp only at hd b a
  subst hd
  obtain ⟨i,ps,k,rfl,rfl,c,f,rs⟩:=b.view
  cases a
  have h:kvs.length=ps.length:=by have:=congrArg List.length f;simpa using this
  refine .inr #[i,ps,rfl,.inl c,?_]
  rw[<- h]
  exact q #[.int kvs.length,_,[],.z] H (cy (.int _)) rfl rfl
 .refine .inl (CN [y] H Q p ra ?_ q)
  have:Dl y.d=u5 y.d:=by
   cases g:y.d with
   | dk kvs=>exact absurd #[kvs,g] hd
   | _=>rfl
  show u5 y.d=some p
  rw[<- this];exact a
end
def kP:Key->PyData
 | .inl i=>.int i
 | .inr x=>.str x
def d1 {α:Type}:List (α×D)->Option (α×Int)
 | [(k,.int i)]=>some (k,i)
 | _=>none
theorem d1_eq {i:Int} (h:d1 l=some (k,i)):l=[(k,.int i)]:=by
 unfold d1 at h
 split at h
 .cases h;rfl
 .cases h
def ul (K:FG):Prop:=∃ ob,K.lookup sysModules=some ob/\∀ a n,ob.data≠.seq a n
set_option tactic.hygienic true in
theorem Ec {K:FG} (e:oe K=true):ul K:=by
 unfold oe at e
 split at e
 .rename_i h;exact #[_,h,λ_ _ z=>by cases z]
 .cases e
mutual
def pyN:D->Option PyData
 | .non=>some .none
 | .bl b=>some (.bool b)
 | .int i=>some (.int i)
 | .str x=>some (.str x)
 | .tup xs=>(iS xs).map .tuple
 | .lst xs=>(iS xs).map .list
 | .dk kvs=>(d1 kvs).map λp=>.dict [(kP p.1,.int p.2)]
 | .dt kvs=>(qc kvs).map λqs=>.dict ((kvs.map λp=>PyData.tuple (p.1.map kP)).zip qs)
 | _=>none
def qc:List (List Key×D)->Option (List PyData)
 | []=>some []
 | (_,d)::ds=>match pyN d,qc ds with
  | some p,some ps=>some (p::ps)
  | _,_=>none
def iS:List D->Option (List PyData)
 | []=>some []
 | d::ds=>match pyN d,iS ds with
  | some p,some ps=>some (p::ps)
  | _,_=>none
end
def RdN (H:Hp) (v:V) (p:PyData):Prop:=∀ (X:Cx) (pins:List (Addr×Obj)) (Y:St) (s:Shared),ul X.K->Inv X pins Y H s->∀ u,RelV v u->∃ as,Reads s.heap u p as/\sysModules ∉ as
def RdNs (H:Hp) (a:List V) (ps:List PyData):Prop:=∀ (X:Cx) (pins:List (Addr×Obj)) (Y:St) (s:Shared),ul X.K->Inv X pins Y H s->∀ us,Vals a us->∃ as,ReadsAll s.heap us ps as/\sysModules ∉ as
theorem kb:∀ {ks:List Key} {us:List Value},Vals (ks.map kV) us->ReadsAll h us (ks.map kP) []
 | [],_,.nil=>.nil
 | .inl i::ks,_,.cons r rs=>by
  obtain ⟨t,rfl⟩:=r
  exact .cons (as:=[]) (bs:=[]) (.int i t) (kb rs)
 | .inr x::ks,_,.cons r rs=>by
  obtain ⟨t,rfl⟩:=r
  exact .cons (as:=[]) (bs:=[]) (.str x t) (kb rs)
theorem BY {α:Type} {k:α} {i:Int} {ps:List (α×V)} (b:∀ v L,R (.int i) v L->v=.int i) (h1:[k]=ps.map (·.1)) (h2:Reps R [.int i] (ps.map (·.2)) L):ps=[(k,.int i)]:=by
 match ps,h1,h2 with
 | [(k',v)],h1,.cons a _ =>
  have:=b _ _ a
  subst this
  cases h1
  rfl
theorem uL:∀ kvs:List (List Key×D),qc kvs=iS (kvs.map (·.2))
 | []=>by unfold qc;rfl
 | (k,d)::r=>by
  rw[G6]
  unfold qc iS
  rw[uL r]
theorem qd:∀ {ds:List D} {ps:List PyData},iS ds=some ps->ds.length=ps.length
 | [],_,h=>by unfold iS at h;cases h;rfl
 | d::ds,_,h=>by
  unfold iS at h
  cases h1:pyN d with
  | none=>rw[h1] at h;exact nsE h
  | some p =>
   cases h2:iS ds with
   | none=>rw[h1,h2] at h;exact nsE h
   | some qs=>rw[h1,h2] at h;cases h;simp[qd h2]
theorem q5 {X:Cx} {pins:List (Addr×Obj)} {Y:St} {H:Hp} {s:Shared} (I:Inv X pins Y H s):∀ {ps:List (List Key×V)} {xs:List (List Key×Addr×Value)},Paired (λ(p:List Key×V) (q:List Key×Addr×Value)=>p.1=q.1/\H q.2.1=some (.tup (p.1.map kV))/\RelV p.2 q.2.2) ps xs ->
  ReadsAll s.heap (xs.map λx=>.ref x.2.1) (ps.map λp=>.tuple (p.1.map kP)) []/\Vals (ps.map (·.2)) (xs.map λx=>x.2.2)
 | [],_,.nil=>#[.nil,.nil]
 | p::ps,_,.cons (b:=x) c r=>by
  obtain ⟨a1,a2⟩:=q5 I r
  obtain ⟨e1,d,g⟩:=c
  obtain ⟨its,e,⟨o',a,f,h,d'⟩,_⟩:=I.tuple (SqT.of d)
  exact #[.cons (as:=[]) (bs:=[]) (.tuple a f d' (by simpa using kb e)) a1,.cons g a2]
section
variable {K:FG} {H:Hp} {d:D} {v:V} {L:List Addr}
set_option tactic.hygienic true in
theorem Rep.rdN (r:Rep K H d v L):∀ p,pyN d=some p->RdN H v p:=by
 refine Rep.rec (motive_1:=λd v _ _=>∀ p,pyN d=some p->RdN H v p) (motive_2:=λds y _ _=>∀ ps,iS ds=some ps->RdNs H y ps) ?_ ?_ ?_ ?_ ?_ ?_ ?_ ?_ ?_ ?_ ?_ ?_ ?_ ?_ r
 .intro p e;unfold pyN at e;cases e;intro X pins Y s f I u hu;cases (show u=Value.none from hu);exact #[[],.none,by simp]
 .intro b p e;unfold pyN at e;cases e;intro X pins Y s f I u hu;cases (show u=Value.bool b from hu);exact #[[],.bool b,by simp]
 .intro i p e;unfold pyN at e;cases e;intro X pins Y s f I u hu;obtain ⟨t,rfl⟩:=hu;exact #[[],.int i t,by simp]
 .intro x p e;unfold pyN at e;cases e;intro X pins Y s f I u hu;obtain ⟨t,rfl⟩:=hu;exact #[[],.str x t,by simp]
 .intro xs a y L h _ m p e
  unfold pyN at e
  obtain ⟨ps,e1,rfl⟩:=GJ.mp e
  intro X pins Y s f I u hu
  cases (show u=Value.ref a from hu)
  obtain ⟨its,D,⟨o,e,c,n,d⟩,_⟩:=I.tuple (SqT.of h)
  obtain ⟨as,q,nm⟩:=m ps e1 X pins Y s f I _ D
  exact #[_,.tuple e c d (by simpa using q),nm]
 .intro xs a y L h _ m p e
  unfold pyN at e
  obtain ⟨ps,e1,rfl⟩:=GJ.mp e
  intro X pins Y s f I u hu
  cases (show u=Value.ref a from hu)
  obtain ⟨its,D,⟨o,n,e,c,_,d⟩,_⟩:=I.list (SqL.of h)
  obtain ⟨as,q,nm⟩:=m ps e1 X pins Y s f I _ D
  refine #[_,.list e c d (by simpa using q),λz=>?_]
  rcases GN.mp z with z | z
  .obtain ⟨ob,V,N⟩:=f
   have:=I.kIn _ _ V
   rw[z,e] at this
   cases this
   exact N _ _ d
  .exact nm z
 .intro xs a y L h _ m p e;unfold pyN at e;exact nsE e
 .intro kvs a ps L h B rs _ p e
  unfold pyN at e
  obtain ⟨⟨k,i⟩,e1,rfl⟩:=GJ.mp e
  have Q:=d1_eq e1
  subst Q
  clear e e1
  have:=BY (λv L (q:Rep K H (.int i) v L)=>q.int_inv) B rs
  subst this
  intro X pins Y s f I u hu
  cases (show u=Value.ref a from hu)
  obtain ⟨_,hm,y,F,o,es,ep,g,xd,hd,_,pr,_,_⟩:=(show ObjOk X.prog X.w H s.heap a (.dK [(k,.int i)]) from I.hok a _ h)
  cases F with
  | @cons _ p0 _ _ c0 z0 =>
   cases z0
   obtain ⟨k',ρ⟩:=p0
   obtain ⟨e1,W⟩:=c0
   subst e1
   obtain ⟨t,rfl⟩:=W
   generalize l:es.toList=el at pr
   cases pr with
   | cons A E G =>
    cases G
    rename_i J
    refine #[_,.dict (as:=[]) (bs:=[]) g xd.1 hd ?_ ?_,?_]
    .rw[l]
     show ReadsAll s.heap [J.key] [kP k] []
     rcases aZ A with ⟨j,t',rfl,C⟩ | ⟨x,t',rfl,C⟩
     .rw[C];exact .cons (as:=[]) (bs:=[]) (.int _ _) .nil
     .rw[C];exact .cons (as:=[]) (bs:=[]) (.str _ _) .nil
    .rw[l]
     show ReadsAll s.heap [J.val] [.int i] []
     rw[E];exact .cons (as:=[]) (bs:=[]) (.int _ _) .nil
    .simp only[List.append_nil,Hh]
     intro z
     rw[z] at hm
     simp at hm
 .intro kvs a ps n L h B rs m p e
  unfold pyN at e
  obtain ⟨qs,e1,rfl⟩:=GJ.mp e
  rw[uL] at e1
  intro X pins Y s f I u hu
  cases (show u=Value.ref a from hu)
  obtain ⟨_,hm,xs,F,o,es,ep,g,xd,hd,l,_⟩:=(show ObjOk X.prog X.w H s.heap a (.dT ps n) from I.hok a _ h)
  obtain ⟨A,E⟩:=q5 I F
  obtain ⟨as,G,nm⟩:=m qs e1 X pins Y s f I _ E
  have P:ps.map (λp=>PyData.tuple (p.1.map kP))=kvs.map λp=>PyData.tuple (p.1.map kP):=by
   have h1:ps.map (λp=>PyData.tuple (p.1.map kP))=(ps.map (·.1)).map λk=>PyData.tuple (k.map kP):=by rw[Hs];rfl
   rw[h1,<- B,Hs];rfl
  have M:kvs.length=qs.length:=by have:=qd e1;simpa using this
  refine #[_,.dict (as:=[]) (bs:=as) g xd.1 hd ?_ ?_,?_]
  .rw[l,Hs,List.map_fst_zip (by simp[M]),<- P]
   exact A
  .rw[l,Hs,List.map_snd_zip (by simp[M])]
   exact G
  .intro z
   rcases GN.mp z with z | z
   .rw[z] at hm
    simp at hm
   .exact nm (by simpa using z)
 .intros;rename_i e;unfold pyN at e;exact nsE e
 .intros;rename_i e;unfold pyN at e;exact nsE e
 .intros;rename_i e;unfold pyN at e;exact nsE e
 .intro ps e;unfold iS at e;cases e;intro X pins Y s f I us hu;cases hu;exact #[[],.nil,by simp]
 .intro d v L ds y L' _ _ S T ps e
  unfold iS at e
  cases h1:pyN d with
  | none=>rw[h1] at e;exact nsE e
  | some p =>
   cases h2:iS ds with
   | none=>rw[h1,h2] at e;exact nsE e
   | some qs =>
    rw[h1,h2] at e
    cases e
    intro X pins Y s f I us hu
    cases hu with
    | cons a b =>
     obtain ⟨as,R,σ⟩:=S p h1 X pins Y s f I _ a
     obtain ⟨bs,φ,O⟩:=T qs h2 X pins Y s f I _ b
     exact #[_,.cons R φ,by simp[σ,O]]
end
def lG (p:PyData):Bool:=p.showable && decide (p.depth<=16) && decide (p.shown.length<=16777216)
def pyA (d:D):Option PyData:=match pyD d with
 | some p=>if p.hasDict then none else some p
 | none=>pyN d
def sL (K:FG):List V->Hp->VK->Prop:=λxs H Q=>(xs=[.non]/\Q (.str "None") H)\/(∃ b,xs=[.bl b]/\Q (.str (if b then "True" else "False")) H)\/(∃ i:Int,xs=[.int i]/\i.natAbs.log2 < 1920/\Q (.str (iV i)) H) \/
 (∃ t:Str,xs=[.str t]/\(reprText t).length<=sizeLine/\Q (.str (reprText t)) H) \/
 ∃ (a:Addr) (p:PyData),xs=[.ref a]/\(∀ (X:Cx) (pins:List (Addr×Obj)) (Y:St) (s:Shared),X.K=K->Inv X pins Y H s->∀ u,RelV (.ref a) u->∃ as,Reads s.heap u p as/\(p.hasDict=true->sysModules ∉ as))/\lG p=true/\Q (.str p.shown) H
theorem pk (m:X.A.guards=some []) (hu:X.A.units+64 < cLine):CallR X (.builtin "repr") (sL X.K):=by
 intro pins s Y H xs us Q I d h
 rcases h with ⟨rfl,q⟩ | ⟨b,rfl,q⟩ | ⟨i,rfl,hi,q⟩ | ⟨t,rfl,k,q⟩ | ⟨a,p,rfl,n,f,q⟩
 .obtain ⟨u,rfl,c⟩:=eK d
  cases (show u=Value.none from c)
  exact PySem.P.repr_of_none #[.str "None",H,I.tok _,#[_,rfl],q]
 .obtain ⟨u,rfl,c⟩:=eK d
  cases (show u=Value.bool b from c)
  exact PySem.P.repr_of_bool #[.str (if b then "True" else "False"),H,I.tok _,#[_,rfl],q]
 .obtain ⟨u,rfl,c⟩:=eK d
  obtain ⟨t,rfl⟩:=c
  exact PySem.P.repr_of_int hi #[.str (iV i),H,I.tok _,#[_,rfl],q]
 .obtain ⟨u,rfl,c⟩:=eK d
  obtain ⟨t',rfl⟩:=c
  exact PySem.P.repr_of_str #[.str _,H,I.tok _,#[_,rfl],q] k
 .obtain ⟨u,rfl,c⟩:=eK d
  obtain ⟨as,rd,nm⟩:=n X pins Y s rfl I u c
  cases (show u=Value.ref a from c)
  unfold lG at f
  obtain ⟨h3,o⟩:=Bool.and_eq_true_iff.mp f
  obtain ⟨l,g⟩:=Bool.and_eq_true_iff.mp h3
  have g:=of_decide_eq_true g
  exact repr_of_reads' rd l nm m (by lia) (λ_ _ e=>e) (λh' r tk j=>#[.str p.shown,H,I.kept j,#[_,rfl],q]) (by rw[sizeLine_eq];exact of_decide_eq_true o)
def shA (d:D):Option (D×Fl):=(pyA d).bind λp=>if lG p=true then #v[.str p.shown] else none
def jZ:D->Option (D×Fl)
 | .non=>#v[.str "None"]
 | .bl b=>#v[.str (if b then "True" else "False")]
 | .int i=>if i.natAbs.log2 < 1920 then #v[.str (iV i)] else none
 | .str t=>if (reprText t).length<=16777216 then #v[.str (reprText t)] else none
 | .exc _ _=>none
 | .desk _ _=>none
 | d=>shA d
abbrev oB:=c1 jZ
theorem EL (f:ul K) (r:Rep K H d v L) (e:pyA d=some p):∀ (X:Cx) (pins:List (Addr×Obj)) (Y:St) (s:Shared),X.K=K->Inv X pins Y H s->∀ u,RelV v u->∃ as,Reads s.heap u p as/\(p.hasDict=true->sysModules ∉ as):=by
 intro X pins Y s b I u hu
 unfold pyA at e
 cases h:pyD d with
 | none =>
  rw[h] at e
  obtain ⟨as,a,c⟩:=r.rdN p e X pins Y s (b ▸ f) I u hu
  exact #[as,a,λ_=>c]
 | some q =>
  rw[h] at e
  subst b
  obtain ⟨as,a⟩:=DV.reads I (r.dv q h) hu
  have e:(if q.hasDict then none else some q)=some p:=e
  cases hd:q.hasDict with
  | true=>rw[hd] at e;exact nsE e
  | false =>
   rw[hd] at e
   cases (Hu e)
   exact #[as,a,λz=>by rw[hd] at z;cases z]
theorem Al (o:ul K):cb K (sL K) oB:=λys H Q p ra e q=>by
 obtain ⟨y,rfl,f⟩:=dA e
 have h:=(ra y GG).rep
 obtain ⟨da,m,r,s⟩:=y
 dsimp only at h f
 have big:∀ a,m=.ref a->shA da=some p->sL K [m] H λv H'=>Q v H':=λa g f=>by
  obtain ⟨d,h1,h2⟩:=Hg.mp f
  by_cases k:lG d=true
  .rw[if_pos k] at h2
   have n:=Hu h2
   refine .inr (.inr (.inr (.inr #[a,d,congrArg (λx=>[x]) g,?_,k,q #[.str d.shown,_,[],.z] H (cy (.str _)) (congrArg Prod.fst n) (congrArg Prod.snd n)])))
   rw[<- g]
   exact EL o h h1
  .rw[if_neg k] at h2;exact nsE h2
 cases da with
 | non =>
  obtain ⟨rfl,rfl⟩:=h.view
  cases f
  exact .inl #[rfl,q #[_,_,[],.z] H (cy (.str _)) rfl rfl]
 | bl b =>
  obtain ⟨rfl,rfl⟩:=h.view
  cases f
  exact .inr (.inl #[b,rfl,q #[_,_,[],.z] H (cy (.str _)) rfl rfl])
 | int i =>
  obtain ⟨rfl,rfl⟩:=h.view
  have f:(if i.natAbs.log2 < 1920 then some ((.str (iV i),.z):D×Fl) else none)=some p:=f
  by_cases j:i.natAbs.log2 < 1920
  .rw[if_pos j] at f
   cases f
   exact .inr (.inr (.inl #[i,rfl,j,q #[_,_,[],.z] H (cy (.str _)) rfl rfl]))
  .rw[if_neg j] at f;exact nsE f
 | str t =>
  obtain ⟨rfl,rfl⟩:=h.view
  have f:(if (reprText t).length<=16777216 then some ((.str (reprText t),.z):D×Fl) else none)=some p:=f
  by_cases j:(reprText t).length<=16777216
  .rw[if_pos j] at f
   cases f
   exact .inr (.inr (.inr (.inl #[t,rfl,by rw[sizeLine_eq];exact j,q #[_,_,[],.z] H (cy (.str _)) rfl rfl])))
  .rw[if_neg j] at f;exact nsE f
 | tup xs=>obtain ⟨a,l,g,_⟩:=h.view;exact big a g f
 | lst xs=>obtain ⟨a,l,L',g,_⟩:=h.view;exact big a g f
 | fls xs=>obtain ⟨a,l,g,_⟩:=h.view;exact big a g f
 | dk kvs=>obtain ⟨a,ps,L',g,_⟩:=h.view;exact big a g f
 | dt kvs=>obtain ⟨a,ps,L',g,_⟩:=h.view;exact big a g f
 | exc c fs=>exact nsE f
 | desk _ _=>exact nsE f
section
variable {K:FG} {X:Cx}
theorem FF (hu:X.A.units+1 < cLine):MtR X "dict.get" (λx D H Q=>∃ (a:Addr) (y z:V) (o:Option V),x=.ref a/\D=[y,z]/\DGet H a y o/\Q (o.getD z) H):=by
 intro pins s Y H x D v us Q I e b h
 obtain ⟨a,y,z,o,rfl,rfl,g,q⟩:=h
 cases e
 obtain ⟨u,r,rfl,d,c⟩:=jb b
 exact Gj hu I g d c λj s' f i=>#[_,_,f,i,q]
def wP:D->Bool
 | .dt _=>true
 | _=>false
theorem u9:∀ d v L H,wP d=true->Rep K H d v L->tyV K "dict" v H:=λd v L H h r=>by
 cases d with
 | dt kvs =>
  obtain ⟨e,ps,c,rfl,rfl,⟨n,a⟩,b,rs⟩:=r.view
  exact .inr (.inr (.inl #[rfl,.inr #[_,n,a]]))
 | _=>cases h
def getN3:D->D->D->Option (D×Fl)
 | .dt kvs,.tup ks,.int n=>match ci ks with
  | some k=>#v[(b8 kvs k).getD (.int n)]
  | none=>none
 | _,_,_=>none
def vg:List D->Option (D×Fl)
 | [a,b,c]=>getN3 a b c
 | _=>none
theorem CO:cb K (λxs H Q=>∃ x r,xs=x::r/\∃ (a:Addr) (y z:V) (o:Option V),x=.ref a/\r=[y,z]/\DGet H a y o/\Q (o.getD z) H) vg:=λys H Q p ra e q=>by
 match ys,ra,e,q with
 | [],_,e,_=>exact nsE e
 | [_],_,e,_=>exact nsE e
 | [_,_],_,e,_=>exact nsE e
 | [a,b,c],ra,e,q =>
  have g:=ra a (by simp)
  have rb:=(ra b (by simp)).rep
  have rc:=(ra c (by simp)).rep
  obtain ⟨da,L,E,A⟩:=a
  obtain ⟨db,D,I,G⟩:=b
  obtain ⟨h,N,F,M⟩:=c
  have f:=g.rep
  dsimp only at f rb rc
  cases da with
  | dt kvs =>
   obtain ⟨j,ps,s,rfl,rfl,⟨_,B⟩,m,rs⟩:=f.view
   cases db with
   | tup ks =>
    obtain ⟨J,ws,rfl,u,l⟩:=rb.view
    cases h with
    | int n =>
     obtain ⟨rfl,rfl⟩:=rc.view
     have e:(match ci ks with | some k=>some ((b8 kvs k).getD (.int n),Fl.z) | none=>none)=some p:=e
     cases h1:ci ks with
     | none=>rw[h1] at e;exact nsE e
     | some k =>
      rw[h1] at e
      cases e
      have hw:=dh l h1
      subst hw
      refine #[_,_,rfl,j,_,_,eJ ps k,rfl,rfl,DGet.t B u,?_]
      cases h2:b8 kvs k with
      | none =>
       have i:=ml (k:=k) m
       rw[h2] at i
       cases C:eJ ps k with
       | some v=>rw[C] at i;cases i
       | none=>exact q #[_,_,[],.z] H (cy (.int _)) (by rw[h2];rfl) rfl
      | some d =>
       obtain ⟨v,L',g1,g2,g3⟩:=jH m rs h2
       rw[g1]
       exact q #[d,v,L',.z] H (oO g2 λc w=>md (y:=#[.dt kvs,.ref j,j::s,A]) GG g rfl rfl c (g3 c w)) (by rw[h2];rfl) rfl
    | _=>exact nsE e
   | _=>cases h <;> exact nsE e
  | _=>cases db <;> cases h <;> exact nsE e
 | _::_::_::_::_,_,e,_=>exact nsE e
end
end L3
end
section
namespace L2
open PySem PySem.Spec PyProof.Rows
theorem KT.drop {H:Hp} {kvs:List (List Key×V)} {xs:List (List Key×Addr×Value)} (r:KT H kvs xs) (k:List Key):KT H (eX kvs k) (xs.filter λx=>decide (x.1≠k)):=by
 induction r with
 | nil=>exact .nil
 | @cons p q ps qs h t ih =>
  rw[List.filter_cons]
  by_cases e:p.1=k
  .rw[kj e,if_neg (by rw[<- h.1];simp[e])];exact ih
  .rw[nU e,if_pos (by rw[<- h.1];simp[e])];exact .cons h ih
theorem vq {κ β:Type} [DecidableEq κ] {k:κ} {p:β}:∀ {xs:List (κ×β)} {j:Nat},(xs.map (·.1)).Nodup->xs[j]?=some (k,p)->xs.filter (λx=>decide (x.1≠k))=xs.eraseIdx j/\(xs.eraseIdx j).length+1=xs.length
 | [],j,_,h=>by simp at h
 | x::xs,0,nd,h=>by
  simp only[List.getElem?_cons_zero,Option.some.injEq] at h
  subst h
  rw[G6,List.nodup_cons] at nd
  refine #[?_,rfl]
  rw[List.filter_cons,if_neg (by simp),List.eraseIdx_cons_zero,Hq]
  intro y D
  refine G7 λe=>nd.1 ?_
  have:=List.mem_map_of_mem (f:=(·.1)) D
  rw[e] at this
  exact this
 | x::xs,j+1,nd,h=>by
  rw[List.getElem?_cons_succ] at h
  rw[G6,List.nodup_cons] at nd
  obtain ⟨a,b⟩:=vq nd.2 h
  have ne:x.1≠k:=λe=>nd.1 (by rw[e];exact List.mem_map_of_mem (f:=(·.1)) (GV h))
  refine #[?_,?_]
  .rw[List.filter_cons,if_pos (G7 ne),List.eraseIdx_cons_succ,a]
  .rw[List.eraseIdx_cons_succ,Hd,Hd,b]
section
variable {prog:Program} {w:World} {K:Type} [DecidableEq K] {A:Around} {E:Value->Shared->Prop} {s:Shared} {d:Addr} {k:K} {knd:HeapKind prog w K}
theorem vQ {a:Addr} {o:Obj} {es:Array DictEntry} {ep:Nat} {xs:List (K×Addr×Value)} {Q:Option DictEntry->Shared->Prop} (hu:knd.room A) (b:knd.is s.heap k a) (c:s.heap.get? d=some o) (g:o.ExactDict) (hd:o.data=.dict es ep)
  (he:es.toList=xs.map (entryOfKey knd)) (e:∀ x∈xs,knd.is s.heap x.1 x.2.1) (f:(xs.map (·.1)).Nodup) (hz:es.size<=sizeLine)
  (no:(∀ (j:Nat) (p:Addr×Value),xs[j]?≠some (k,p))->Q none { s with toks:=s.toks+knd.draws k })
  (yes:∀ (j:Nat) (p:Addr×Value) h' o',xs[j]?=some (k,p)->h'.get? d=some o'->o'.ExactDict->o'.data=.dict (es.eraseIdxIfInBounds j) (ep+1)->Heap.SameBut d s.heap h'->Q (some (entryOfKey knd (k,p))) { s with heap:=h',toks:=s.toks+knd.draws k }) :
  wpAny (model prog w) A (Builtin.Dict.takeOut d (.ref a)) Q E s:=by
 unfold Builtin.Dict.takeOut
 refine GF (GC (knd.pyHash hu b (GC (wpAny_dictFind_heap (s:={ s with toks:=s.toks+knd.draws k }) hu b c hd he e f (λz=>GD (no z)) λj p z=>?_))))
 have at':es[j]?=some (entryOfKey knd (k,p)):=by rw[entry_at he j,z];rfl
 refine GC (wpAny_dictEntries (s:={ s with toks:=s.toks+knd.draws k }) c hd ?_)
 rw[at']
 exact GC (wpAny_updateDictKeys (hz:=hz) (s:={ s with toks:=s.toks+knd.draws k }) c hd (GD (yes j p _ _ z (Hb _ c (Obj.isFreed_of_dict (Obj.data_mapDictKeys hd _))) (g.mapDictKeys _) (Obj.data_mapDictKeys hd _) (Heap.SameBut.update ..))))
end
theorem tM {α β:Type} (f:α->β):∀ (l:List α) (j:Nat),(l.map f).eraseIdx j=(l.eraseIdx j).map f
 | [],_=>rfl
 | _::_,0=>rfl
 | x::l,j+1=>by
  rw[G6,List.eraseIdx_cons_succ,List.eraseIdx_cons_succ,G6,tM f l j]
end L2
namespace L3
open PySem PySem.Spec PyProof.Rows L2
section
variable {X:Cx}
def Dg:V->List V->Hp->VK->Prop:=λx c H Q=>∃ (a b:Addr) (z:V) (kvs:List (List Key×V)) (n:Int) (k:List Key),x=.ref a/\c=[.ref b,z]/\H a=some (.dT kvs n)/\H b=some (.tup (k.map kV))/\(eJ kvs k=none->Q z H)/\∀ v,eJ kvs k=some v->Q v (upd H a (.dT (eX kvs k) (n - 2)))
set_option tactic.hygienic true in
theorem Ce (hu:X.A.units+1 < cLine):MtR X "dict.pop" Dg:=by
 intro pins s Y H x xs v us Q I N P h
 obtain ⟨a,b,z,kvs,n,k,rfl,rfl,C,K,φ,J⟩:=h
 cases N
 obtain ⟨u,r,rfl,T,M⟩:=jb P
 cases (show u=Value.ref b from T)
 obtain ⟨hz,hd,ys,rel,o,es,ep,g1,g2,g3,d,m,f,ρ⟩:=ie I.hok (.inl C)
 have ty:s.TypeIs (.ref a) "dict":=#[_,g1,g2.1]
 have L:=i5 I.hok K
 have y:es.size<=sizeLine:=by
  have e1:=size_of_entries d
  have g:=Paired.length rel
  lia
 refine call_meetsIn PySem.F.slot_dict_pop ty PySem.F.entry_dict_pop (PySem.F.args_dict_pop_3 _ _ _) (S:=λA R s'=>s'=s/\(tupleKind (aG X.prog X.w)).room A.in1/\(∀ t,(∀ (j:Nat) (p:Addr×Value),ys[j]?≠some (k,p))->R (.ok (.ret r)) { s with toks:=t })/\∀ t (j:Nat) (p:Addr×Value) h' o',ys[j]?=some (k,p)->h'.get? a=some o'->o'.ExactDict->o'.data=.dict (es.eraseIdxIfInBounds j) (ep+1)->Heap.SameBut a s.heap h'->R (.ok (.ret p.2)) { s with heap:=h',toks:=t }) (.of_wp λA R s' #[e,O,D,W]=>?_) #[rfl,tupleKind_room_in1 hu,?_,?_]
 .subst e
  have tk:=vQ (A:=A.in1) (E:=λe s'=>R (.error e) s') O L g1 g2 g3 d m f y (Q:=λe s1=>(∃ t,s1={ s' with toks:=t }/\e=none/\R (.ok (.ret r)) s1)\/∃ p,e=some (entryOfKey (tupleKind (aG X.prog X.w)) (k,p))/\R (.ok (.ret p.2)) s1) (λno=>.inl #[_,rfl,rfl,D _ no]) λj p h' o' z e1 g B i=>.inr #[p,rfl,W _ j p h' o' z e1 g B i]
  obtain ⟨c1,d1,x1,e1⟩:=o
  simp only at g3
  subst g3
  have V:c1=.type "dict":=g2.1
  subst V
  unfold Builtin.«dict.pop»
  wp_walk
  split
  .rename_i c
   have no:∀ (j:Nat) (p:Addr×Value),ys[j]?≠some (k,p):=λj p z=>by
    have σ:=size_of_entries d
    have:es.size=0:=by simpa using c
    have:=(GU.mp z).1
    lia
   wp_walk
   exact #[_,rfl,D _ no]
  .refine GC (wpAny_mono tk ?_ λ_ _ z=>z)
   rintro _ s1 (⟨t,rfl,rfl,h⟩ | ⟨p,rfl,h⟩)
   .wp_walk
    exact #[_,rfl,h]
   .wp_walk
    exact #[_,rfl,h]
 .intro t no
  have e:eJ kvs k=none:=by
   have q:=KT.val rel k
   rw[atKey_none_of_get no] at q
   cases c:eJ kvs k with
   | none=>rfl
   | some v=>rw[c] at q;cases q
  exact #[_,_,I.tok _,M,φ e]
 .intro t j p h' o' at' e1 g B i
  obtain ⟨f1,f2⟩:=vq f at'
  have e:=KT.val rel k
  rw[atKey_of_get f at'] at e
  have le:=z7 kvs k
  cases c:eJ kvs k with
  | none=>rw[c] at e;cases e
  | some v =>
   rw[c] at e
   refine #[_,_,jL (ob:=.dT (eX kvs k) (n - 2)) (t':=t) I (by rw[C];exact True.intro) i #[o',e1] #[Ho le hz,hd,ys.eraseIdx j,?_,o',es.eraseIdxIfInBounds j,ep+1,e1,g,B,?_,?_,?_],e,J v c]
   .rw[<- f1]
    refine (rel.drop k).keeps λc zs G=>?_
    rw[ay (zm G C (λz=>nomatch z))]
    exact G
   .have:(es.eraseIdxIfInBounds j).toList=es.toList.eraseIdx j:=by obtain ⟨l⟩:=es;simp
    rw[this,d,tM]
   .exact (List.Sublist.map _ (List.eraseIdx_sublist ..)).nodup f
   .have a1:(es.eraseIdxIfInBounds j).size=(ys.eraseIdx j).length:=by
     rw[<- Array.length_toList,show (es.eraseIdxIfInBounds j).toList=es.toList.eraseIdx j by obtain ⟨l⟩:=es;simp,d,tM,GS]
    have a2:=size_of_entries d
    lia
end
end L3
end
section
namespace L3
open PySem PySem.Spec PyProof.Rows L2
section
variable {K:FG} {H:Hp}
def dB (kvs:List (List Key×D)) (k:List Key):List (List Key×D):=kvs.filter λa=>decide (a.1≠k)
def yU (kvs:List (List Key×D)) (ks:List D):Option (D×D):=match ci ks with
 | some k=>match b8 kvs k with
  | none=>some (.dt kvs,.non)
  | some (.int v)=>some (.dt (dB kvs k),.int v)
  | _=>none
 | none=>none
def jp:D->List D->Option (D×D)
 | .dt kvs,[.tup ks,.non]=>yU kvs ks
 | _,_=>none
theorem nR:∀ {kvs:List (List Key×D)} {ps:List (List Key×V)} {L:List Addr} {k:List Key},kvs.map (·.1)=ps.map (·.1)->Reps (Rep K H) (kvs.map (·.2)) (ps.map (·.2)) L ->
  ∃ L2,Reps (Rep K H) ((dB kvs k).map (·.2)) ((eX ps k).map (·.2)) L2/\(∀ c∈L2,c∈L)/\(dB kvs k).map (·.1)=(eX ps k).map (·.1)
 | [],[],L,k,hk,r=>#[[],.nil,λc J=>(by cases J),rfl]
 | [],_::_,_,_,hk,_=>by cases hk
 | _::_,[],_,_,hk,_=>by cases hk
 | I::kvs,p::ps,L,k,hk,r=>by
  have F:I.1=p.1/\kvs.map (·.1)=ps.map (·.1):=by simpa using hk
  generalize b:(I::kvs).map (·.2)=xs at r
  generalize e:(p::ps).map (·.2)=ys at r
  cases r with
  | nil=>cases b
  | @cons _ _ L1 _ _ L1' a as =>
   cases b
   cases e
   obtain ⟨L2,h1,h2,h3⟩:=nR (k:=k) F.2 as
   by_cases h:I.1=k
   .refine #[L2,?_,λc J=>GL _ (h2 c J),?_]
    .rw[kj (F.1.symm.trans h),show dB (I::kvs) k=dB kvs k by unfold dB;rw[List.filter_cons,if_neg (by simp[h])]]
     exact h1
    .rw[kj (F.1.symm.trans h),show dB (I::kvs) k=dB kvs k by unfold dB;rw[List.filter_cons,if_neg (by simp[h])]]
     exact h3
   .have e1:dB (I::kvs) k=I::dB kvs k:=by unfold dB;rw[List.filter_cons,if_pos (G7 h)]
    have d:=nU (r:=ps) (p:=p) (k:=k) λz=>h (F.1.trans z)
    refine #[L1++L2,?_,λc J=>?_,?_]
    .rw[e1,d]
     exact .cons a h1
    .rcases GQ.mp J with z | z
     .exact GK _ z
     .exact GL _ (h2 c z)
    .rw[e1,d,G6,G6,h3,F.1]
theorem Ch:MutD K Dg jp:=λa d w as H Q p r m na ra x e q=>by
 cases d with
 | dt kvs =>
  obtain ⟨_,ps,_,e1,F,⟨n,j⟩,t,rs⟩:=r.view
  cases e1
  cases F
  match as,e,ra,x with
  | [],e,_,_=>exact nsE e
  | [y],e,_,_=>cases s:y.d <;> (rw[show jp (.dt kvs) ([y].map (·.d))=none by simp[jp,s]] at e;exact nsE e)
  | y::z::_::_,e,_,_=>cases s:y.d <;> cases hz:z.d <;> (first | exact nsE e | (simp[jp,s,hz] at e))
  | [k,y],e,ra,x =>
   have D:=ra k GG
   have B:=ra y (GH _ GG)
   obtain ⟨kd,O,L,R⟩:=k
   obtain ⟨C,N,S,P⟩:=y
   dsimp only at D B
   cases kd with
   | tup ks =>
    obtain ⟨A,ws,rfl,g,u⟩:=D.view
    cases C with
    | non =>
     cases B
     have e:yU kvs ks=some p:=e
     unfold yU at e
     cases h1:ci ks with
     | none=>rw[h1] at e;exact nsE e
     | some key =>
      rw[h1] at e
      dsimp only at e
      have hw:=dh u h1
      subst hw
      have ma:MutAt H a:=.inr (.inr (.inl #[_,_,j]))
      cases h2:b8 kvs key with
      | none =>
       rw[h2] at e
       cases e
       have l:=ml (k:=key) t
       rw[h2] at l
       have I:eJ ps key=none:=by
        cases J:eJ ps key with
        | some v=>rw[J] at l;cases l
        | none=>rfl
       have he:upd H a (.dT ps n)=H:=by
        funext b
        by_cases z:b=a
        .rw[z,aD,j]
        .rw[ay z]
       refine #[a,A,.non,ps,n,key,rfl,rfl,j,g,λ_=>?_,λv z=>by rw[I] at z;cases z]
       have:=q (.dT ps n) w #[.non,.non,[],.z] (by rw[he];exact r) rfl (λc f=>.inl f) rfl rfl .non λc f=>by cases f
       rw[he] at this
       exact this
      | some d =>
       rw[h2] at e
       cases d with
       | int i =>
        cases e
        obtain ⟨v,L',g1,g2,g3⟩:=jH t rs h2
        cases g2
        refine #[a,A,.non,ps,n,key,rfl,rfl,j,g,(λz=>by rw[g1] at z;cases z),λv z=>?_]
        rw[g1] at z
        cases z
        have keeps:Reps (Rep K (upd H a (.dT (eX ps key) (n - 2)))) (kvs.map (·.2)) (ps.map (·.2)) w:=rs.keep (M:=λb=>b=a) (λb o g h=>by rw[ay h];exact g) (λb e=>by rw[e];exact ma) λb g e=>na (by rw[<- e];exact g)
        obtain ⟨E,f1,f2,G⟩:=nR (k:=key) t keeps
        exact q (.dT (eX ps key) (n - 2)) E #[.int i,.int i,[],.z] (.dT aD G f1) rfl (λc f=>.inl (f2 c f)) rfl rfl (.int i) λc f=>by cases f
       | _=>exact nsE e
    | _=>exact nsE e
   | _=>cases C <;> exact nsE e
 | _=>exact nsE e
end
end L3
end
section
namespace L2
open PySem PySem.Spec PyProof.Rows
def j4 (bs:List Addr) (x:Keyed):Keyed:=match x.1 with
 | .ref i=>(.ref (bs.getD i 0),.ref (bs.getD i 0))
 | _=>(.bool true,.bool true)
def IsPr (h:Heap) (a:Addr) (n:List Int):Prop:=∃ (o:Obj) (its:Array Value) (k:Nat) (c:Addr) (v:Int) (t:Tok),h.get? a=some o/\o.cls=.type "tuple"/\o.data=.seq its k/\its.toList=[.ref c,.int v t]/\IsNts h c n
theorem j0 {h:Heap}:∀ {a:List Value} {ns:List Int},IntsAre a ns->ReadsAll h a (ns.map PyData.int) []
 | _,_,.nil=>.nil
 | _,_,.cons _ _ r=>.cons (as:=[]) (bs:=[]) (.int _ _) (j0 r)
theorem mi:∀ ns:List Int,PyData.canLayAll0 (ns.map PyData.int)=true/\PyData.depthAll (ns.map PyData.int)<=10
 | []=>#[by simp[PyData.canLayAll0],by simp[PyData.depthAll]]
 | n::ns=>by
  obtain ⟨h1,h2⟩:=mi ns
  exact #[by simp[PyData.canLayAll0,PyData.canLay0,h1],by simp[PyData.depthAll,PyData.depth];lia]
theorem qO:∀ a b:List Int,PyData.eqvAll (a.map PyData.int) (b.map PyData.int)=decide (a=b)
 | [],[]=>by simp[PyData.eqvAll]
 | [],b::bs=>by simp[PyData.eqvAll]
 | a::as,[]=>by simp[PyData.eqvAll]
 | a::as,b::bs=>by
  have D:=qO as bs
  simp only[G6,PyData.eqvAll,PyData.eqv,D]
  rw[Bool.eq_iff_iff]
  simp
section
variable {prog:Program} {w:World} {A:Around} {E:Value->Shared->Prop} {s:Shared} {bs:List Addr} {ns:List (List Int)}
theorem Gg {a b:Addr} {x y:List Int} {Q:Bool->Shared->Prop} (hu:A.units+30 < cLine) (g:IsNts s.heap a x) (f:IsNts s.heap b y) (h:Q (decide (x=y)) s):wpAny (model prog w) A (eqBool (.ref a) (.ref b)) Q E s:=by
 obtain ⟨m,⟨n,e1,c1,p,d1⟩,k⟩:=g
 obtain ⟨o,⟨q,c,c2,k2,j⟩,i⟩:=f
 have d:∀ ns:List Int,(PyData.tuple (ns.map PyData.int)).depth<=20:=λns=>by have:=(mi ns).2;simp[PyData.depth];lia
 have l:∀ ns:List Int,(PyData.tuple (ns.map PyData.int)).canLay0=true:=λns=>by simp[PyData.canLay0,(mi ns).1]
 have e:=SeqAt.eqAt_reads (.tuple (x.map PyData.int)) (.tuple (y.map PyData.int)) A s _ _ [] [] (prog:=prog) (w:=w) (.tuple e1 c1 d1 (j0 k)) (.tuple c c2 j (j0 i)) (l x) (l y) (by
  have:=d x
  lia)
 have c:PyData.eqv (.tuple (x.map PyData.int)) (.tuple (y.map PyData.int))=decide (x=y):=by
  simp only[PyData.eqv]
  exact qO x y
 rw[c] at e
 exact e E Q h
theorem zx {a b:Addr} {x y:List Int} {Q:Bool->Shared->Prop} (hu:A.units+30 < cLine) (m:IsPr s.heap a x) (l:IsPr s.heap b y) (g:x=y->a=b) (h:Q (HT.lexLt x y) s):wpAny (model prog w) A (keyLt' (aW false) (.ref a) (.ref b)) Q E s:=by
 obtain ⟨o,n,q,c1,v1,t1,e1,u,d1,k,j⟩:=m
 obtain ⟨v,r,k2,c2,v2,t,f,p,d,c,i⟩:=l
 refine PySem.W.kat_lt e1 d1 f d ?_
 rw[k,c]
 refine PySem.W.kat_cons (Gg hu j i (PySem.W.kat_go (λe=>?_) λe=>?_))
 .have e:=of_decide_eq_true e
  have:=g e
  subst e this
  rw[e1] at f
  cases f
  rw[d1] at d
  cases d
  rw[k] at c
  cases c
  refine PySem.W.kat_yes (PySem.W.kat_cons ((intKind prog w).eqBool (a:=v1) (b:=v1) (by simp[intKind,Value.isInt]) (by simp[intKind,Value.isInt]) ?_))
  rw[G7 rfl]
  refine PySem.W.kat_yes (PySem.W.kat_nil ?_)
  rw[qG] at h
  simpa using h
 .refine PySem.W.kat_no (PySem.W.kat_one _ _ ?_)
  exact Fy (by lia) j i h
structure PRs (h:Heap) (bs:List Addr) (ns:List (List Int)):Prop where
 len:ns.length=bs.length
 at':∀ (i:Nat) (b:Addr) (n:List Int),bs[i]?=some b->ns[i]?=some n->IsPr h b n
 nd:ns.Nodup
theorem IsPr.keep {h h':Heap} {b:Addr} {n:List Int} (x:IsPr h b n) (k:∀ c o,(∃ (its:Array Value) (m:Nat),o.cls=.type "tuple"/\o.data=.seq its m)->h.get? c=some o->h'.get? c=some o):IsPr h' b n:=by
 obtain ⟨o,its,m,c,v,t,e,q,d,l,a,⟨f,e1,c1,g,d1⟩,i⟩:=x
 exact #[o,its,m,c,v,t,k _ _ #[_,_,q,d] e,q,d,l,a,#[f,k _ _ #[_,_,c1,d1] e1,c1,g,d1],i]
theorem zj {α:Type} {l:List α} (h:l.Nodup) {i j:Nat} {x:α} (hi:l[i]?=some x) (b:l[j]?=some x):i=j:=by
 obtain ⟨h1,e1⟩:=GU.mp hi
 obtain ⟨h2,a⟩:=GU.mp b
 exact (List.getElem_inj h).mp (e1.trans a.symm)
theorem PRs.d (r:PRs s.heap bs ns) {i:Nat} {n:List Int} (e:ns[i]?=some n):IsPr s.heap (bs.getD i 0) n:=by
 have hi:i < bs.length:=by rw[<- r.len];exact (GU.mp e).1
 have a:bs[i]?=some bs[i]:=GO hi
 rw[List.getD,a]
 exact r.at' i _ n a e
theorem A1 (hu:A.units+30 < cLine) (r:PRs s.heap bs ns) (x y:Keyed):Sim prog w A E s (j4 bs) (iM ns) (lt' (j4 bs x) (j4 bs y)) (lt' x y) :=
 ux (λ_ _=>rfl) (λk b i j n m e1 a c Q q=>by
  rw[b.2 λz=>by cases congrArg Prod.fst z]
  exact zx hu (r.d e1) (r.d a) (λz=>by subst z;rw[zj r.nd e1 a]) q) x y
theorem jI {Q:List (Option Value)->Shared->Prop}:∀ (bs:List Addr) (ns:List (List Int)),ns.length=bs.length->(∀ (i:Nat) (b:Addr) (n:List Int),bs[i]?=some b->ns[i]?=some n->IsPr s.heap b n)->(∀ cs:List Addr,cs.length=bs.length->(∀ c∈cs,∃ n,IsNts s.heap c n)->Q (cs.map λc=>some (.ref c)) s) ->
  wpAny (model prog w) A ((bs.map Value.ref).mapM firstOfTuple') Q E s
 | [],_,_,_,q=>by
  simp only[List.map_nil,List.mapM_nil]
  exact GD (q [] rfl λ_ h=>nomatch h)
 | b::bs,[],hl,_,_=>by cases hl
 | b::bs,n::ns,hl,r,q=>by
  rw[G6,List.mapM_cons]
  obtain ⟨o,its,m,c,v,t,e,F,d,l,D⟩:=r 0 b n rfl rfl
  refine GC ?_
  rw[mz]
  refine GC (wpAny_typeOf (T:="tuple") #[o,e,F] ?_)
  rw[if_neg (by decide)]
  refine GC (listItems_at e d ?_)
  have h0:its[0]?=some (.ref c):=by rw[<- Array.getElem?_toList,l];rfl
  rw[h0]
  refine GD (GC (jI bs ns (by simpa using hl) (λi b n e1 f=>r (i+1) b n (by simpa using e1) (by simpa using f)) λcs g a=>GD ?_))
  exact q (c::cs) (by simp[g]) λd hd=>by
   rcases GN.mp hd with rfl | hd
   .exact #[n,D]
   .exact a d hd
theorem lz {Q:List Value->Shared->Prop}:∀ (cs:List Addr),(∀ c∈cs,∃ n,IsNts s.heap c n)->Q (cs.map λ_=>.type "tuple") s->wpAny (model prog w) A ((cs.map Value.ref).mapM typeOf) Q E s
 | [],_,q=>by
  simp only[List.map_nil,List.mapM_nil]
  exact GD q
 | c::cs,r,q=>by
  rw[G6,List.mapM_cons]
  obtain ⟨n,it,⟨o,e,cl,k,d⟩,j⟩:=r c GG
  exact GC (wpAny_typeOf (T:="tuple") #[o,e,cl] (GC (lz cs (λd hd=>r d (GH _ hd)) (GD q))))
theorem tw {Q:SortKind->Shared->Prop} (h2:bs≠[]) (r:PRs s.heap bs ns) (h:∀ k,iU (j4 bs) k->Q k s):wpAny (model prog w) A (keyKind' (bs.map Value.ref).toArray) Q E s:=by
 rw[keyKind'_eq,List.mapM_toArray]
 refine GC ?_
 rw[map_eq_pure_bind]
 refine GC (jI bs ns r.len r.at' λcs d b=>GD ?_)
 have e:(cs.map λc=>some (Value.ref c)).toArray.all (·.isSome)=true:=by simp
 rw[if_pos e]
 refine GC (wpAny_rule ?_)
 have hf:(cs.map λc=>some (Value.ref c)).toArray.filterMap id=(cs.map Value.ref).toArray:=by simp
 rw[hf,oneTypeOnly'_eq,List.mapM_toArray]
 refine GC (GC ?_)
 rw[map_eq_pure_bind]
 refine GC (lz cs b (GD ?_))
 cases cs with
 | nil=>exact absurd (Hv.mp d.symm) h2
 | cons c cs =>
  have a:((List.map (λ_:Addr=>Value.type "tuple") (c::cs)).toArray.all λx=>x == Value.type "tuple")=true:=by
   simp only[List.all_toArray,List.all_map,List.all_eq_true]
   intro _ _
   rfl
  have h0:(List.map (λ_:Addr=>Value.type "tuple") (c::cs)).toArray[0]?=some (Value.type "tuple"):=by simp
  rw[h0]
  simp only[a,if_true]
  exact GD (GD (h _ #[λz=>(by cases congrArg Prod.fst z),λ_=>rfl]))
theorem sA {a:Addr} {is:List Nat} {n:Nat} {P:Fin->Shared->Prop} (hu:A.units+30 < cLine) (j:s.heap.get? a=some (seqObj "list" (bs.map Value.ref).toArray n)) (r:PRs s.heap bs ns) (d:bh ns=some is) (hsz:bs.length<=sizeLine) (f:is.length<=sizeLine)
  (h:P (.done (.ret .none)) { s with heap:=sortedHeap s.heap a (bs.map Value.ref) (is.map λi=>Value.ref (bs.getD i 0)).toArray }) :
  wpAny (model prog w) A (Builtin.«list.sort» #[[.ref a],[]]) P E s:=by
 have keep:∀ h':Heap,(∀ b o,b≠a->s.heap.get? b=some o->h'.get? b=some o)->PRs h' bs ns:=λh' k=>⟨r.len,λi b n e1 p=>(r.at' i b n e1 p).keep λc o ⟨_,_,q,_⟩ e=>k c o (λz=>by
  subst z
  rw[j] at e
  cases e
  have q:Value.type "list"=Value.type "tuple":=q
  injection q with q
  exact absurd q (by decide)) e,r.nd⟩
 refine pQ (ok:=iU (j4 bs)) j hsz f (λh2=>?_) (λg h' k Q q=>tw (s:={ s with heap:=h' }) g (keep h' k) q) (λh' k κ hκ=>lJ (U:=j4 bs) (s:={ s with heap:=h' }) (λ_ _=>rfl) r.len (A1 hu (keep h' k)) hκ d λm a1 a2=>#[a1,a2]) h
 have l:=r.len
 match bs,ns,l,h2 with
 | [],[],_,_=>rw[lD] at d;cases d;rfl
 | [b],[n],_,_=>rw[lC] at d;cases d;rfl
 | _::_::_,_,_,h2=>simp at h2;lia
end
def cY (f0 f1:Value) (d:Addr) (i n ep:Nat) (ok ov:Value):Obj:={ cls:=.type "dict_itemiterator",dict:=none,data:=.fields (List.toArray [f0,f1,.ref d,.int i 0,.int n 0,.int ep 0,ok,ov]),slots:=(List.toArray []) }
def ItSt (h:Heap) (it S d:Addr) (i n ep:Nat):Prop:=∃ f0 f1 ok ov,h.get? it=some (cY f0 f1 d i n ep ok ov)/\(f0=.none\/∃ a o b,f0=.int (a:Nat) 0/\f1=.bool b/\h.get? a=some o/\a≠it/\a≠S)
section
variable {prog:Program} {w:World} {A:Around} {E:Value->Shared->Prop} {s:Shared}
theorem oG {it S d:Addr} {i ep:Nat} {es:Array DictEntry} {Q:Option Value->Shared->Prop} (hit:ItSt s.heap it S d i es.size ep) (G:S < s.heap.objs.size)
  (hm:RawAt s.heap d es ep) (L:i < es.size)
  (r:∀ h',ItSt h' it S d (i+1) es.size ep->h'.get? s.heap.objs.size=some (seqObj "tuple" (List.toArray [es[i].key,es[i].val]) 0)->h'.objs.size=s.heap.objs.size+1->(∀ b o,b≠it->s.heap.get? b=some o->h'.get? b=some o)->Q (some (.ref s.heap.objs.size)) { s with heap:=h' }) :
  wpAny (model prog w) A (pyNext (.ref it)) Q E s:=by
 obtain ⟨f0,f1,ok,ov,h1,hf⟩:=hit
 have ty:s.TypeIs (.ref it) "dict_itemiterator":=#[_,h1,rfl]
 obtain ⟨⟨c2,N,M,s2⟩,h2,_,f⟩:=hm
 obtain ⟨k,g,q,tk,os⟩:=s
 simp only at f
 subst f
 have hi:(if (i:Int) < 0 then none else es[(i:Int).toNat]?)=some es[i]:=by simp[L]
 unfold pyNext
 refine GC (wpAny_attempt (wpAny_callSpecial?_slot ty F.slot_dict_itemiterator_next
  (wpAny_call_entry F.slot_dict_itemiterator_next ty F.entry_dict_itemiterator_next ?_ (F.args_dict_itemiterator_next_1 _))))
 unfold cY at h1
 have own:Builtin.Dict_items.ownsTuple "dict_itemiterator"=true:=by decide
 have li:it < k.objs.size:=GP h1
 refine GC (GD (GC (GC (GC (wpAny_typeNameOfWhole_itemiter ty (GD ?_))))))
 rw[own,if_pos rfl]
 refine GC (wpAny_fieldsOf h1 rfl ?_)
 refine wpAny_ite_split (λz=>absurd z G3) λ_=>?_
 refine GC (GD (GC (wpAny_dictEntries h2 rfl ?_)))
 refine wpAny_ite_split (λz=>absurd z (by simp)) λ_=>?_
 refine GC (GD (GC (wpAny_dictEpoch h2 rfl ?_)))
 refine wpAny_ite_split (λz=>absurd z (by simp)) λ_=>GD ?_
 dsimp only
 rw[hi]
 dsimp only
 refine GC (GC (wpAny_typeNameOfWhole_itemiter ty (GD (GC (wpAny_isOneOf_itemiter ty ?_)))))
 refine GC (wpAny_setField_rec h1 (by simp[own]) λh3 n k3=>?_)
 have n:h3.get? it=some (cY f0 f1 d (i+1) es.size ep ok ov):=n
 have k3:Heap.SameBut it k h3:=k3
 have l:Shared.TypeIs #[h3,g,q,tk,os] (.ref it) "dict_itemiterator":=#[_,n,rfl]
 refine GC (GF ?_)
 refine GC (wpAny_isOneOf_itemiter l (wpAny_ite_split (λz=>absurd z (by decide)) λ_=>?_))
 refine GC (wpAny_isOneOf_itemiter l (wpAny_ite_split (λz=>absurd z (by decide)) λ_=>?_))
 unfold Builtin.Dict_items.pairFromOwner
 refine GC (wpAny_newTuple ?_)
 have kp:∀ b o,b≠it->k.get? b=some o->(h3.push (seqObj "tuple" (List.toArray [es[i].key,es[i].val]) 0)).get? b=some o:=λb o c e=>GI _ (k3.extBut b o c e)
 have f:(h3.push (seqObj "tuple" (List.toArray [es[i].key,es[i].val]) 0)).get? it=some (cY f0 f1 d (i+1) es.size ep ok ov):=GI _ n
 have v:(h3.push (seqObj "tuple" (List.toArray [es[i].key,es[i].val]) 0)).get? k.objs.size=some (seqObj "tuple" (List.toArray [es[i].key,es[i].val]) 0):=by rw[<- k3.1];exact GR _ rfl
 have u:(h3.push (seqObj "tuple" (List.toArray [es[i].key,es[i].val]) 0)).objs.size=k.objs.size+1:=by rw[Hm,k3.1]
 show wpAny _ _ (Builtin.Dict_items.ownedTupleIsFree (.ref it) >>= _) _ _ #[h3.push (seqObj "tuple" (List.toArray [es[i].key,es[i].val]) 0),g,q,tk,os]
 rw[k3.1]
 generalize h3.push (seqObj "tuple" (List.toArray [es[i].key,es[i].val]) 0)=h4 at *
 unfold Builtin.Dict_items.ownedTupleIsFree cY at *
 rcases hf with rfl | ⟨a,o,b,rfl,rfl,I,p,D⟩
 .refine GC (GC (wpAny_field f rfl (x:=.none) rfl (GD ?_)))
  refine wpAny_ite_split (λ_=>?_) λz=>absurd rfl z
  refine GC (wpAny_field f rfl (x:=ok) rfl (GC (wpAny_field f rfl (x:=ov) rfl ?_)))
  refine GC (wpAny_setField_rec f (by simp) λj m h=>GC (wpAny_setField_rec m (by simp) λO K t=>GC (wpAny_setField_rec K (by simp) λh7 H y=>GC (wpAny_setField_rec H (by simp) λh8 J C=>?_))))
  have ex:∀ b o,b≠it->h4.get? b=some o->h8.get? b=some o:=λb o c e=>C.extBut b o c (y.extBut b o c (t.extBut b o c (h.extBut b o c e)))
  have B:=ex _ _ (Nat.ne_of_gt li) v
  exact GC (wpAny_letGo (GD (GD #[_,rfl,GD (r h8 #[_,_,_,_,J,.inr #[k.objs.size,seqObj "tuple" (List.toArray [es[i].key,es[i].val]) 0,false,rfl,rfl,B,Nat.ne_of_gt li,Nat.ne_of_gt G]] B (by rw[C.1,y.1,t.1,h.1,u]) λb o c e=>ex b o c (kp b o c e))])))
 .have a4:=kp a o p I
  refine GC (GC (wpAny_field f rfl (x:=.int (a:Nat) 0) rfl ?_))
  show wpAny _ _ (loadIfAlive ((a:Int).toNat) >>= _) _ _ _
  rw[Int.toNat_natCast]
  refine GC (PySem.W.kdx_alive a4 ?_)
  refine wpAny_ite_split (λz=>absurd z (by simp)) λ_=>?_
  refine GC (wpAny_field f rfl (x:=.bool b) rfl ?_)
  have fin:∀ j:Heap,j.get? it=some (cY (.int (a:Nat) 0) (.bool true) d (i+1) es.size ep ok ov)->Heap.SameBut it h4 j->Q (some (.ref k.objs.size)) #[j,g,q,tk,os]:=λj m h =>
   r j #[_,_,_,_,m,.inr #[a,o,true,rfl,rfl,h.extBut _ _ p a4,p,D]] (h.extBut _ _ (Nat.ne_of_gt li) v) (by rw[h.1,u]) λb o c e=>h.extBut b o c (kp b o c e)
  cases b with
  | true =>
   refine wpAny_ite_split (λz=>absurd z G3) λ_=>GD ?_
   exact wpAny_ite_split (λz=>absurd z G3) λ_=>GD (GD #[_,rfl,GD (fin h4 f (Heap.SameBut.refl _ _))])
  | false =>
   refine wpAny_ite_split (λ_=>?_) λz=>absurd rfl z
   refine GC (wpAny_setField_rec f (by simp) λj m h=>GD ?_)
   exact wpAny_ite_split (λz=>absurd z G3) λ_=>GD (GD #[_,rfl,GD (fin j m h)])
end
section
variable {prog:Program} {w:World} {A:Around} {E:Value->Shared->Prop} {s:Shared}
theorem qa {it S d:Addr} {i ep:Nat} {es:Array DictEntry} {Q:Option Value->Shared->Prop} (f:A.handled=none) (hit:ItSt s.heap it S d i es.size ep) (hm:RawAt s.heap d es ep) (h:es.size<=i)
  (e:∀ h',Heap.ExtBut it s.heap h'->Q none { s with heap:=h' }):wpAny (model prog w) A (pyNext (.ref it)) Q E s:=by
 obtain ⟨f0,f1,ok,ov,h1,hf⟩:=hit
 have ty:s.TypeIs (.ref it) "dict_itemiterator":=#[_,h1,rfl]
 obtain ⟨⟨c2,m,k,s2⟩,h2,_,c⟩:=hm
 obtain ⟨j,g,l,tk,os⟩:=s
 simp only at c
 subst c
 have hi:(if (i:Int) < 0 then none else es[(i:Int).toNat]?)=none:=by simp[h]
 have a:A.in1.handled=none:=f
 unfold pyNext
 refine GC (wpAny_attempt (wpAny_callSpecial?_slot ty F.slot_dict_itemiterator_next
  (wpAny_call_entry F.slot_dict_itemiterator_next ty F.entry_dict_itemiterator_next ?_ (F.args_dict_itemiterator_next_1 _))))
 unfold cY at h1
 have own:Builtin.Dict_items.ownsTuple "dict_itemiterator"=true:=by decide
 refine GC (GD (GC (GC (GC (wpAny_typeNameOfWhole_itemiter ty (GD ?_))))))
 rw[own,if_pos rfl]
 refine GC (wpAny_fieldsOf h1 rfl ?_)
 refine wpAny_ite_split (λz=>absurd z G3) λ_=>?_
 refine GC (GD (GC (wpAny_dictEntries h2 rfl ?_)))
 refine wpAny_ite_split (λz=>absurd z (by simp)) λ_=>?_
 refine GC (GD (GC (wpAny_dictEpoch h2 rfl ?_)))
 refine wpAny_ite_split (λz=>absurd z (by simp)) λ_=>GD ?_
 dsimp only
 rw[hi]
 dsimp only
 refine GC (GC (wpAny_typeNameOfWhole_itemiter ty (GD ?_)))
 refine GC (wpAny_setField h1 rfl (by simp[own]) ?_)
 wp_walk
 refine wpAny_raiseNew_none a ?_
 refine GC (wpAny_isInstance (v:=.ref _) (T:="StopIteration") (b:=true) ?_ isSubtype_stop ?_)
 .exact #[_,GR _ rfl,rfl]
 .exact GD (e _ (((Heap.SameBut.update ..).extBut.push _).push _))
theorem mN {v d:Addr} {es:Array DictEntry} {ep:Nat} {Q:Value->Shared->Prop} (b:s.heap.IsItemsView v d) (hm:RawAt s.heap d es ep)
  (e:Q (.ref s.heap.objs.size) { s with heap:=s.heap.push (cY .none (.bool false) d 0 es.size ep .none .none) }):wpAny (model prog w) A (pyIter (.ref v)) Q E s:=by
 have ty:=b.typeIs
 obtain ⟨⟨c1,d1,x1,s1⟩,h1,e1,a⟩:=b
 obtain ⟨⟨c2,j,h,s2⟩,h2,_,c⟩:=hm
 obtain ⟨f,g,i,tk,os⟩:=s
 simp only at e1 a c
 subst e1 a c
 refine wpAny_pyIter_slot ty F.slot_dict_items_iter (wpAny_call_entry F.slot_dict_items_iter ty F.entry_dict_items_iter ?_ (F.args_dict_items_iter_1 _))
 refine GC (GD (GC (GC (wpAny_field h1 rfl (x:=.ref d) rfl (GD (GC (GC (wpAny_dictEntries h2 rfl (GC (wpAny_dictEpoch h2 rfl ?_))))))))))
 have own:Builtin.Dict_items.ownsTuple "dict_itemiterator"=true:=by decide
 simp only[own,if_true]
 refine wpAny_newObj_type (GD #[_,rfl,"dict_itemiterator",_,#[_,GR _ rfl,rfl],F.slot_dict_itemiterator_next.lookup,?_]) (by simp only[sizeOk,Builtin.Dict_items.ownedTupleFields,G5,Hc,Hd,List.length_nil,sizeLine_eq];lia)
 exact e
theorem lO (d:Addr) (hd:(d == sysModules)=false) :
  MeetsIn prog w (Builtin.«dict.items» #[[.ref d],[]]) (λ_ R s=>(∃ es ep,RawAt s.heap d es ep) /\
   R (.ok (.ret (.ref s.heap.objs.size))) { s with heap:=s.heap.push { cls:=.type "dict_items",data:=.fields (List.toArray [.ref d]) } }) :=
 .of_wp λA R s #[#[es,ep,hm],h]=>by
  have ty:=hm.typeIs
  obtain ⟨⟨c2,j,f,s2⟩,h2,c,b⟩:=hm
  obtain ⟨e,g,i,tk,os⟩:=s
  obtain ⟨a,_⟩:=c
  simp only at b a
  subst b a
  wp_walk
  exact #[_,rfl,h]
end
def PairsAt (h:Heap) (es:Array DictEntry) (bs:List Addr):Prop:=∀ (j:Nat) (b:Addr),bs[j]?=some b->∃ a:j < es.size,h.get? b=some (seqObj "tuple" (List.toArray [es[j].key,es[j].val]) 0)
theorem PairsAt.keep {h h':Heap} {es:Array DictEntry} {bs:List Addr} (p:PairsAt h es bs) (k:∀ b∈bs,∀ o,h.get? b=some o->h'.get? b=some o):PairsAt h' es bs:=λj b e=>let #[a,q]:=p j b e;#[a,k b (GV e) _ q]
section
variable {prog:Program} {w:World} {A:Around} {R:Result->Shared->Prop}
theorem ItSt.keep {h h':Heap} {it S d:Addr} {i n ep:Nat} (x:ItSt h it S d i n ep) (k:∀ b o,b≠S->h.get? b=some o->h'.get? b=some o) (j:it≠S):ItSt h' it S d i n ep:=by
 obtain ⟨f0,f1,ok,ov,h1,hf⟩:=x
 refine #[f0,f1,ok,ov,k _ _ j h1,hf.imp id λ#[a,o,b,e1,f,e,g,c]=>#[a,o,b,e1,f,k _ _ c e,g,c]]
theorem wV (K:A.handled=none) {I d S:Addr} (C:d≠I) (g:S≠I) (x:S≠d) {es:Array DictEntry} {ep:Nat} (hz:es.size<=sizeLine) (res:Value) (lo:Nat) :
  ∀ (k i:Nat) (s:Shared) (c:Nat) (bs:List Addr),es.size - i=k->i<=es.size->ItSt s.heap I S d i es.size ep->RawAt s.heap d es ep->bs.length=i->PairsAt s.heap es bs->(∀ b∈bs,lo<=b/\b≠I/\b≠S)->lo<=s.heap.objs.size ->
  s.heap.get? S=some (seqObj "list" (bs.map Value.ref).toArray c) ->
  (∀ h' N tk D,D.length=es.size->PairsAt h' es D->(∀ b∈D,lo<=b)->h'.get? S=some (seqObj "list" (D.map Value.ref).toArray N)->(∀ b o,b≠I->b≠S->s.heap.get? b=some o->h'.get? b=some o)->R (.ok (.ret res)) { s with heap:=h',toks:=tk }) ->
  codeAny (model prog w) A (.builtin "list.extend.loop" #[[.ref S,.ref I,res],[]]) R s:=by
 intro k
 induction k with
 | zero =>
  intro i s c bs L hi hit hm a B l h m fin
  obtain rfl:i=es.size:=by lia
  refine codeAny_builtin F.entry_extend_loop ?_
  rw[Around.under_plainId F.plain_extend_loop _]
  refine GC (qa (show A.in1.handled=none from K) hit hm (GZ _) λh' u=>?_)
  exact GD (fin h' c s.toks bs a (B.keep λb q o e=>u b o (l b q).2.1 e) (λb q=>(l b q).1) (u S _ g m) λb o a _ e=>u b o a e)
 | succ k ih =>
  intro i s c bs L hi hit hm a B l h m fin
  have f:i < es.size:=by lia
  refine codeAny_builtin F.entry_extend_loop ?_
  rw[Around.under_plainId F.plain_extend_loop _]
  refine GC (oG hit (GP m) hm f λh' t Q v kp=>?_)
  have T:S < s.heap.objs.size:=GP m
  have p:=kp S _ g m
  have sz:(bs.map Value.ref).toArray.size=i:=by simp[a]
  refine GC (wpAny_updateSeq p rfl (GD #[plainId_quiet F.plain_extend_loop _,?_]) (by rw[sz];lia) (by rw[Array.size_push,sz];lia))
  obtain ⟨c2,y⟩:∃ c2,(h'.update S (Obj.mapSeq (·.push (Value.ref s.heap.objs.size)))).get? S=some (seqObj "list" ((bs.map Value.ref).toArray.push (Value.ref s.heap.objs.size)) c2):=#[_,get?_update_seq p (·.push (Value.ref s.heap.objs.size))]
  have up:∀ b o,b≠S->h'.get? b=some o->(h'.update S (Obj.mapSeq (·.push (Value.ref s.heap.objs.size)))).get? b=some o:=λb o n e=>(Hl _ _ (Ne.symm n)).trans e
  have O:s.heap.objs.size≠I:=by obtain ⟨_,_,_,_,e,_⟩:=hit;exact Nat.ne_of_gt (GP e)
  have G:s.heap.objs.size≠S:=Nat.ne_of_gt T
  refine ih (i+1) _ c2 (bs++[s.heap.objs.size]) (by lia) f (t.keep up (Ne.symm g)) ?_ (by simp[a]) ?_ ?_ ?_ ?_ λh3 H tk D g1 g2 g3 P k3=>?_
  .obtain ⟨o,e,r⟩:=hm
   exact #[o,up _ _ (Ne.symm x) (kp d _ C e),r]
  .intro j b e
   by_cases q:j < bs.length
   .rw[Hk q] at e
    obtain ⟨J,z⟩:=B j b e
    have:=l b (GV e)
    exact #[J,up _ _ this.2.2 (kp _ _ this.2.1 z)]
   .rw[List.getElem?_append_right (by lia)] at e
    have M:j - bs.length=0:=by
     have:=(GU.mp e).1
     simp at this;lia
    rw[M] at e
    cases e
    obtain rfl:j=i:=by lia
    exact #[f,up _ _ G Q]
  .intro b q
   rcases GQ.mp q with q | q
   .exact l b q
   .rw[Hh.mp q];exact #[h,O,G]
  .show lo<=(h'.update S _).objs.size
   rw[Heap.size_update,v];lia
  .have:((bs++[s.heap.objs.size]).map Value.ref).toArray=(bs.map Value.ref).toArray.push (Value.ref s.heap.objs.size):=by simp
   rw[this]
   exact y
  .exact fin h3 H tk D g1 g2 g3 P λb o a E e=>k3 b o a E (up b o E (kp b o a e))
end
section
variable {prog:Program} {w:World} {A:Around} {E:Value->Shared->Prop} {s:Shared}
theorem wU {R:Result->Shared->Prop} {p d S:Addr} {es:Array DictEntry} {ep:Nat} {res:Value} (J:A.handled=none) (G:s.heap.IsItemsView p d) (hm:RawAt s.heap d es ep) (hz:es.size<=sizeLine) (z:p≠S) (l:d≠S) {c:Nat} (C:s.heap.get? S=some (seqObj "list" (List.toArray []) c))
  (h:∀ h' D tk bs,bs.length=es.size->PairsAt h' es bs->(∀ b∈bs,s.heap.objs.size<=b)->h'.get? S=some (seqObj "list" (bs.map Value.ref).toArray D)->(∀ b o,b≠S->s.heap.get? b=some o->h'.get? b=some o)->R (.ok (.ret res)) { s with heap:=h',toks:=tk }) :
  wpAny (model prog w) A.in1 (Builtin.List.listExtendWith (.ref S) (.ref p) res) (λfin s'=>match fin with | .done f=>R (.ok f) s' | .again D=>D.quiet=true/\codeAny (model prog w) A D R s') (λe s'=>R (.error e) s') s:=by
 unfold Builtin.List.listExtendWith
 have E:=G.typeIs
 refine GC (wpAny_typeOf E ?_)
 have h1:Builtin.List.listSameRef (.ref S) (.ref p)=false:=beq_false_of_ne (Ne.symm z)
 have h2:(Value.type "dict_items" == Value.type "list")=false:=by decide
 have h3:(Value.type "dict_items" == Value.type "tuple")=false:=by decide
 simp only[h1,h2,h3,Bool.or_false,Hi,if_false]
 refine GC (mN G hm ?_)
 have H:(s.heap.push (cY .none (.bool false) d 0 es.size ep .none .none)).get? s.heap.objs.size=some (cY .none (.bool false) d 0 es.size ep .none .none):=GR _ rfl
 have n:∀ b o,s.heap.get? b=some o->(s.heap.push (cY .none (.bool false) d 0 es.size ep .none .none)).get? b=some o:=λb o e=>GI _ e
 have L:(s.heap.push (cY .none (.bool false) d 0 es.size ep .none .none)).objs.size=s.heap.objs.size+1:=Hm ..
 generalize s.heap.push (cY .none (.bool false) d 0 es.size ep .none .none)=H1 at *
 have ne:∀ b o,s.heap.get? b=some o->b≠s.heap.objs.size:=λb o e=>G4 (GP e)
 have v:Shared.TypeIs { s with heap:=H1 } (.ref p) "dict_items":=let #[o,e,c]:=E;#[o,n _ _ e,c]
 refine GC (GF (PySem.W.kdx_hint v ?_))
 rw[if_pos (by kernel_rfl)]
 refine GC (wpAny_rule ?_)
 have k:=ne S _ C
 have y:d≠s.heap.objs.size:=by obtain ⟨o,e,_⟩:=hm;exact ne d o e
 have i:=n S _ C
 have x:RawAt H1 d es ep:=by obtain ⟨o,e,r⟩:=hm;exact #[o,n _ _ e,r]
 unfold Builtin.List.listTouch
 refine GC (GC (listUpdate_at (s:={ s with heap:=H1 }) i rfl ?_))
 obtain ⟨B,m⟩:∃ B,(H1.update S (Obj.mapSeq (·.push Value.none))).get? S=some (seqObj "list" ((List.toArray []).push Value.none) B):=#[_,get?_update_seq i (·.push Value.none)]
 refine listUpdate_at (s:={ s with heap:=H1.update S (Obj.mapSeq (·.push Value.none)) }) m rfl ?_
 obtain ⟨u,t⟩:∃ u,((H1.update S (Obj.mapSeq (·.push Value.none))).update S (Obj.mapSeq (·.pop))).get? S=some (seqObj "list" ((List.toArray []).push Value.none).pop u):=#[_,get?_update_seq m (·.pop)]
 have a:∀ b o,b≠S->H1.get? b=some o->((H1.update S (Obj.mapSeq (·.push Value.none))).update S (Obj.mapSeq (·.pop))).get? b=some o:=λb o g e=>(Hl _ _ (Ne.symm g)).trans ((Hl _ _ (Ne.symm g)).trans e)
 refine GD #[plainId_quiet F.plain_extend_loop _,wV (I:=s.heap.objs.size) (d:=d) (S:=S) (es:=es) (ep:=ep) J y k (Ne.symm l) hz res s.heap.objs.size es.size 0 _ u [] (by lia) (Nat.zero_le _) #[_,_,_,_,a _ _ (Ne.symm k) H,.inl rfl] ?_ rfl (λj b e=>by simp at e) (λb q=>by cases q) ?_ t λh' D tk bs g1 g2 g3 K M=>?_]
 .obtain ⟨o,e,r⟩:=x
  exact #[o,a _ _ l e,r]
 .show s.heap.objs.size<=((H1.update S _).update S _).objs.size
  rw[Heap.size_update,Heap.size_update,L];lia
 .exact h h' D tk bs g1 g2 g3 K λb o g e=>M b o (ne b o e) g (a b o g (n b o e))
theorem rA {M:Model} {c:Code} {R:Result->Shared->Prop} (h:∀ D:Result->Shared->Prop,(∀ r s',R r s'->D r s')->codeAny M A c D s):codeAny M A c R s:=h R λ_ _ x=>x
theorem mR {p d:Addr} {es:Array DictEntry} {ep:Nat} {Q:List Value->Shared->Prop} (g:A.handled=none) (f:s.heap.IsItemsView p d) (hm:RawAt s.heap d es ep) (hz:es.size<=sizeLine)
  (h:∀ h' tk bs,s.heap.objs.size<=h'.objs.size->(∀ b o,s.heap.get? b=some o->h'.get? b=some o)->bs.length=es.size->PairsAt h' es bs->(∀ b∈bs,s.heap.objs.size<=b)->Q (bs.map Value.ref) { s with heap:=h',toks:=tk }):wpAny (model prog w) A (collect (.ref p)) Q E s:=by
 have ne:∀ b o,s.heap.get? b=some o->b≠s.heap.objs.size:=λb o e=>G4 (GP e)
 have k:p≠s.heap.objs.size:=by obtain ⟨o,e,_⟩:=f;exact ne p o e
 have hd:d≠s.heap.objs.size:=by obtain ⟨o,e,_⟩:=hm;exact ne d o e
 unfold collect
 refine GC (wpAny_runValue (rA λR j=>codeAny_builtin F.entry_proto_collect ?_))
 rw[Around.under_plainId F.plain_proto_collect _]
 show wpAny _ A.in1 (newList [] >>= λl=>again (.builtin "list.__iadd__" #[[l,.ref p],[]])) _ _ s
 refine GC (wpAny_newObj_type ?_)
 refine GD #[plainId_quiet F.plain_list_iadd _,codeAny_builtin F.entry_list_iadd ?_]
 rw[Around.under_plainId F.plain_list_iadd _]
 have i:(s.heap.push (seqObj "list" (List.toArray []) 0)).get? s.heap.objs.size=some (seqObj "list" (List.toArray []) 0):=GR _ rfl
 have c:∀ b o,s.heap.get? b=some o->(s.heap.push (seqObj "list" (List.toArray []) 0)).get? b=some o:=λb o e=>GI _ e
 have t:(s.heap.push (seqObj "list" (List.toArray []) 0)).objs.size=s.heap.objs.size+1:=Hm ..
 show wpAny _ A.in1 (Builtin.List.listExtendWith (.ref s.heap.objs.size) (.ref p) (.ref s.heap.objs.size)) _ _ { s with heap:=s.heap.push (seqObj "list" (List.toArray []) 0) }
 generalize s.heap.push (seqObj "list" (List.toArray []) 0)=H1 at *
 refine wU (s:={ s with heap:=H1 }) (p:=p) (d:=d) (S:=s.heap.objs.size) (es:=es) (ep:=ep) g ?_ ?_ hz k hd i λh' n tk bs g1 g2 g3 a m=>?_
 .obtain ⟨o,e,r⟩:=f
  exact #[o,c _ _ e,r]
 .obtain ⟨o,e,r⟩:=hm
  exact #[o,c _ _ e,r]
 .refine j _ _ ?_
  show wpAny (model prog w) A (load s.heap.objs.size >>= _) _ _ _
  refine GC (wpAny_load a ?_)
  show wpAny _ _ (pure (bs.map Value.ref).toArray.toList) _ _ _
  refine GD (h h' tk bs (Nat.le_of_lt (GP a)) (λb o e=>m b o (ne b o e) (c b o e)) g1 g2 λb q=>?_)
  have:H1.objs.size<=b:=g3 b q
  lia
theorem og {p d:Addr} {es:Array DictEntry} {ep:Nat} {ns:List (List Int)} {is:List Nat} {Q:Value->Shared->Prop} (hu:A.units+32 < cLine) (B:A.handled=none) (H:s.heap.IsItemsView p d) (hm:RawAt s.heap d es ep) (hz:es.size<=sizeLine)
  (J:ns.length=es.size) (z:∀ (i:Nat) (hi:i < es.size) (n:List Int),ns[i]?=some n->∃ c v t,es[i].key=.ref c/\IsNts s.heap c n/\es[i].val=.int v t) (nd:ns.Nodup) (x:bh ns=some is) (l:is.length<=sizeLine)
  (h:∀ h' tk bs q,s.heap.objs.size<=q->(∀ b o,s.heap.get? b=some o->h'.get? b=some o)->bs.length=es.size->PairsAt h' es bs->(∀ b∈bs,s.heap.objs.size<=b/\b < q)->(∃ e,h'.get? q=some (seqObj "list" (is.map λi=>Value.ref (bs.getD i 0)).toArray e))->Q (.ref q) { s with heap:=h',toks:=tk }) :
  wpAny (model prog w) A (call (.builtin "sorted") [.ref p]) Q E s:=by
 refine Calls.call_function_entry kind_sorted plain_sorted entry_sorted (args_sorted1 _) ?_
 unfold Builtin.«sorted»
 refine GC (m:=checkCount "sorted" 1 1 _) (GD ?_)
 refine GC (mR (A:=A.in1) B H hm hz λh1 tk bs G u g1 g2 g3=>?_)
 have g:bs.length<=sizeLine:=by lia
 refine GC (wpAny_newList ?_ (by rw[GS];exact g))
 have a:(h1.push (seqObj "list" (bs.map Value.ref).toArray 0)).get? h1.objs.size=some (seqObj "list" (bs.map Value.ref).toArray 0):=GR _ rfl
 have k2:∀ b o,h1.get? b=some o->(h1.push (seqObj "list" (bs.map Value.ref).toArray 0)).get? b=some o:=λb o e=>GI _ e
 show wpAny _ _ _ _ _ { s with heap:=h1.push (seqObj "list" (bs.map Value.ref).toArray 0),toks:=tk }
 have pr:PRs (h1.push (seqObj "list" (bs.map Value.ref).toArray 0)) bs ns:=⟨by lia,λi b n e1 C=>by
  obtain ⟨hi,r⟩:=g2 i b e1
  obtain ⟨c,v,t,D,I,F⟩:=z i hi n C
  rw[D,F] at r
  exact ⟨_,_,_,c,v,t,k2 _ _ r,rfl,rfl,rfl,I.at λo e=>k2 _ _ (u _ _ e)⟩,nd⟩
 refine GC (GF (wpAny_call_entry slot_list_sort #[_,a,rfl] entry_list_sort (sA (s:={ s with heap:=h1.push (seqObj "list" (bs.map Value.ref).toArray 0),toks:=tk }) ?_ a pr x g l #[_,rfl,?_]) (args_list_sort _)))
 .show A.units+1+1+30 < cLine
  lia
 have f:∀ b o,h1.get? b=some o->(sortedHeap (h1.push (seqObj "list" (bs.map Value.ref).toArray 0)) h1.objs.size (bs.map Value.ref) (is.map λi=>Value.ref (bs.getD i 0)).toArray).get? b=some o:=λb o e=>by
  have hb1:b < h1.objs.size:=GP e
  unfold sortedHeap
  refine (Hl _ _ (Nat.ne_of_gt hb1)).trans (GI _ (GI _ ?_))
  exact (Hl _ _ (Nat.ne_of_gt hb1)).trans (k2 b o e)
 refine GD #[_,rfl,h _ tk bs h1.objs.size G (λb o e=>f b o (u b o e)) g1 (g2.keep λb _ o e=>f b o e) (λb q=>#[g3 b q,?_]) ?_]
 .obtain ⟨j,y⟩:=List.getElem?_of_mem q
  exact GP (g2 j b y).2
 .unfold sortedHeap
  obtain ⟨e1,k⟩:∃ e1,((h1.push (seqObj "list" (bs.map Value.ref).toArray 0)).update h1.objs.size (Obj.mapSeq λ_=>(List.toArray []))).get? h1.objs.size=some (seqObj "list" (List.toArray []) e1):=#[_,get?_update_seq a (λ_=>(List.toArray []))]
  exact #[_,get?_update_seq (GI _ (GI _ k)) (λ_=>(is.map λi=>Value.ref (bs.getD i 0)).toArray)]
end
section
variable {X:Cx} {pins:List (Addr×Obj)} {Y:St} {H H':Hp} {s:Shared} {h':Heap}
theorem Inv.laidN {t':Nat} (I:Inv X pins Y H s) (k:∀ b u,s.heap.get? b=some u->h'.get? b=some u) (sm:∀ b u,H b=some u->H' b=some u) (fr:∀ b,b < s.heap.objs.size->H b=none->H' b=none) (ow:∀ b x,H' b=some (.own x)->H b=some (.own x)) (new:∀ b u,H' b=some u->H b=none->ObjOk X.prog X.w H' h' b u):Inv X pins Y H' { s with heap:=h',toks:=t' } :=
 I.un #[λb u q _ _ _=>k b u q,λb u q _ _ _=>#[u.slots,k b u q],λb u q n _=>fr b (GP q) n,λb u q _=>#[u,k b u q],λb xs q=>sm b _ q,λb u xs q=>sm b _ q,λb ps q=>#[(List.toArray []),by rw[sm b _ q];simp]] λb u q=>by
  cases e:H b with
  | none=>exact new b u q e
  | some v =>
   rw[sm b v e] at q
   cases q
   exact (I.hok b u e).stay (λc v _ z=>k c v z) (λc z=>sm c _ z) λc xs z=>sm c _ z
def jB (p a:Addr):HO:=.ext λh=>h.IsItemsView p a
theorem zp:MtR X "dict.items" (λx D H Q=>∃ a kvs,x=.ref a/\D=[]/\RdT H a kvs/\∀ p,H p=none->Q (.ref p) (upd H p (jB p a))):=by
 intro pins s Y H x D v us Q I f b h
 obtain ⟨a,kvs,rfl,rfl,d,q⟩:=h
 cases f
 cases b
 obtain ⟨y,es,⟨ep,raw⟩,sz,ent⟩:=o9 I.hok d
 refine call_meetsIn PySem.F.slot_dict_items raw.typeIs PySem.F.entry_dict_items (PySem.F.args_dict_items_1 _) (lO a y) #[#[es,_,raw],?_]
 refine #[.ref s.heap.objs.size,_,I.laid (a:=s.heap.objs.size) (o:=jB s.heap.objs.size a) (t':=s.toks) (λ_ _ q=>GI _ q) (GZ _) ?_,rfl,q _ (I.hok.fresh (GZ _))]
 exact #[#[_,GR _ rfl,rfl,rfl],#[_,GR _ rfl],λh1 h2 #[o,e,c] k=>#[o,k o e,c]]
def yE:List V->Hp->VK->Prop:=λxs H Q=>∃ (p a:Addr) (kvs:List (List Key×V)) (ns:List (List Int)) (d:List Int) (is:List Nat),xs=[.ref p]/\H p=some (jB p a)/\RdT H a kvs/\kvs.map (·.1)=ns.map (λn=>n.map Sum.inl)/\kvs.map (·.2)=d.map V.int /\
 bh ns=some is/\is.length<=sizeLine/\∀ (cs bs:List Addr) (q:Addr) (H':Hp),(∀ (i:Nat) n,ns[i]?=some n->∃ c,cs[i]?=some c/\H c=some (.tup (n.map V.int)))->bs.length=ns.length->(∀ b u,H b=some u->H' b=some u)->H q=none ->
  (∀ (i:Nat) b c v,bs[i]?=some b->cs[i]?=some c->d[i]?=some v->H' b=some (.tup [.ref c,.int v]))->H' q=some (.lst (is.map λi=>V.ref (bs.getD i 0)))->Q (.ref q) H'
theorem tW (hc:X.calm=true) (hu:X.A.units+32 < cLine):CallR X (.builtin "sorted") yE:=by
 intro pins s Y H xs us Q I rx h
 obtain ⟨p,a,kvs,ns,l,is,rfl,hp,S,G,φ,σ,E,q⟩:=h
 obtain ⟨u,rfl,ru⟩:=rx.one
 cases ru
 obtain ⟨y,es,⟨ep,raw⟩,sz,ent⟩:=o9 I.hok S
 have hl:kvs.length=ns.length:=by have:=congrArg List.length G;simpa using this
 have ax:kvs.length=l.length:=by have:=congrArg List.length φ;simpa using this
 obtain ⟨m,J⟩:=S
 obtain ⟨hz,_,ys,r,ρ⟩:=ie I.hok J
 have nd:ns.Nodup:=by
  obtain ⟨_,_,_,_,_,_,_,_,g,_⟩:=ρ
  have:(ns.map λn=>n.map (Sum.inl:Int->Key)).Nodup:=by rw[<- G,KT.keys r];exact g
  exact (List.pairwise_map.mp this).imp λh e=>h (congrArg _ e)
 have key:∀ (i:Nat) (n:List Int),ns[i]?=some n->∃ (hi:i < es.size) (c:Addr),es[i].key=.ref c/\H c=some (.tup (n.map V.int))/\∃ v t,l[i]?=some v/\es[i].val=.int v t:=λi n g=>by
  have hi:i < ns.length:=(GU.mp g).1
  have B:kvs[i]?=some (kvs[i]'(by lia)):=GO _
  obtain ⟨b,b1,b2,P⟩:=ent i (by lia) _ B
  refine #[by lia,b,b1,?_,?_]
  .have e1:(kvs[i]'(by lia)).1=n.map Sum.inl:=by
    have:(kvs.map (·.1))[i]?=(ns.map λn=>n.map Sum.inl)[i]?:=by rw[G]
    rw[GY,GY,B,g] at this
    exact Hu this
   rw[e1,Hs] at b2
   exact b2
  .have F:l[i]?=some (l[i]'(by lia)):=GO _
   have e1:(kvs[i]'(by lia)).2=.int (l[i]'(by lia)):=by
    have:(kvs.map (·.2))[i]?=(l.map V.int)[i]?:=by rw[φ]
    rw[GY,GY,B,F] at this
    exact Hu this
   rw[e1] at P
   obtain ⟨t,ht⟩:=P
   exact #[_,t,F,ht]
 refine og hu (I.ok.hd hc) (I.hok p _ hp).1 raw (by lia) (by lia) (λi hi n g=>?_) nd σ E λh' tk bs f O k g1 g2 g3 #[e,ge]=>?_
 .obtain ⟨_,c,e1,C,v,t,_,w⟩:=key i n g
  obtain ⟨its,r,pp,_⟩:=I.tuple (SqT.of C)
  exact #[c,v,t,e1,#[_,pp,mh r],w]
 obtain ⟨cs,ar,D⟩:∃ cs:List Addr,cs.length=es.size/\∀ (i:Nat) (hi:i < es.size) c,es[i].key=.ref c->cs[i]?=some c:=by
  refine #[es.toList.map λe=>match e.key with | .ref c=>c | _=>0,by simp,λi hi c e=>?_]
  rw[GY,Array.getElem?_toList,Array.getElem?_eq_getElem hi]
  show some (match es[i].key with | .ref c=>c | _=>0)=some c
  rw[e]
 let cell (b:Addr):Option Nat:=bs.findIdx? (· == b)
 let H':Hp:=λb=>if b=f then some (.lst (is.map λi=>V.ref (bs.getD i 0))) else match cell b with
  | some i=>some (.tup [.ref (cs.getD i 0),.int (l.getD i 0)])
  | none=>H b
 have nb:∀ b u,H b=some u->b≠f/\cell b=none:=λb u e=>by
  have lt:b < s.heap.objs.size:=I.hok.lt e
  refine #[G4 (G9 lt O),List.findIdx?_eq_none_iff.mpr λx hx=>?_]
  have:=(g3 x hx).1
  exact beq_eq_false_iff_ne.mpr λz=>absurd (z ▸ this) (Nat.not_le.mpr lt)
 have sm:∀ b u,H b=some u->H' b=some u:=λb u e=>by
  obtain ⟨n1,W⟩:=nb b u e
  show (if b=f then _ else match cell b with | some i=>_ | none=>H b)=some u
  rw[if_neg n1,W];exact e
 have fY:∀ (i:Nat) (b:Addr),bs[i]?=some b->∃ c v t,cs[i]?=some c/\l[i]?=some v/\h'.get? b=some (seqObj "tuple" (List.toArray [.ref c,.int v t]) 0):=λi b e=>by
  obtain ⟨hi,C⟩:=g2 i b e
  have K:i < ns.length:=by lia
  obtain ⟨ab,c,w,N,v,t,e5,e6⟩:=key i ns[i] (GO K)
  rw[w,e6] at C
  exact #[c,v,t,D i hi c w,e5,C]
 have at':∀ b i,cell b=some i->bs[i]?=some b:=λb i e=>by
  obtain ⟨h1,h2,_⟩:=List.findIdx?_eq_some_iff_getElem.mp e
  rw[GO h1]
  exact congrArg some (beq_iff_eq.mp h2)
 have bq:∀ b∈bs,b≠f:=λb o=>G4 (g3 b o).2
 have uniq:∀ (i:Nat) b c v,bs[i]?=some b->cs[i]?=some c->l[i]?=some v->H' b=some (.tup [.ref c,.int v]):=λi b c v e1 C w=>by
  show (if b=f then _ else match cell b with | some i=>_ | none=>H b)=_
  rw[if_neg (bq b (GV e1))]
  cases d:cell b with
  | none =>
   have:=List.findIdx?_eq_none_iff.mp d b (GV e1)
   simp at this
  | some j =>
   obtain ⟨c',v',t',f1,f2,L⟩:=fY j b (at' b j d)
   obtain ⟨c2,v2,t2,f4,R,T⟩:=fY i b e1
   rw[L] at T
   cases T
   rw[C] at f4
   rw[w] at R
   cases f4
   cases R
   show some (HO.tup [.ref (cs.getD j 0),.int (l.getD j 0)])=_
   rw[List.getD,List.getD,f1,f2];rfl
 refine #[.ref f,H',I.laidN (t':=tk) k sm (λb o g=>?_) (λb x e=>?_) λb u e g=>?_,rfl,q cs bs f H' (λi n g=>?_) (by lia) sm (I.hok.fresh O) uniq ?_]
 .show (if b=f then _ else match cell b with | some i=>_ | none=>H b)=none
  rw[if_neg (by lia)]
  cases d:cell b with
  | none=>exact g
  | some j=>have:=(g3 b (GV (at' b j d))).1;lia
 .change (if b=f then _ else match cell b with | some i=>_ | none=>H b)=_ at e
  by_cases o:b=f
  .rw[if_pos o] at e;cases e
  .rw[if_neg o] at e
   cases d:cell b with
   | none=>rw[d] at e;exact e
   | some j=>rw[d] at e;cases e
 .change (if b=f then _ else match cell b with | some i=>_ | none=>H b)=_ at e
  by_cases o:b=f
  .rw[if_pos o] at e
   cases e
   subst o
   have er:(is.map λi=>V.ref (bs.getD i 0))=(is.map λi=>bs.getD i 0).map V.ref:=by rw[Hs];rfl
   have M:(is.map λi=>Value.ref (bs.getD i 0))=(is.map λi=>bs.getD i 0).map Value.ref:=by rw[Hs];rfl
   refine #[by rw[GS];exact E,_,_,?_,ge]
   rw[er,M]
   exact fE _
  .rw[if_neg o] at e
   cases d:cell b with
   | none=>rw[d] at e;rw[g] at e;cases e
   | some j =>
    rw[d] at e
    cases e
    obtain ⟨c,v,t,f1,f2,L⟩:=fY j b (at' b j d)
    refine #[by show 2<=sizeLine;rw[sizeLine_eq];lia,[.ref c,.int v t],?_,#[_,L,rfl,_,rfl]]
    rw[List.getD,List.getD,f1,f2]
    exact .cons rfl (.cons #[t,rfl] .nil)
 .obtain ⟨hi,c,w,N,_⟩:=key i n g
  exact #[c,D i hi c w,N]
 .show (if f=f then _ else match cell f with | some i=>_ | none=>H f)=_
  rw[if_pos rfl]
end
end L2
end
section
namespace L3
open PySem L2
section
variable {K:FG} {G G0:Gm} {W W0:D->Sto->Prop} {H H':Hp} {Y:St} {Z Z':Sto} {T T':List It3} {g:Nat->Option It3} {x y z:It3} {α β:Type} {X:Cx} {v:V} {d:D} {L:List Addr}
def Ee:D->Option (D×Fl)
 | .dt kvs=>(bC (kvs.map (·.1))).bind λns=>(bW (kvs.map (·.2))).bind λF=>(bh ns).bind λis =>
  if (decide (is.length<=16777216) && is.all λi=>decide (i < ns.length))=true then some (.lst (is.map λi=>.tup [ntD (ns.getD i []),.int (F.getD i 0)]),.u) else none
 | _=>none
abbrev jT:=c1 Ee
def uE:List V->Hp->VK->Prop:=λxs H Q=>∃ (a:Addr) (kvs:List (List Key×V)) (ns:List (List Int)) (d:List Int) (is:List Nat),xs=[.ref a]/\HdT H a kvs/\kvs.map (·.1)=ns.map (λn=>n.map Sum.inl)/\kvs.map (·.2)=d.map V.int /\
 bh ns=some is/\is.length<=sizeLine/\∀ (cs bs:List Addr) (q:Addr) (H':Hp),(∀ (i:Nat) n,ns[i]?=some n->∃ c,cs[i]?=some c/\H' c=some (.tup (n.map V.int)))->bs.length=ns.length->Same H H'->H q=none ->
  (∀ (i:Nat) b c v,bs[i]?=some b->cs[i]?=some c->d[i]?=some v->H' b=some (.tup [.ref c,.int v]))->H' q=some (.lst (is.map λi=>V.ref (bs.getD i 0)))->Q (.ref q) H'
theorem p7 {H:Hp}:∀ (is:List Nat) (ns:List (List Int)) (a:List Int) (cs bs:List Addr),bs.length=ns.length->a.length=ns.length->(∀ i∈is,i < ns.length)->(∀ (i:Nat) n,ns[i]?=some n->∃ c,cs[i]?=some c/\H c=some (.tup (n.map V.int))) ->
  (∀ (i:Nat) b c v,bs[i]?=some b->cs[i]?=some c->a[i]?=some v->H b=some (.tup [.ref c,.int v]))->Reps (Rep K H) (is.map λi=>.tup [ntD (ns.getD i []),.int (a.getD i 0)]) (is.map λi=>V.ref (bs.getD i 0)) []
 | [],_,_,_,_,_,_,_,_,_=>.nil
 | i::is,ns,a,cs,bs,hb,hv,hi,hc,hp=>by
  have lt:=hi i GG
  obtain ⟨c,e1,e⟩:=hc i ns[i] (GO lt)
  have b1:bs[i]?=some (bs[i]'(by lia)):=GO _
  have v1:a[i]?=some (a[i]'(by lia)):=GO _
  have h:=hp i _ _ _ b1 e1 v1
  have f:ns.getD i []=ns[i]:=by rw[List.getD,GO lt];rfl
  rw[G6,G6]
  refine .cons (L:=[]) ?_ (p7 is ns a cs bs hb hv (λj d=>hi j (GH _ d)) hc hp)
  rw[f,List.getD,List.getD,b1,v1]
  exact .tup h (.cons (L:=[]) (.tup e (jY _)) (.cons (L:=[]) (.int _) .nil))
theorem Ak:cb K uE jT:=λys H Q p ra e q=>by
 obtain ⟨y,rfl,j⟩:=dA e
 clear e
 have e:=j
 clear j
 have v:=ra y GG
 have h:=v.rep
 obtain ⟨da,E,A,D⟩:=y
 dsimp only at h e
 cases da with
 | dt kvs =>
  obtain ⟨o,ps,B,rfl,rfl,s,m,rs⟩:=h.view
  obtain ⟨ns,h1,h2⟩:=Hg.mp (show ((bC (kvs.map (·.1))).bind λns=>_)=some p from e)
  obtain ⟨a,h3,w⟩:=Hg.mp h2
  obtain ⟨is,r,b⟩:=Hg.mp w
  by_cases hd:(decide (is.length<=16777216) && is.all λi=>decide (i < ns.length))=true
  .rw[if_pos hd] at b
   cases b
   obtain ⟨h7,h8⟩:=Bool.and_eq_true_iff.mp hd
   have f:ps.map (·.2)=a.map V.int:=by
    rw[d5 h3] at rs
    exact rs.ints
   have C:kvs.length=ns.length:=by have:=congrArg List.length (di h1);simpa using this
   have x:kvs.length=a.length:=by have:=congrArg List.length (d5 h3);simpa using this
   refine #[o,ps,ns,a,is,rfl,s,by rw[<- m];exact di h1,f,r,by rw[sizeLine_eq];exact of_decide_eq_true h7,λcs bs g H' d l sm k t n=>?_]
   refine q #[.lst (is.map λi=>.tup [ntD (ns.getD i []),.int (a.getD i 0)]),.ref g,[g],.u] H' #[sm,.lst n (p7 is ns a cs bs l (by lia) (λi hi=>of_decide_eq_true (List.all_eq_true.mp h8 i hi)) d t),λc d=>?_,λ_=>#[rfl,g,[],rfl,rfl,λz=>(by cases z),k]] rfl rfl
   rw[Hh.mp d];exact .inl k
  .rw[if_neg hd] at b;exact nsE b
 | _=>exact nsE e
theorem xJ {m:EM} {Q:VK} (h:tE K G0 W0 (av jT (aa m ai)) Y H Q) :
  tCB yE (uq (tBM0 K "dict" (λx D H Q=>∃ a kvs,x=.ref a/\D=[]/\RdT H a kvs/\∀ p,H p=none->Q (.ref p) (upd H p (jB p a))) (tE K G0 W0 m)) DR) Y H Q:=by
 have h1:uq (tE K G0 W0 m) (tA K G0 W0 ai) Y H (λD H1=>uE D H1 Q):=ut (lA Ak h)
 refine uo h1 λx H1 h2=>?_
 obtain ⟨a,kvs,ns,D,is,e,d,r,y,l,hz,q⟩:=xN h2
 cases e
 obtain ⟨n,d⟩:=d
 refine #[.inr (.inr (.inl #[rfl,.inr #[kvs,n,d]])),a,kvs,rfl,rfl,#[n,.inl d],λp k=>?_]
 have f:a≠p:=λz=>by rw[z,k] at d;exact nsE d
 have j:Same H1 (upd H1 p (jB p a)):=ba k
 refine #[p,a,kvs,ns,D,is,rfl,aD,#[n,.inl (by rw[ay f];exact d)],r,y,l,hz,λcs bs A H' v o sm w g s=>q cs bs A H' (λi n e=>?_) o (λb u e=>sm b u (j b u e)) (j.free w) g s]
 obtain ⟨c,e1,t⟩:=v i n e
 exact #[c,e1,sm _ _ t]
theorem yz {o:Expr} {m:EM} {p apos cpos pos:Pos} (e:X.calm=true) (hu:X.A.units+32 < cLine) (f:Gl X "sorted") (hm:X.mg "sorted"=none) (g:RE X G0 W0 o m) (b:attributeBase o "items" X.env (eval o X.env)=eval o X.env) (a:(apos.endLine == cpos.line)=true)
  (d:starEach [.Call (.Attribute o "items" apos) [] [] cpos] X.env=(false,eval (.Call (.Attribute o "items" apos) [] [] cpos) X.env)::starEach [] X.env) (c:(backTo pos (starEach [] X.env)).any (·.1)=false) :
  RE X G0 W0 (.Call (.Name "sorted" p) [.Call (.Attribute o "items" apos) [] [] cpos] [] pos) (av jT (aa m ai)) :=
 #[PE.imp (lW (tW e hu) f hm rS (jr (Fc PySem.F.plainAttrs_dict PySem.F.slot_dict_items PySem.F.type_dict_items zp g.h b a) oN d) (by decide) (by decide) d c) λ_ _ _ h=>xJ h]
end
end L3
end
section
namespace L2
open PySem PySem.Spec PyProof.Rows
theorem wJ:typeLookup (.type "list") "keys"=pure none:=am_miss_of_fast (by kernel_rfl)
theorem getAttr?_miss_l {prog:Program} {w:World} {A:Around} {E:Value->Shared->Prop} {s:Shared} {a:Addr} {xs:Array Value} {k:Nat} {name:Str} {Q:Option Value->Shared->Prop}
  (j:s.heap.get? a=some (seqObj "list" xs k)) (c:typeLookup (.type "list") name=pure none) (b:(["__module__","__name__","__qualname__","__doc__","__annotations__"]:List Str).contains name=false) (o:A.handled=none)
  (h:∀ h' tk e,Heap.NewExcOf s.heap h' e "AttributeError"->Q none { s with heap:=h',toks:=tk }) (hsz:name.length+100<=sizeLine:=by size_fits) :
  wpAny (model prog w) A (getAttr? (.ref a) name) Q E s:=by
 obtain ⟨l,g,d,tk,os⟩:=s
 have ty:(#[l,g,d,tk,os]:Shared).TypeIs (.ref a) "list":=#[_,j,rfl]
 have q:=F.slot_list_getattribute.lookup
 have p:=F.slot_list_getattribute.bind (.ref a)
 have u:=am_list_getattr_none
 have t:=sub_AttributeError
 have i:∀ f,(#[l,g,d,f,os]:Shared).TypeIs (.ref a) "list":=λ_=>#[_,j,rfl]
 repeat ((fail_if_success with_reducible refine wpAny_call ?_);wp_step)
 refine call_meets F.slot_list_getattribute (i _) am_entry_list_getattribute (F.args_list_getattribute_2 _ _) (meets_getattribute_miss_list a xs k (List.toArray []) name _ c b hsz) #[j,o,λh' f e n=>?_]
 obtain ⟨t',r,he⟩:=n.there
 refine (?_:wpAny _ _ (getattributeRaised _ _ _ _ _ _ _) _ _ _)
 have m:(#[h',g,d,f,os]:Shared).TypeIs (.ref e) "AttributeError":=#[_,he,rfl]
 wp_walk
 exact h _ _ _ n.of
section
variable {prog:Program} {w:World} {K:Type} [DecidableEq K] {knd:HeapKind prog w K} {A:Around} {E:Value->Shared->Prop} {s:Shared}
def PairRow (h:Heap) (ps:List Addr) (a:List (K×Addr×Value)):Prop:=∀ (i:Nat) (p:Addr) (t:K×Addr×Value),ps[i]?=some p->a[i]?=some t->∃ o n,h.get? p=some o/\o.cls=.type "tuple"/\o.data=.seq (List.toArray [.ref t.2.1,t.2.2]) n
theorem PairRow.keep {h h':Heap} {ps:List Addr} {d:List (K×Addr×Value)} (r:PairRow h ps d) (k:∀ p∈ps,∀ o,h.get? p=some o->h'.get? p=some o):PairRow h' ps d:=λi p t e1 e=>let #[o,n,a,b,c]:=r i p t e1 e;#[o,n,k p (GV e1) o a,b,c]
theorem tO (hh:A.in1.handled=none) (hu:knd.room A.in1) {I l d:Addr} (Q:d≠I) (dl:d≠l) (σ:l≠I) {ps:List Addr} (pI:∀ p∈ps,p≠I/\p≠d) {a:List (K×Addr×Value)} (hl:ps.length=a.length) (ρ:(a.map (·.1)).Nodup) (hsz:a.length<=sizeLine) {R:Result->Shared->Prop}
  (keep:∀ h h':Heap,(∀ t∈a,knd.is h t.1 t.2.1)->(∀ c o,c≠I->h.get? c=some o->h'.get? c=some o)->∀ t∈a,knd.is h' t.1 t.2.1) :
  ∀ (k i:Nat) (s:Shared),a.length - i=k->i<=a.length->s.heap.IsListIter I l i->s.heap.IsList l (ps.map Value.ref).toArray->PairRow s.heap ps a ->
   (∀ t∈a,knd.is s.heap t.1 t.2.1)->DictOfHE knd s.heap d (a.take i) 0 ->
   (∀ h' tk,DictOfHE knd h' d a 0->(∀ c o,c≠I->c≠d->s.heap.get? c=some o->h'.get? c=some o)->R (.ok (.ret .none)) { s with heap:=h',toks:=tk }) ->
   codeAny (model prog w) A (.builtin "dict.update.loop" #[[.ref d,.ref I,rawInt i,.none],[]]) R s:=by
 have carry:∀ {h h':Heap} {ys:List (K×Addr×Value)},DictOfHE knd h d ys 0->(∀ t∈ys,knd.is h' t.1 t.2.1)->(∀ c o,c≠I->h.get? c=some o->h'.get? c=some o)->DictOfHE knd h' d ys 0:=λ#[o,es,ep,g1,g2,g3,J,g5,P,M] hi E =>
  #[o,es,ep,E d o Q g1,g2,g3,J,hi,P,M]
 intro k
 induction k with
 | zero =>
  intro i s E hi h1 g φ j hd F
  obtain rfl:i=a.length:=by lia
  refine codeAny_builtin Fz.entry_dict_update_loop ?_
  rw[Around.under_plainId Fz.plain_dict_update_loop _]
  show wpAny _ A.in1 (pyNext (.ref I) >>= _) _ _ s
  refine GC (wpAny_pyNext_list_end hh h1 g (by simp[hl]) λh' C=>?_)
  show wpAny _ A.in1 (Builtin.Dict.addKeywords d [] >>= _) _ _ _
  refine GC (GD (GD ?_))
  rw[List.take_length] at hd
  exact F h' s.toks (carry hd (keep _ _ j λc o z e=>C c o z e) λc o z e=>C c o z e) λc o c1 _ e=>C c o c1 e
 | succ k ih =>
  intro i s E hi h1 g φ j hd F
  have m:i < a.length:=by lia
  have L:a[i]?=some a[i]:=GO m
  have u:ps[i]?=some (ps[i]'(by lia)):=GO _
  have r:a[i]∈a:=List.getElem_mem m
  refine codeAny_builtin Fz.entry_dict_update_loop ?_
  rw[Around.under_plainId Fz.plain_dict_update_loop _]
  show wpAny _ A.in1 (pyNext (.ref I) >>= _) _ _ s
  refine GC (wpAny_pyNext_list_item h1 g (x:=.ref (ps[i]'(by lia))) (by simp[u]) λh' a1 sb=>?_)
  have f:∀ c o,c≠I->s.heap.get? c=some o->h'.get? c=some o:=λc o z e=>sb.extBut c o z e
  have b:=keep _ _ j f
  have y:=carry hd (λt q=>b t (List.mem_of_mem_take q)) f
  have B:PairRow h' ps a:=φ.keep λp q o e=>f p o (pI p q).1 e
  obtain ⟨W,n1,H,N,O⟩:=B i _ _ u L
  obtain ⟨c1,x1,ab,ar⟩:=W
  simp only at N O
  subst N O
  refine GC (GF ?_)
  refine GC (wpAny_tryCatch ?_)
  unfold Builtin.Dict.pairItems
  refine GC (wpAny_typeOf (T:="tuple") #[_,H,rfl] ?_)
  rw[if_pos (by decide)]
  refine GC (wpAny_seqItems H rfl (GD ?_))
  show wpAny _ _ (holding [Value.ref a[i].2.1,a[i].2.2] (dictSet d (.ref a[i].2.1) a[i].2.2)) _ _ _
  refine GF (fh hu (b _ r) y (hsz:=by rw[He];lia) λh₂ n v=>?_)
  rw[uh ρ L] at n
  obtain ⟨o',V,ax,g1,g2,g3,J,g5,P,M⟩:=y
  refine GD #[plainId_quiet Fz.plain_dict_update_loop _,?_]
  have up:∀ c o,c≠d->h'.get? c=some o->h₂.get? c=some o:=λc o c1 e=>v.extBut _ _ c1 e
  refine ih (i+1) _ (by lia) m (a1.at λo e=>up _ o Q.symm e) ((g.at λo e=>f _ o σ e).at λo e=>up _ o dl.symm e) (B.keep λp q o e=>up p o (pI p q).2 e) (λt q=>knd.keeps (b t q) g1 g3 v) n λX tk G D=>?_
  exact F X tk G λc o c1 S e=>D c o c1 S (up c o S (f c o c1 e))
theorem tX (D:A.handled=none) (hu:knd.room A.in1.in1) {l:Addr} {ps:List Addr} {n:Nat} (f:s.heap.get? l=some (seqObj "list" (ps.map Value.ref).toArray n)) {b:List (K×Addr×Value)} (G:ps.length=b.length) (R:(b.map (·.1)).Nodup) (hsz:b.length<=sizeLine) {Q:Value->Shared->Prop}
  (keep:∀ (I:Addr) (h h':Heap),s.heap.objs.size<=I->(∀ t∈b,t.2.1 < s.heap.objs.size)->(∀ t∈b,knd.is h t.1 t.2.1)->(∀ c o,c≠I->h.get? c=some o->h'.get? c=some o)->∀ t∈b,knd.is h' t.1 t.2.1)
  (k:∀ t∈b,t.2.1 < s.heap.objs.size) (N:PairRow s.heap ps b) (y:∀ t∈b,knd.is s.heap t.1 t.2.1)
  (P:∀ h' tk,DictOfHE knd h' s.heap.objs.size b 0->(∀ c o,s.heap.get? c=some o->h'.get? c=some o)->Q (.ref s.heap.objs.size) { s with heap:=h',toks:=tk }) :
  wpAny (model prog w) A (call (.type "dict") [.ref l]) Q E s:=by
 have L:l < s.heap.objs.size:=GP f
 have H:∀ p∈ps,p < s.heap.objs.size:=λp C=>by
  obtain ⟨i,hi⟩:=List.getElem?_of_mem C
  have:i < b.length:=by rw[<- G];exact (GU.mp hi).1
  obtain ⟨o,_,e,_⟩:=N i p _ hi (GO this)
  exact GP e
 refine callType_codes (Q₁:=λobj J=>obj=.ref s.heap.objs.size/\J={ s with heap:=s.heap.push { cls:=.type "dict",data:=.dict (List.toArray []) } }) PySem.F.kt_called_dict (PySem.F.kt_typeCall_dict_1 _) PySem.F.entry_dict_init (kt_code_dict_new _ #[rfl,rfl]) ?_
 rintro obj J ⟨rfl,rfl⟩
 have z:(s.heap.push { cls:=.type "dict",data:=.dict (List.toArray []) }).get? s.heap.objs.size=some _:=GR _ rfl
 have M:Shared.TypeIs { s with heap:=s.heap.push { cls:=.type "dict",data:=.dict (List.toArray []) } } (.ref s.heap.objs.size) "dict":=#[_,z,rfl]
 have r:∀ c o,s.heap.get? c=some o->(s.heap.push { cls:=.type "dict",data:=.dict (List.toArray []) }).get? c=some o:=λc o e=>GI _ e
 have V:(s.heap.push { cls:=.type "dict",data:=.dict (List.toArray []) }).objs.size=s.heap.objs.size+1:=Hm ..
 refine #[M,PySem.F.args_dict_init_2 _ _,?_]
 unfold Builtin.«dict.__init__»
 refine GC ?_
 unfold Builtin.Dict.selfAndRest
 refine GC (wpAny_notOrdered_dict M ?_)
 show wpAny _ _ (pure (s.heap.objs.size,[Value.ref l])) _ _ _
 refine GD ?_
 show wpAny _ _ (Builtin.Dict.updateFrom "dict.__init__" s.heap.objs.size (.ref l) [] .none) _ _ _
 generalize s.heap.push { cls:=.type "dict",data:=.dict (List.toArray []) }=H1 at *
 unfold Builtin.Dict.updateFrom
 refine GC (wpAny_typeOf (T:="list") #[_,r _ _ f,rfl] ?_)
 rw[if_pos (by decide)]
 refine GC (getAttr?_miss_l (s:={ s with heap:=H1 }) (r _ _ f) wJ (by decide) (by simpa using D) λj m φ B=>?_)
 have a:∀ c o,H1.get? c=some o->j.get? c=some o:=λc o e=>B.keeps c o e
 have g:s.heap.objs.size < j.objs.size:=GP (a _ _ z)
 simp only[Option.isNone_none,if_true]
 refine GC (wpAny_rule (GC (wpAny_pyIter_list (s:={ s with heap:=j,toks:=m }) (l:=l) (items:=(ps.map Value.ref).toArray) #[_,a _ _ (r _ _ f),rfl,_,rfl] (GD #[plainId_quiet Fz.plain_dict_update_loop _,?_]))))
 have O:(j.push { cls:=.type "list_iterator",data:=.fields (List.toArray [.ref l,.int 0 0]) }).IsListIter j.objs.size l 0:=#[_,GR _ rfl,rfl,rfl]
 have old:∀ c o,s.heap.get? c=some o->(j.push { cls:=.type "list_iterator",data:=.fields (List.toArray [.ref l,.int 0 0]) }).get? c=some o:=λc o e=>GI _ (a _ _ (r _ _ e))
 have hg₁:=GI { cls:=.type "list_iterator",data:=.fields (List.toArray [.ref l,.int 0 0]) } (a _ _ z)
 show codeAny _ _ _ _ { s with heap:=j.push { cls:=.type "list_iterator",data:=.fields (List.toArray [.ref l,.int 0 0]) },toks:=m }
 generalize j.push { cls:=.type "list_iterator",data:=.fields (List.toArray [.ref l,.int 0 0]) }=H2 at *
 have his₁:∀ t∈b,knd.is H2 t.1 t.2.1:=keep s.heap.objs.size _ _ (GZ _) k y λc o _ e=>old c o e
 refine tO (A:=A.in1) (by simpa using D) hu (I:=j.objs.size) (l:=l) (d:=s.heap.objs.size) (G4 g) (Nat.ne_of_gt L) (G4 (Nat.lt_trans L g)) (λp q=>#[G4 (Nat.lt_trans (H p q) g),G4 (H p q)]) G R hsz (λh h'=>keep j.objs.size h h' (Nat.le_of_lt g) k) (b.length - 0) 0 _ rfl (Nat.zero_le _) O #[_,old _ _ f,rfl,_,rfl] (N.keep λp _ o e=>old p o e) his₁ #[_,(List.toArray []),0,hg₁,#[rfl,rfl,rfl],rfl,rfl,(λx S=>by cases S),List.nodup_nil,rfl] λh' tk v u=>?_
 exact #[rfl,P h' tk v λc o e=>u c o (G4 (Nat.lt_trans (GP e) g)) (G4 (GP e)) (old c o e)]
end
section
variable {X:Cx}
def yM:List V->Hp->VK->Prop:=λxs H Q=>∃ (l:Addr) (ps cs:List Addr) (kvs:List (List Key×V)),xs=[.ref l]/\H l=some (.lst (ps.map V.ref))/\ps.length=kvs.length/\cs.length=kvs.length /\
 (∀ (i:Nat) p c kv,ps[i]?=some p->cs[i]?=some c->kvs[i]?=some kv->H p=some (.tup [.ref c,kv.2])/\H c=some (.tup (kv.1.map kV)))/\(kvs.map (·.1)).Nodup/\kvs.length<=sizeLine/\∀ d,H d=none->Q (.ref d) (upd H d (.dT kvs 0))
theorem trs {H:Hp} {s:Shared} {pins:List (Addr×Obj)} {Y:St} (I:Inv X pins Y H s):∀ (ps cs:List Addr) (kvs:List (List Key×V)),ps.length=kvs.length->cs.length=kvs.length ->
  (∀ (i:Nat) p c D,ps[i]?=some p->cs[i]?=some c->kvs[i]?=some D->H p=some (.tup [.ref c,D.2])/\H c=some (.tup (D.1.map kV))) ->
  ∃ F:List (List Key×Addr×Value),F.map (·.1)=kvs.map (·.1)/\PairRow s.heap ps F/\KT H kvs F/\∀ t∈F,H t.2.1=some (.tup (t.1.map kV))
 | [],[],[],_,_,_=>#[[],rfl,λi p t e=>by simp at e,.nil,λt h=>by cases h]
 | [],_::_,[],_,h,_=>by cases h
 | _::_,_,[],h,_,_=>by cases h
 | [],_,_::_,h,_,_=>by cases h
 | _::_,[],_::_,_,h,_=>by cases h
 | p::ps,c::cs,D::kvs,h1,h2,h=>by
  obtain ⟨F,e1,M,J,N⟩:=trs I ps cs kvs (by simpa using h1) (by simpa using h2) λi p c D a b d=>h (i+1) p c D (by simpa using a) (by simpa using b) (by simpa using d)
  obtain ⟨g1,g2⟩:=h 0 p c D rfl rfl rfl
  obtain ⟨_,its,m,o,q,j,n,hd⟩:=(show ObjOk X.prog X.w H s.heap p (.tup [.ref c,D.2]) from I.hok p _ g1)
  obtain ⟨u,v,rfl,k,g⟩:=m.two
  cases (show u=Value.ref c from k)
  refine #[(D.1,c,v)::F,by simp[e1],λi l t' a b=>?_,.cons #[rfl,g2,g] J,λt f=>?_]
  .cases i with
   | zero=>cases a;cases b;exact #[o,n,q,j,congrArg Prod.fst hd]
   | succ i=>exact M i l t' (by simpa using a) (by simpa using b)
  .rcases GN.mp f with rfl | f
   .exact g2
   .exact N t f
theorem refs_vals : ∀ {bs : List Addr} {its : List Value}, Vals (bs.map V.ref) its -> its = bs.map Value.ref
 | [], _, .nil => rfl
 | _ :: bs, _, .cons r rs => by cases r; rw [refs_vals rs]; rfl
theorem rE (E:X.calm=true) (hu:X.A.units+2 < cLine):CallR X (.type "dict") yM:=by
 intro pins s Y H xs us Q I D h
 obtain ⟨l,ps,cs,kvs,rfl,B,p,j,m,g,hz,q⟩:=h
 obtain ⟨u,rfl,K⟩:=D.one
 cases K
 obtain ⟨_,its,n,G,lo⟩:=(show ObjOk X.prog X.w H s.heap l (.lst (ps.map V.ref)) from I.hok l _ B)
 cases refs_vals G
 obtain ⟨d,e1,C,v,r⟩:=trs I ps cs kvs p j m
 have hlen:kvs.length=d.length:=by have:=congrArg List.length e1;simpa using this.symm
 have key:∀ x∈d,(tupleKind (aG X.prog X.w)).is s.heap x.1 x.2.1:=λx c=>i5 I.hok (r x c)
 refine tX (knd:=tupleKind (aG X.prog X.w)) (I.ok.hd E) (show X.A.units+1+1 < cLine by lia) lo (by lia) (by rw[e1];exact g) (by lia) (λM h h' y i hi f x c=>?_) (λx c=>I.hok.lt (r x c)) C key λh' tk hd f=>?_
 .obtain ⟨o,its,n,g1,g2,g3,k⟩:=hi x c
  exact #[o,its,n,f _ _ (λz=>absurd (i x c) (Nat.not_lt.mpr (z ▸ y))) g1,g2,g3,k]
 .have t:=I.hok.fresh (GZ s.heap.objs.size)
  obtain ⟨o,es,ep,g1,g2,g3,k,L,F,J⟩:=hd
  refine #[.ref s.heap.objs.size,_,I.laid (a:=s.heap.objs.size) (o:=.dT kvs 0) (t':=tk) f (GZ _) #[hz,beq_eq_false_iff_ne.mpr (Nat.ne_of_gt I.big),d,v.keeps λb ys e=>?_,o,es,ep,g1,g2,g3,k,F,J],rfl,q _ t]
  rw[ay]
  .exact e
  .intro z;rw[z,t] at e;cases e
end
end L2
namespace L3
open PySem L2
section
variable {K:FG} {H H':Hp} {X:Cx}
def iL:List D->Option (List (List Int×D))
 | []=>some []
 | .tup [.tup ys,v]::ds=>(bW ys).bind λn=>(iL ds).map ((n,v)::·)
 | _=>none
def Gh:D->Option (D×Fl)
 | .lst ds=>(iL ds).bind λkvs=>if (kvs.map (·.1)).Nodup/\kvs.length<=16777216 then some (.dt (kvs.map λp=>(p.1.map Sum.inl,p.2)),.u) else none
 | _=>none
abbrev i9:=c1 Gh
theorem sO {d:D} {ds:List D} {kvs:List (List Int×D)} (h:iL (d::ds)=some kvs):∃ n v r,d=.tup [ntD n,v]/\iL ds=some r/\kvs=(n,v)::r:=by
 cases d with
 | tup xs =>
  rcases xs with _ | ⟨x,_ | ⟨v,_ | _⟩⟩
  .exact nsE h
  .cases x <;> exact nsE h
  .cases x with
   | tup ys =>
    obtain ⟨n,h1,h2⟩:=Hg.mp (show ((bW ys).bind λn=>(iL ds).map ((n,v)::·))=some kvs from h)
    obtain ⟨r,h3,a⟩:=GJ.mp h2
    exact #[n,v,r,by rw[d5 h1];rfl,h3,a.symm]
   | _=>exact nsE h
  .cases x <;> exact nsE h
 | _=>exact nsE h
theorem Reps.intsL:∀ {ns:List Int} {a:List V} {L:List Addr},Reps (Rep K H) (ns.map D.int) a L->L=[]
 | [],_,_,.nil=>rfl
 | n::ns,_,_,.cons r rs=>by rw[Reps.intsL rs];cases r;rfl
theorem uO:∀ {ds:List D} {kvs:List (List Int×D)} {f:List V} {L:List Addr},iL ds=some kvs->Reps (Rep K H) ds f L->∃ (ps cs:List Addr) (ws:List V),f=ps.map V.ref/\ps.length=kvs.length/\cs.length=kvs.length/\ws.length=kvs.length /\
  (∀ (i:Nat) p c w n,ps[i]?=some p->cs[i]?=some c->ws[i]?=some w->(kvs.map (·.1))[i]?=some n->H p=some (.tup [.ref c,w])/\H c=some (.tup (n.map V.int)))/\Reps (Rep K H) (kvs.map (·.2)) ws L
 | [],kvs,_,_,h,.nil=>by cases h;exact #[[],[],[],rfl,rfl,rfl,rfl,λi p c w n e=>by simp at e,.nil]
 | d::ds,kvs,_,_,h,.cons r rs=>by
  obtain ⟨n,v,F,rfl,h1,rfl⟩:=sO h
  obtain ⟨ps,cs,ws,e1,l,j,o,u,s⟩:=uO h1 rs
  obtain ⟨a,us,rfl,q,t⟩:=r.view
  cases t with
  | cons r1 r2 =>
   cases r2 with
   | cons r3 r4 =>
    cases r4
    obtain ⟨c,ks,rfl,m,b⟩:=r1.view
    have k:=b.ints
    have x:=b.intsL
    subst k x
    refine #[a::ps,c::cs,_::ws,by rw[e1];rfl,by simp[l],by simp[j],by simp[o],λi p c w n a1 a2 g a4=>?_,.cons (by simpa using r3) s]
    cases i with
    | zero=>cases a1;cases a2;cases g;cases a4;exact #[q,m]
    | succ i=>exact u i p c w n (by simpa using a1) (by simpa using a2) (by simpa using g) (by simpa using a4)
theorem An:cb K yM i9:=λys H Q p ra e q=>by
 obtain ⟨y,rfl,j⟩:=dA e
 clear e
 have e:=j
 clear j
 have s:=ra y GG
 have m:=s.rep
 obtain ⟨da,I,F,x⟩:=y
 dsimp only at m e
 cases da with
 | lst ds =>
  obtain ⟨a,G,k,rfl,rfl,A,rs⟩:=m.view
  obtain ⟨kvs,h1,h2⟩:=Hg.mp (show ((iL ds).bind λkvs=>_)=some p from e)
  rcases Decidable.em ((kvs.map (·.1)).Nodup/\kvs.length<=16777216) with f | f
  .rw[if_pos f] at h2
   cases h2
   obtain ⟨ps,cs,ws,rfl,j,v,g,C,B⟩:=uO h1 rs
   have hw:((kvs.map (·.1)).zip ws).map (·.2)=ws:=by rw[List.map_snd_zip];simp[g]
   have l:((kvs.map (·.1)).zip ws).map (·.1)=kvs.map (·.1):=by rw[List.map_fst_zip];simp[g]
   refine #[a,ps,cs,((kvs.map (·.1)).zip ws).map λp=>(p.1.map Sum.inl,p.2),rfl,A,by simp[j,g],by simp[v,g],λi p c E a1 a2 r=>?_,?_,by simp[g,sizeLine_eq];lia,λd hd=>?_]
   .rw[GY] at r
    obtain ⟨⟨n,w⟩,b1,b2⟩:=GJ.mp r
    obtain ⟨c1,c2⟩:=List.getElem?_zip_eq_some.mp b1
    obtain ⟨g1,g2⟩:=C i p c w n a1 a2 c2 c1
    rw[<- b2]
    exact #[g1,by rw[g2];simp[kV,Hs,Function.comp_def]]
   .rw[Hs]
    have:((kvs.map (·.1)).zip ws).map ((λp:List Key×V=>p.1) ∘ λp:List Int×V=>(p.1.map Sum.inl,p.2))=(((kvs.map (·.1)).zip ws).map (·.1)).map λn=>n.map Sum.inl:=by rw[Hs];rfl
    rw[this,l]
    exact List.pairwise_map.mpr (f.1.imp λh z=>h (List.map_inj_right (λa b e=>Sum.inl.inj e) |>.mp z))
   .refine q #[.dt (kvs.map λp=>(p.1.map Sum.inl,p.2)),.ref d,d::k,.u] _ #[ba hd,.dT aD ?_ ?_,λc f=>?_,λ_=>#[rfl,d,k,rfl,rfl,λf=>?_,hd]] rfl rfl
    .rw[Hs,Hs]
     have:((kvs.map (·.1)).zip ws).map ((λp:List Key×V=>p.1) ∘ λp:List Int×V=>(p.1.map Sum.inl,p.2))=(((kvs.map (·.1)).zip ws).map (·.1)).map λn=>n.map Sum.inl:=by rw[Hs];rfl
     rw[this,l,Hs];rfl
    .rw[Hs,Hs]
     have h1:kvs.map ((λp:List Key×D=>p.2) ∘ λp:List Int×D=>(p.1.map Sum.inl,p.2))=kvs.map (·.2):=rfl
     have h2:((kvs.map (·.1)).zip ws).map ((λp:List Key×V=>p.2) ∘ λp:List Int×V=>(p.1.map Sum.inl,p.2))=ws:=hw
     rw[h1,h2]
     exact B.same (ba hd)
    .rcases GN.mp f with e | f
     .rw[e];exact .inl hd
     .exact .inr (md (y:=#[.lst ds,.ref a,a::k,x]) GG s rfl rfl c f)
    .obtain ⟨o,t⟩:=(rs.inH d f).ex
     rw[hd] at t
     exact nsE t
  .rw[if_neg f] at h2;exact nsE h2
 | _=>exact nsE e
end
end L3
end
section
namespace L3
open PySem L2
def strQ:D->Option (D×Fl)
 | .int i=>if i.natAbs.log2 < 1920 then #v[.str (iV i)] else none
 | _=>none
abbrev vT:=c1 strQ
theorem xc {X:Cx}:CallR X (.type "str") yG:=by
 intro pins s Y H xs us Q I b h
 obtain ⟨i,rfl,hi,q⟩:=h
 obtain ⟨u,rfl,a⟩:=eK b
 obtain ⟨t,rfl⟩:=a
 exact PySem.P.str_of_int hi #[.str (iV i),H,I.tok _,#[_,rfl],q]
theorem CJ {K:FG}:cb K yG vT:=λys H Q p ra e q=>by
 obtain ⟨y,rfl,a⟩:=dA e
 have c:=(ra y GG).rep
 obtain ⟨da,d,g,f⟩:=y
 dsimp only at c a
 cases da with
 | int i =>
  obtain ⟨rfl,rfl⟩:=c.view
  have a:(if i.natAbs.log2 < 1920 then some ((.str (iV i),.z):D×Fl) else none)=some p:=a
  by_cases b:i.natAbs.log2 < 1920
  .rw[if_pos b] at a
   cases a
   exact #[i,rfl,b,q #[_,_,[],.z] H (cy (.str _)) rfl rfl]
  .rw[if_neg b] at a;exact nsE a
 | _=>exact nsE a
end L3
end
section
namespace Bn
open PySem L2 L3
abbrev Pd (p:Int×Int):L3.D:=.tup [.int p.1,.int p.2]
theorem bD {bnd:L3.D->Sto->Option Sto} {b:SM} (P:Nat->Sto->Prop):∀ {ds:List L3.D} {Z:Sto} {k:Nat},P k Z->(∀ i d Z,ds[i]?=some d->P (k+i) Z->∃ Z1 Z2,bnd d Z=some Z1/\(b Z1=some (.ok .nx,Z2)\/b Z1=some (.ok .ct,Z2))/\P (k+i+1) Z2)->∃ Z',cL bnd b ds Z=some (.ok .nx,Z')/\P (k+ds.length) Z'
 | [],Z,k,h0,_=>#[Z,rfl,h0]
 | d::ds,Z,k,h0,hs=>by
  obtain ⟨Z1,Z2,e1,F,h1⟩:=hs 0 d Z rfl h0
  obtain ⟨Z',a,h3⟩:=bD P (ds:=ds) (Z:=Z2) (k:=k+1) h1 λi d Z hd c=>by
   have:=hs (i+1) d Z (by simpa using hd) (by rwa [show k+(i+1)=k+1+i by lia])
   rwa [show k+(i+1)+1=k+1+i+1 by lia] at this
  refine #[Z',?_,by rw[Hd,show k+(ds.length+1)=k+1+ds.length by lia];exact h3]
  unfold cL
  simp only[e1]
  rcases F with F | F <;> simp only[ag,F,a]
theorem o8 {bnd:L3.D->Sto->Option Sto} {b:SM} (P:Nat->Sto->Prop) (E:Nat->L3.D->Fl->Sto->Prop):∀ {ds:List L3.D} {Z:Sto} {k:Nat},P k Z ->
  (∀ i d Z,ds[i]?=some d->P (k+i) Z->∃ Z1 Z2,bnd d Z=some Z1/\(((b Z1=some (.ok .nx,Z2)\/b Z1=some (.ok .ct,Z2))/\P (k+i+1) Z2)\/∃ r f,b Z1=some (.ok (.rt r f),Z2)/\E (k+i) r f Z2)) ->
  ∃ Z',(cL bnd b ds Z=some (.ok .nx,Z')/\P (k+ds.length) Z')\/∃ i r f,i < ds.length/\cL bnd b ds Z=some (.ok (.rt r f),Z')/\E (k+i) r f Z'
 | [],Z,k,h0,_=>#[Z,.inl #[rfl,h0]]
 | d::ds,Z,k,h0,hs=>by
  obtain ⟨Z1,Z2,e1,h1⟩:=hs 0 d Z rfl h0
  rcases h1 with ⟨a,h1⟩ | ⟨r,f,a,h1⟩
  .obtain ⟨Z',h3⟩:=o8 P E (ds:=ds) (Z:=Z2) (k:=k+1) h1 λi d Z hd g=>by
    have:=hs (i+1) d Z (by simpa using hd) (by rwa [show k+(i+1)=k+1+i by lia])
    rwa [show k+(i+1)=k+1+i by lia] at this
   have e:cL bnd b (d::ds) Z=cL bnd b ds Z2:=by
    conv=>lhs;unfold cL
    simp only[e1]
    rcases a with a | a <;> simp only[ag,a]
   rcases h3 with ⟨c,h3⟩ | ⟨i,r,f,hi,c,h3⟩
   .exact #[Z',.inl #[e.trans c,by rw[Hd,show k+(ds.length+1)=k+1+ds.length by lia];exact h3]]
   .exact #[Z',.inr #[i+1,r,f,by simp;lia,e.trans c,by rw[show k+(i+1)=k+1+i by lia];exact h3]]
  .refine #[Z2,.inr #[0,r,f,by simp,?_,h1]]
   unfold cL
   simp only[e1,ag,a,aY]
theorem bX {lo:Int} {n i:Nat} {d:L3.D} (h:(bm lo n)[i]?=some d):i < n/\d=.int (lo+i):=by
 unfold bm at h
 grind
theorem cw {lo:Int} {n:Nat}:(bm lo n).length=n:=by unfold bm;simp
theorem CH {xs:List L3.D} {m:Nat} (h:m<=xs.length):mQ xs none (some (m:Int))=xs.take m:=by
 have e1:HT.sIx xs.length 0 none=0:=rfl
 have a:HT.sIx xs.length xs.length (some (m:Int))=m:=by
  simp only[HT.sIx]
  split <;> lia
 unfold mQ
 rw[e1,a]
 simp
theorem Small.sub {p q:Pt} (a:Small p) (b:Small q):(-18446744073709551616 < q.1 - p.1/\q.1 - p.1 < 18446744073709551616)/\(-18446744073709551616 < q.2 - p.2/\q.2 - p.2 < 18446744073709551616):=by
 obtain ⟨a1,a2,e,a4⟩:=a
 obtain ⟨b1,b2,d,c⟩:=b
 exact #[#[by lia,by lia],#[by lia,by lia]]
theorem vL {c:M3 Bool} {b:SM} (P:Nat->Sto->Prop) (Q:Sto->Prop) {n:Nat} {Z:Sto} (h0:P n Z)
  (j:∀ n Z,P n Z->(∃ Z1,c Z=some (.ok false,Z1)/\Q Z1)\/∃ Z1 Z2 m,c Z=some (.ok true,Z1)/\(b Z1=some (.ok .nx,Z2)\/b Z1=some (.ok .ct,Z2))/\m < n/\P m Z2):∃ Z',gp c b Z=some (.ok .nx,Z')/\Q Z':=by
 have main:∀ n Z,P n Z->∃ Z',bT c b (n+1) Z=some (.ok .nx,Z')/\Q Z':=by
  intro n
  induction n using Nat.strongRecOn with
  | _ n ih =>
   intro Z k
   rcases j n Z k with ⟨Z1,e1,d⟩ | ⟨Z1,Z2,m,e1,a,hm,i⟩
   .refine #[Z1,?_,d]
    unfold bT
    simp[ag,e1,aY]
   .obtain ⟨Z',g,d⟩:=ih m hm Z2 i
    refine #[Z',?_,d]
    have f:=jQ (show m+1<=n by lia) g
    unfold bT
    rcases a with a | a <;> simp[ag,e1,a,f]
 obtain ⟨Z',e,d⟩:=main n Z h0
 refine #[Z',?_,d]
 unfold gp
 have h:∃ n r,bT c b n Z=some r:=#[_,_,e]
 rw[dif_pos h]
 have a:=Classical.choose_spec (Classical.choose_spec h)
 have g:=jQ (Nat.le_max_left (n+1) (Classical.choose h)) e
 have f:=jQ (Nat.le_max_right (n+1) (Classical.choose h)) a
 rw[g] at f
 exact f.symm
theorem ak {a b:SM} {Z Z1:Sto} {r:Option (Except L3.D Flw×Sto)} (h1:a Z=some (.ok .nx,Z1)) (h2:b Z1=r):aE a b Z=r:=by
 simp only[aE,ag,h1]
 exact h2
theorem il {bnd:L3.D->Sto->Option Sto} {c:M3 Bool} {elt:EM} (P:Sto->Prop) (g:L3.D->Bool) (f:L3.D->L3.D):∀ {ds:List L3.D} {τ:Sto},P τ ->
  (∀ d∈ds,∀ τ,P τ->∃ τ1 τ2,bnd d τ=some τ1/\c τ1=some (.ok (g d),τ2)/\(g d=false->P τ2)/\(g d=true->∃ r τ3 p τ4,elt τ2=some (.ok r,τ3)/\fm r τ3=some (.ok p,τ4)/\p.1=f d/\P τ4)) ->
  ∃ τ',bG bnd c elt ds τ=some (.ok ((ds.filter g).map f),τ')/\P τ'
 | [],τ,h0,_=>#[τ,rfl,h0]
 | d::ds,τ,h0,hs=>by
  obtain ⟨τ1,τ2,e1,F,hf,I⟩:=hs d GG τ h0
  cases a:g d with
  | false =>
   obtain ⟨τ',e,b⟩:=il P g f (ds:=ds) (τ:=τ2) (hf a) λd hd=>hs d (GH _ hd)
   refine #[τ',?_,b]
   unfold bG
   rw[a] at F
   simp[e1,ag,F,e,List.filter_cons,a]
  | true =>
   obtain ⟨r,τ3,p,τ4,i,k,j,h⟩:=I a
   obtain ⟨τ',e,b⟩:=il P g f (ds:=ds) (τ:=τ4) h λd hd=>hs d (GH _ hd)
   refine #[τ',?_,b]
   unfold bG
   rw[a] at F
   simp[e1,ag,F,i,k,e,List.filter_cons,a,aY,j]
abbrev Tri:=Nat×Nat×Nat
def mM (i j m:Nat):List Tri:=(List.range m).map λk=>(i,j,j+1+k)
def jX (n i m:Nat):List Tri:=(List.range m).flatMap λj=>mM i (i+1+j) (n - (i+1+j+1))
def ot (n m:Nat):List Tri:=(List.range m).flatMap λi=>jX n i (n - (i+1))
def fk (n:Nat):List Tri:=ot n n
theorem p6 (i j m:Nat):(mM i j m).length=m:=by simp[mM]
theorem nq (n i m:Nat):jX n i (m+1)=jX n i m++mM i (i+1+m) (n - (i+1+m+1)):=by simp[jX,List.range_succ,List.flatMap_append]
theorem nt (n m:Nat):ot n (m+1)=ot n m++jX n m (n - (m+1)):=by simp[ot,List.range_succ,List.flatMap_append]
theorem zq {i j m:Nat} {t:Tri} (h:t∈mM i j m):t.1=i/\t.2.1=j/\j < t.2.2/\t.2.2 < j+1+m:=by
 obtain ⟨k,a,rfl⟩:=GX.mp h
 grind
theorem js {n:Nat} {t:Tri} (h:t∈fk n):t.1 < t.2.1/\t.2.1 < t.2.2/\t.2.2 < n:=by
 obtain ⟨i,hi,h⟩:=Hr.mp h
 obtain ⟨j,a,h⟩:=Hr.mp h
 rw[List.mem_range] at hi a
 obtain ⟨h1,h2,h3,b⟩:=zq h
 exact #[by lia,by lia,by lia]
theorem uz (n i m:Nat):(jX n i m).length<=m * n:=by
 induction m with
 | zero=>simp[jX]
 | succ m ih=>rw[nq,Hc,p6,Nat.succ_mul];lia
theorem Bm (n m:Nat):(ot n m).length<=m * (n * n):=by
 induction m with
 | zero=>simp[ot]
 | succ m ih =>
  rw[nt,Hc,Nat.succ_mul]
  have:=uz n m (n - (m+1))
  have h2:(n - (m+1)) * n<=n * n:=Nat.mul_le_mul (by lia) (GZ _)
  lia
theorem sJ {n m:Nat} (a:n<=25) (hm:m<=25):(ot n m).length<=15625:=by
 have h1:=Bm n m
 have h2:n * n<=25 * 25:=Nat.mul_le_mul a a
 have h3:m * (n * n)<=25 * (25 * 25):=Nat.mul_le_mul hm h2
 lia
theorem sI {n i m:Nat} (a:n<=25) (hm:m<=25):(jX n i m).length<=625:=by
 have h1:=uz n i m
 have h2:m * n<=25 * 25:=Nat.mul_le_mul hm a
 lia
abbrev Td (t:Tri):L3.D:=.tup [.int t.1,.int t.2.1,.int t.2.2]
abbrev Shd (ps:List Pt):L3.D:=.tup (ps.map Pd)
theorem bp {im:IM} {bnd:L3.D->Sto->Option Sto} {c:M3 Bool} {elt:EM} {ix:List (Option Nat)} {Z Z1 Z2 τ:Sto} {rs:List R3} {ds out:List L3.D} (h1:im Z=some (.ok (rs,ds),Z1)) (h2:bG bnd c elt ds (tV ix (aJ cR (us Z1 (pls rs)) Z1))=some (.ok out,τ)) (h3:ds.length < 16777216) (a:uncap ix τ (aJ cR (us Z1 (pls rs)) Z1)=some Z2) :
  bE im bnd c elt ix Z=some (.ok (.val (.lst out) .u),aJ gi (us Z1 (pls rs)) Z2):=by
 simp[bE,ag,h1,h2,h3,a]
theorem rT:∀ {ds:List L3.D},(∀ d∈ds,d=.bl true)->iN ds=some (List.replicate ds.length true)
 | [],_=>rfl
 | d::ds,h=>by
  have h1:=h d GG
  subst h1
  have h2:=rT λd hd=>h d (GH _ hd)
  simp[iN,h2,List.replicate_succ]
theorem n4 {ds:List L3.D} (h:∀ d∈ds,d=.bl true):Gy (.lst ds)=#v[.bl true]:=by
 simp[Gy,rT h]
theorem vH {xs:List L3.D} {i:Nat} {d:L3.D} (h:xs[i]?=some d):L2.atI xs (i:Int)=some d:=by
 obtain ⟨h1,h2⟩:=GU.mp h
 simp[L2.atI,ixN,h1,h2]
theorem xu {ps:List Pt} {i:Nat} {p:Pt} (h:ps[i]?=some p):L2.atI (ps.map Pd) (i:Int)=some (Pd p):=vH (by simp[h])
theorem zJ {f:List L3.D->Option (List L3.D)} {ms:M3 (List R3)} {Z Z1 Z2:Sto} {rs:List R3} {ds xs:List L3.D} (h1:ms Z=some (.ok rs,Z1)) (h2:dz rs Z1=some (.ok ds,Z2)) (h3:f ds=some xs):bF f ms Z=some (.ok ([],xs),Z2):=by
 simp[bF,ag,h1,h2,h3,a9]
theorem oA {a b:Int} (f:-1000<=a/\a<=1000) (e:-1000<=b/\b<=1000) {n:Nat} (d:(b - a).toNat=n):jl [.int a,.int b]=some (bm a n):=by
 have lm:gb a=true:=G7 (by lia)
 have c:gb b=true:=G7 (by lia)
 show (if (gb a && gb b)=true then some (bm a (b - a).toNat) else none)=_
 rw[lm,c,d]
 exact if_pos rfl
theorem c8 {b:Int} (d:-1000<=b/\b<=1000) {n:Nat} (c:b.toNat=n):dn [.int b]=some (bm 0 n):=by
 have a:gb b=true:=G7 (by lia)
 show (if (gb b)=true then some (bm 0 b.toNat) else none)=_
 rw[a,c]
 exact if_pos rfl
section
variable {α:Type} {Z Z1 Z2 Z3:Sto} {ma mb mc m:EM} {ms:M3 (List R3)} {ra rb r:R3} {rs:List R3} {da db d:L3.D} {ds:List L3.D} {fl:Fl} {i n np:Nat} {sa sb:SM} {c cc:M3 Bool} {b b2:Bool} {x:Option (Except L3.D Flw×Sto)} {y:Option (Except L3.D R3×Sto)}
theorem ae {p:L3.D×Fl} (h:(Z[i]?).join=some p):ac i Z=some (.ok (.pl i),Z):=by simp[ac,h]
theorem i_c:mC d Z=some (.ok (.val d .z),Z):=rfl
theorem am {f:L3.D->L3.D->Option (L3.D×Fl)} (h1:ma Z=some (.ok ra,Z1)) (h2:mb Z1=some (.ok rb,Z2)) (h3:der ra Z2=some (.ok da,Z2)) (b:der rb Z2=some (.ok db,Z2)) (a:f da db=some (d,fl)):ah f ma mb Z=some (.ok (.val d fl),Z2):=by
 simp only[ah,ag,h1,h2,h3,b,a9,a,Hf]
theorem mP {f:L3.D->Option (L3.D×Fl)} (h1:ma Z=some (.ok ra,Z1)) (h3:der ra Z1=some (.ok da,Z1)) (a:f da=some (d,fl)):mUn f ma Z=some (.ok (.val d fl),Z1):=by
 simp only[mUn,ag,h1,h3,a9,a,Hf]
theorem aB {f:List L3.D->Option (L3.D×Fl)} (h1:ms Z=some (.ok rs,Z1)) (h3:dz rs Z1=some (.ok ds,Z1)) (a:f ds=some (d,fl)):av f ms Z=some (.ok (.val d fl),Z1):=by
 simp only[av,ag,h1,h3,a9,a,Hf]
theorem aq:ai Z=some (.ok [],Z):=rfl
theorem af (h1:m Z=some (.ok r,Z1)) (h2:ms Z1=some (.ok rs,Z2)):aa m ms Z=some (.ok (r::rs),Z2):=by
 simp only[aa,ag,h1,h2,aY]
theorem bN {mk:List L3.D->L3.D} {f:Fl} (h1:ms Z=some (.ok rs,Z1)) (h2:gives rs Z1=some (.ok ds,Z2)) (h3:ds.length<=16777216):Cm mk f ms Z=some (.ok (.val (mk ds) f),Z2):=by
 simp only[Cm,ag,h1,h2,a9,h3,if_true,Hf]
theorem au {F:Fn} {ps qs:List (L3.D×Fl)} (a:F ps=some (.ok (d,fl),qs)) (h1:ms Z=some (.ok rs,Z1)) (h2:prs (frz (qY rs) Z1) rs=some ps) (h3:qs.length=ps.length) (b:back rs ps qs (frz (qY rs) Z1)=Z2):aw F ms Z=some (.ok (.val d fl),Z2):=by
 simp only[aw,ag,h1,h2,a,h3,if_true,b]
theorem cK {p:L3.D×Fl} (h1:m Z=some (.ok r,Z1)) (h2:fm r Z1=some (.ok p,Z2)) (h3:i < Z2.length) (a:Z2.set i (some p)=Z3):aV i m Z=some (.ok .nx,Z3):=by
 simp only[aV,ag,h1,h2,h3,if_true,a]
theorem i_asg {bnd:L3.D->Sto->Option Sto} {p:L3.D×Fl} (h1:m Z=some (.ok r,Z1)) (h2:fm r Z1=some (.ok p,Z2)) (h3:bnd p.1 Z2=some Z3):wa bnd m Z=some (.ok .nx,Z3):=by
 simp only[wa,ag,h1,h2,h3,Hf]
theorem tK (h1:m Z=some (.ok r,Z1)):jj m Z=some (.ok .nx,Z1):=by
 simp only[jj,ag,h1,aY]
def retF (np:Nat) (r:R3):SM:=aN np (aY r)
theorem bf (h1:m Z=some (.ok r,Z1)) (h2:retF np r Z1=x):aN np m Z=x:=by
 rw[<- h2]
 unfold retF
 simp only[aN,ag,h1,aY]
theorem bU (h1:sa Z=some (.ok (.rt d fl),Z1)):aE sa sb Z=some (.ok (.rt d fl),Z1):=by
 simp only[aE,ag,h1,aY]
theorem aO (h1:m Z=some (.ok r,Z1)) (h2:der r Z1=some (.ok (.bl b),Z1)):cB m Z=some (.ok b,Z1):=by
 simp only[cB,ag,h1,h2,a9,asB,Hf]
theorem bo (h1:c Z=some (.ok b,Z1)):fj c Z=some (.ok (!b),Z1):=by
 simp only[fj,ag,h1,aY]
theorem b7 (h1:c Z=some (.ok b,Z1)) (a:b=true) (h2:sa Z1=x):sIf c sa sb Z=x:=by
 subst a;simp only[sIf,ag,h1,if_true];exact h2
theorem aU (h1:c Z=some (.ok b,Z1)) (a:b=false) (h2:sb Z1=x):sIf c sa sb Z=x:=by
 subst a;simp only[sIf,ag,h1,Hi,if_false];exact h2
theorem fv (h1:c Z=some (.ok b,Z1)) (a:b=false) (h2:cc Z1=some (.ok b2,Z2)):cOr c cc Z=some (.ok b2,Z2):=by
 subst a;simp only[cOr,ag,h1,Hi,if_false];exact h2
theorem vd (h1:c Z=some (.ok b,Z1)) (a:b=true):cOr c cc Z=some (.ok true,Z1):=by
 subst a;simp only[cOr,ag,h1,if_true];rfl
theorem o4 (h1:c Z=some (.ok b,Z1)) (a:b=true) (h2:cc Z1=some (.ok b2,Z2)):rO c cc Z=some (.ok b2,Z2):=by
 subst a;simp only[rO,ag,h1,if_true];exact h2
theorem zK (h1:c Z=some (.ok b,Z1)) (a:b=false):rO c cc Z=some (.ok false,Z1):=by
 subst a;simp only[rO,ag,h1,Hi,if_false];rfl
theorem lg (h1:ma Z=some (.ok r,Z1)) (h2:der r Z1=some (.ok (.bl b),Z1)) (a:b=true) (h3:mb Z1=y):iJ ma mb Z=y:=by
 subst a;simp only[iJ,ag,h1,h2,a9,asB,Hf,if_true];exact h3
theorem CA (h1:ma Z=some (.ok r,Z1)) (h2:der r Z1=some (.ok (.bl b),Z1)) (a:b=false):iJ ma mb Z=some (.ok (.val (.bl false) .z),Z1):=by
 subst a;simp only[iJ,ag,h1,h2,a9,asB,Hf,Hi,if_false];rfl
theorem F3 (h1:c Z=some (.ok b,Z1)) (a:b=true) (h2:ma Z1=y):mIf c ma mb Z=y:=by
 subst a;simp only[mIf,ag,h1,if_true];exact h2
theorem F4 (h1:c Z=some (.ok b,Z1)) (a:b=false) (h2:mb Z1=y):mIf c ma mb Z=y:=by
 subst a;simp only[mIf,ag,h1,Hi,if_false];exact h2
theorem FY {f:L3.D->Option Int->Option Int->Option (L3.D×Fl)} {pl pu:M3 (Option Int)} {lo hi:Option Int} (h1:ma Z=some (.ok ra,Z1)) (h2:pl Z1=some (.ok lo,Z2)) (h3:pu Z2=some (.ok hi,Z3)) (b:der ra Z3=some (.ok da,Z3)) (a:f da lo hi=some (d,fl)):mSl f ma pl pu Z=some (.ok (.val d fl),Z3):=by
 simp only[mSl,ag,h1,h2,h3,b,a9,a,Hf]
theorem o3:qh Z=some (.ok none,Z):=rfl
theorem o0 {k:Int} (h1:m Z=some (.ok r,Z1)) (h2:der r Z1=some (.ok (.int k),Z1)):nz m Z=some (.ok (some k),Z1):=by
 simp only[nz,ag,h1,h2,a9,asI,Hf]
theorem Do {ok:L3.D->Bool} {f:L3.D->List L3.D->Option (L3.D×L3.D)} {b a c:L3.D} (h0:(Z[i]?).join=some (d,fl)) (g:ok d=true) (h1:ms Z=some (.ok rs,Z1)) (h2:gives rs Z1=some (.ok ds,Z2)) (h3:(Z2[i]?).join=some (b,.u)) (h:f b ds=some (a,c)) (e:Z2.set i (some (a,.u))=Z3):qC ok f i ms Z=some (.ok (.val c .z),Z3):=by
 simp only[qC,ag,ae h0,chk,h0,g,if_true,h1,h2,h3,h,e]
theorem qS {f:L3.D->List L3.D->Option (L3.D×L3.D)} {b a g:L3.D} (h1:mb Z=some (.ok rb,Z1)) (h0:(Z1[i]?).join=some (d,fl)) (h2:ma Z1=some (.ok ra,Z2)) (h3:gives [ra,rb] Z2=some (.ok ds,Z3)) (e:(Z3[i]?).join=some (b,.u)) (c:f b ds=some (a,g)):kO f i ma mb Z=some (.ok .nx,Z3.set i (some (a,.u))):=by
 simp only[kO,ag,h1,ae h0,h2,h3,e,c]
theorem FZ {ok:L3.D->Bool} {f:List L3.D->Option (L3.D×Fl)} {a:L3.D} (h1:ma Z=some (.ok ra,Z1)) (h2:der ra Z1=some (.ok a,Z1)) (c:ok a=true) (h3:ms Z1=some (.ok rs,Z2)) (e:dz (ra::rs) Z2=some (.ok ds,Z2)) (b:f ds=some (d,fl)):qD ok f ma ms Z=some (.ok (.val d fl),Z2):=by
 simp only[qD,ag,h1,h2,c,if_true,h3,e,a9,b,Hf]
theorem aQ {mask:List Bool} {ps qs:List (L3.D×Fl)} (h1:ps.length=mask.length) (h0:kM n (List.zipWith wH mask ps)=Z) (h2:sa Z=some (.ok (.rt d fl),Z1)) (h3:fS Z1 0 (List.zipWith wH mask ps)=some qs):fnM mask n sa ps=some (.ok (d,fl),qs):=by
 subst h0;simp only[fnM,h1,if_true,fn0,h2,h3,Hf]
theorem F_nx {mask:List Bool} {ps qs:List (L3.D×Fl)} (h1:ps.length=mask.length) (h0:kM n (List.zipWith wH mask ps)=Z) (h2:sa Z=some (.ok .nx,Z1)) (h3:fS Z1 0 (List.zipWith wH mask ps)=some qs):fnM mask n sa ps=some (.ok (.non,.z),qs):=by
 subst h0;simp only[fnM,h1,if_true,fn0,h2,h3,Hf]
theorem fZ {i j:Int} (h:-18446744073709551616 < i/\i < 18446744073709551616):eA (.int i) (.int j)=#v[.int (i * j)]:=by
 simp[fg,h]
theorem zo {i j:Int} (h:-18446744073709551616 < j/\j < 18446744073709551616):eA (.int i) (.int j)=#v[.int (i * j)]:=by
 simp[fg,h]
theorem cS {im:IM} {bnd:L3.D->Sto->Option Sto} {o:Except L3.D Flw} (h1:im Z=some (.ok (rs,ds),Z1)) (a:us Z1 (pls rs)=[]) (h2:cL bnd sb ds Z1=some (o,Z2)):cj im bnd sb Z=some (o,Z2):=by
 have b:∀ f Z,aJ f [] Z=Z:=λ_ _=>rfl
 simp only[cj,ag,h1,a,b,h2,Hf]
theorem i7 {im:IM} {bnd:L3.D->Sto->Option Sto} {o:Except L3.D Flw} {is:List Nat} (h1:im Z=some (.ok (rs,ds),Z1)) (a:us Z1 (pls rs)=is) (h2:cL bnd sb ds (aJ cR is Z1)=some (o,Z2)):cj im bnd sb Z=some (o,aJ gi is Z2):=by
 simp only[cj,ag,h1,a,h2,Hf]
theorem dW (h1:m Z=some (.ok r,Z1)) (h2:der r Z1=some (.ok d,Z1)) (h3:Db d=some ds):bZ m Z=some (.ok ([r],ds),Z1):=by
 simp only[bZ,ag,h1,h2,a9,h3,Hf]
theorem eV {f:List L3.D->Option (List L3.D)} {xs:List L3.D} (h1:ms Z=some (.ok rs,Z1)) (h2:dz rs Z1=some (.ok ds,Z1)) (h3:f ds=some xs):bF f ms Z=some (.ok ([],xs),Z1):=zJ h1 h2 h3
end
theorem cM {α:Type} {bnd:L3.D->Sto->Option Sto} {c:M3 Bool} {elt:EM} (P:Sto->Prop) (D:α->L3.D) (g:α->Bool) (f:α->L3.D):∀ {xs:List α} {τ:Sto},P τ ->
  (∀ x∈xs,∀ τ,P τ->∃ τ1 τ2,bnd (D x) τ=some τ1/\c τ1=some (.ok (g x),τ2)/\(g x=false->P τ2)/\(g x=true->∃ r τ3 p τ4,elt τ2=some (.ok r,τ3)/\fm r τ3=some (.ok p,τ4)/\p.1=f x/\P τ4)) ->
  ∃ τ',bG bnd c elt (xs.map D) τ=some (.ok ((xs.filter g).map f),τ')/\P τ'
 | [],τ,h0,_=>#[τ,rfl,h0]
 | x::xs,τ,h0,hs=>by
  obtain ⟨τ1,τ2,e1,F,hf,I⟩:=hs x GG τ h0
  cases a:g x with
  | false =>
   obtain ⟨τ',e,b⟩:=cM P D g f (xs:=xs) (τ:=τ2) (hf a) λd hd=>hs d (GH _ hd)
   refine #[τ',?_,b]
   rw[G6]
   unfold bG
   rw[a] at F
   simp[e1,ag,F,e,List.filter_cons,a]
  | true =>
   obtain ⟨r,τ3,p,τ4,i,k,j,h⟩:=I a
   obtain ⟨τ',e,b⟩:=cM P D g f (xs:=xs) (τ:=τ4) h λd hd=>hs d (GH _ hd)
   refine #[τ',?_,b]
   rw[G6]
   unfold bG
   rw[a] at F
   simp[e1,ag,F,i,k,e,List.filter_cons,a,aY,j]
section
variable {α:Type} {P:List α->Prop} {us:List α}
theorem bnd0 (h:us.length=0) (f:P []):P us:=by
 cases us with
 | nil=>exact f
 | cons a us=>cases h
theorem CS {n:Nat} (h:us.length=n+1) (f:∀ a r,r.length=n->P (a::r)):P us:=by
 cases us with
 | nil=>cases h
 | cons a us=>exact f a us (Nat.succ.inj h)
theorem bnd1 (h:us.length=1) (f:∀ a,P [a]):P us:=CS h λa _ h=>bnd0 (P:=λr=>P (a::r)) h (f a)
theorem bnd2 (h:us.length=2) (f:∀ a b,P [a,b]):P us:=CS h λa _ h=>bnd1 (P:=λr=>P (a::r)) h (f a)
theorem bnd3 (h:us.length=3) (f:∀ a b c,P [a,b,c]):P us:=CS h λa _ h=>bnd2 (P:=λr=>P (a::r)) h (f a)
theorem bnd4 (h:us.length=4) (f:∀ a b c d,P [a,b,c,d]):P us:=CS h λa _ h=>bnd3 (P:=λr=>P (a::r)) h (f a)
end
theorem hb1 {x:Str} {st:Stmt} {b:Str} (f:∀ (kV doc pm:Value) (an:Option Addr) (a ct c:Value),bindArgs (PySem.W.fnOf x x (aX st) (aR st) (aj st) .none kV doc pm an a ct) #[[c],[]]=pure ([b].zip [c])) (kV doc pm:Value) (an:Option Addr) (a ct:Value) (us:List Value) (d:us.length=[b].length):bindArgs (PySem.W.fnOf x x (aX st) (aR st) (aj st) .none kV doc pm an a ct) #[us,[]]=pure ([b].zip us) :=
 bnd1 (P:=λus=>bindArgs (PySem.W.fnOf x x (aX st) (aR st) (aj st) .none kV doc pm an a ct) #[us,[]]=pure ([b].zip us)) d (f kV doc pm an a ct)
theorem hb2 {x:Str} {st:Stmt} {b c:Str} (f:∀ (kV doc pm:Value) (an:Option Addr) (a ct d a1:Value),bindArgs (PySem.W.fnOf x x (aX st) (aR st) (aj st) .none kV doc pm an a ct) #[[d,a1],[]]=pure ([b,c].zip [d,a1])) (kV doc pm:Value) (an:Option Addr) (a ct:Value) (us:List Value) (e:us.length=[b,c].length):bindArgs (PySem.W.fnOf x x (aX st) (aR st) (aj st) .none kV doc pm an a ct) #[us,[]]=pure ([b,c].zip us) :=
 bnd2 (P:=λus=>bindArgs (PySem.W.fnOf x x (aX st) (aR st) (aj st) .none kV doc pm an a ct) #[us,[]]=pure ([b,c].zip us)) e (f kV doc pm an a ct)
theorem hb3 {x:Str} {st:Stmt} {c b p2:Str} (f:∀ (kV doc pm:Value) (an:Option Addr) (a ct d a1 a2:Value),bindArgs (PySem.W.fnOf x x (aX st) (aR st) (aj st) .none kV doc pm an a ct) #[[d,a1,a2],[]]=pure ([c,b,p2].zip [d,a1,a2])) (kV doc pm:Value) (an:Option Addr) (a ct:Value) (us:List Value) (e:us.length=[c,b,p2].length):bindArgs (PySem.W.fnOf x x (aX st) (aR st) (aj st) .none kV doc pm an a ct) #[us,[]]=pure ([c,b,p2].zip us) :=
 bnd3 (P:=λus=>bindArgs (PySem.W.fnOf x x (aX st) (aR st) (aj st) .none kV doc pm an a ct) #[us,[]]=pure ([c,b,p2].zip us)) e (f kV doc pm an a ct)
theorem hb4 {x:Str} {st:Stmt} {d c p2 b:Str} (f:∀ (kV doc pm:Value) (an:Option Addr) (a ct g a1 a2 e:Value),bindArgs (PySem.W.fnOf x x (aX st) (aR st) (aj st) .none kV doc pm an a ct) #[[g,a1,a2,e],[]]=pure ([d,c,p2,b].zip [g,a1,a2,e])) (kV doc pm:Value) (an:Option Addr) (a ct:Value) (us:List Value) (h:us.length=[d,c,p2,b].length):bindArgs (PySem.W.fnOf x x (aX st) (aR st) (aj st) .none kV doc pm an a ct) #[us,[]]=pure ([d,c,p2,b].zip us) :=
 bnd4 (P:=λus=>bindArgs (PySem.W.fnOf x x (aX st) (aR st) (aj st) .none kV doc pm an a ct) #[us,[]]=pure ([d,c,p2,b].zip us)) h (f kV doc pm an a ct)
end Bn
end
section
namespace L3
open PySem L2
def tgN:Expr->List Str
 | .Name x _=>[x]
 | .Tuple [.Name x _,.Name y _] _ _=>[x,y]
 | .Tuple [.Name x _,.Name y _,.Name z _] _ _=>[x,y,z]
 | _=>[]
def qk (tg:Expr) (N:List Str) (ix:List (Option Nat)):List Str:=tgN tg++ix.filterMap λo=>o.bind λi=>N[i]?
def ndB:List Str->Bool
 | []=>true
 | x::xs=>!(xs.any λy=>decide (y=x)) && ndB xs
theorem qm:∀ {xs:List Str},ndB xs=true->xs.Nodup
 | [],_=>.nil
 | x::xs,h=>by
  simp only[ndB,Bool.and_eq_true,Bool.not_eq_true',List.any_eq_false,decide_eq_true_eq] at h
  exact List.nodup_cons.mpr #[λm=>h.1 x m rfl,qm h.2]
section
variable {X:Cx} {G0:Gm} {W0:D->Sto->Prop} {pos:Pos}
theorem yC (d:X.calm=true) (hi:RI X G0 W0 tg iter im) (e:∀ s H C fp,PTs (aM X (qk tg X.N ix) scope s H C fp) ifs (tT X.K (bx ix) noX cm)) (he:∀ s H C fp,RE (aM X (qk tg X.N ix) scope s H C fp) (bx ix) noX elt em) (f:ik scope X.N X.env.scope (qk tg X.N ix) ix=true) (b:Inj ix) (c:∀ x,foldedSetIterable iter X.env x=pure x) (a:∃ D,Bnd X.K (bx ix).pr D bnd/\∀ s H C fp,PG (aM X (qk tg X.N ix) scope s H C fp) tg D):RE X G0 W0 (.ListComp elt [#[tg,iter,ifs,0]] scope pos) (bE im bnd cm em ix) :=
 Bv _ ix d hi e he f b c a
theorem kE {i:Nat} (l:X.N.Nodup) (g:X.N[i]?=some y) (j:Loc X.env.scope y) (k:X.calm=true) (hi:RI X G0 W0 tg iter im) (e:∀ s H C fp,PTs (aM X (qk tg X.N ix) scope s H C fp) ifs (tT X.K (bx ix) noX cm)) (he:∀ s H C fp,RE (aM X (qk tg X.N ix) scope s H C fp) (bx ix) noX elt em) (f:ik scope X.N X.env.scope (qk tg X.N ix) ix=true) (a:Inj ix) (c:swapsWith (.ListComp elt [#[tg,iter,ifs,0]] scope pos) (some (.Name y py)) spos.line X.env=pure true) (hf:X.fn y=true\/X.env.scope.names.lookup y=some .local) (d:∀ x,foldedSetIterable iter X.env x=pure x) (h:G0.pr i=false) (b:∃ D,Bnd X.K (bx ix).pr D bnd/\∀ s H C fp,PG (aM X (qk tg X.N ix) scope s H C fp) tg D):RS X G0 W0 (.Assign [.Name y py] (.ListComp elt [#[tg,iter,ifs,0]] scope pos) spos) (aV i (bE im bnd cm em ix)) :=
 sH l g j _ ix k hi e he f a c hf d h b
end
section
variable {X:Cx} {G0:Gm} {W0:D->Sto->Prop} {p q r:Pos} {m:EM} {e e1:Expr} {es:List Expr} {t:M3 Bool} {sm:SM}
theorem gN {i:Nat} (h:RE X G0 W0 (.Name x p) (ac i)):RE X G0 W0 (.Name x p) (ac i):=h
theorem gG (h:RE X G0 W0 (.Name x p) (mC d)):RE X G0 W0 (.Name x p) (mC d):=h
theorem gK {k:Nat} (h:RE X G0 W0 (.Constant c k p) m):RE X G0 W0 (.Constant c k p) m:=h
theorem gB (op:Operator) (h:RE X G0 W0 (.BinOp e op e1 p) m):RE X G0 W0 (.BinOp e op e1 p) m:=h
theorem gU (op:UnaryOp) (h:RE X G0 W0 (.UnaryOp op e p) m):RE X G0 W0 (.UnaryOp op e p) m:=h
theorem gP (os:List CmpOp) (h:RE X G0 W0 (.Compare e os es p) m):RE X G0 W0 (.Compare e os es p) m:=h
theorem gO (h:RE X G0 W0 (.BoolOp op es p) m):RE X G0 W0 (.BoolOp op es p) m:=h
theorem gS (h:RE X G0 W0 (.Subscript e e1 p) m):RE X G0 W0 (.Subscript e e1 p) m:=h
theorem gL (h:RE X G0 W0 (.Subscript e (.Slice a b c p) q) m):RE X G0 W0 (.Subscript e (.Slice a b c p) q) m:=h
theorem gI (x:Str) (h:RE X G0 W0 (.Call (.Name s p) [e,.Name x q] [] r) m):RE X G0 W0 (.Call (.Name s p) [e,.Name x q] [] r) m:=h
theorem gC (x:Str) (h:RE X G0 W0 (.Call (.Name x p) es ks q) m):RE X G0 W0 (.Call (.Name x p) es ks q) m:=h
theorem gD (h:RE X G0 W0 (.Call (.Name x p) es ks q) m):RE X G0 W0 (.Call (.Name x p) es ks q) m:=h
theorem gM (x:Str) (h:RE X G0 W0 (.Call (.Attribute e x p) es ks q) m):RE X G0 W0 (.Call (.Attribute e x p) es ks q) m:=h
theorem gE (h:RE X G0 W0 e m):RE X G0 W0 e m:=h
theorem gA (h:RA X G0 W0 es ms):RA X G0 W0 es ms:=h
theorem gQ (os:List CmpOp) (h:RT X G0 W0 (.Compare e os es p) t):RT X G0 W0 (.Compare e os es p) t:=h
theorem gW (h:RT X G0 W0 (.BoolOp op es p) t):RT X G0 W0 (.BoolOp op es p) t:=h
theorem gV (h:RT X G0 W0 (.UnaryOp .Not e p) t):RT X G0 W0 (.UnaryOp .Not e p) t:=h
theorem gT (h:RT X G0 W0 e t):RT X G0 W0 e t:=h
theorem gR (h:RS X G0 W0 (.Return o p) sm):RS X G0 W0 (.Return o p) sm:=h
theorem gF (h:RS X G0 W0 (.If e ss tt p) sm):RS X G0 W0 (.If e ss tt p) sm:=h
theorem gX (h:RS X G0 W0 (.Assign [.Name x p] e q) sm):RS X G0 W0 (.Assign [.Name x p] e q) sm:=h
theorem gZ (h:RS X G0 W0 st sm):RS X G0 W0 st sm:=h
theorem gY (h:RSs X G0 W0 ss sm):RSs X G0 W0 ss sm:=h
end
end L3
end
section
namespace Bn
open PySem L2 L3
local macro_rules | `(tactic| infer_instance)=>`(tactic| first | with_reducible apply ae | with_reducible exact i_c | with_reducible apply am | with_reducible apply mP | with_reducible apply aB | with_reducible exact aq | with_reducible apply af | with_reducible apply bN | with_reducible apply cK | with_reducible apply i_asg | with_reducible apply tK | with_reducible apply bf | with_reducible exact i_nilS | with_reducible apply aO | with_reducible apply bo | with_reducible apply i_mNot | with_reducible apply FY | with_reducible exact o3 | with_reducible apply o0 | with_reducible apply Do | with_reducible apply qS | with_reducible apply dW | with_reducible apply eV | with_reducible apply lg | with_reducible apply fv)
local macro_rules | `(tactic| eq_refl)=>`(tactic| first | exact rfl | exact Nat.le_of_ble_eq_true rfl)
local macro_rules | `(tactic| nofun) => `(tactic| repeat' (first | infer_instance | eq_refl))
local macro_rules | `(tactic| exists $es,*) => `(tactic| repeat' (first | infer_instance | (first $[| exact $es]*) | eq_refl))
local macro_rules | `(tactic| nomatch [$fs,*]) => `(tactic| repeat' (first | infer_instance | (first $[| with_reducible apply au $fs]*) | eq_refl))
local macro_rules | `(tactic| nomatch [$fs,*], [$es,*]) => `(tactic| repeat' (first | infer_instance | (first $[| with_reducible apply au $fs]*) | (first $[| exact $es]*) | eq_refl))
section
variable {P:Program} {w:World} {K:FG} {mg:Str->Option Value} {base:Heap}
local macro_rules | `(tactic| ac_rfl) => `(tactic| exact ⟨rfl,rfl,rfl,by decide +kernel,rfl,by decide +kernel,by decide +kernel⟩)
set_option hygiene false
local macro_rules | `(tactic| and_intros)=>`(tactic| repeat' (first
 | ((with_reducible apply gA);first | refine Bx ?_ ?_ rfl | refine EN)
 | ((with_reducible apply gN);first | refine oC _ rfl (Or.inl rfl) (by decide) (by decide) | refine oC _ rfl (Or.inr (Or.inl rfl)) (by decide) (by decide))
 | ((with_reducible apply gG);refine p8 rfl (by assumption) (by decide))
 | ((with_reducible apply gK);first | refine EH | refine re_bl | refine EF | refine EC)
 | ((with_reducible apply gL);refine yA ?_ ?_ ?_)
 | ((with_reducible apply gS);refine re_ix (FX hr.hu) Fs ?_ ?_ (λ_ _=>rfl))
 | ((with_reducible apply gB .Add);refine j3 BV Fv ?_ ?_)
 | ((with_reducible apply gB .Mult);refine j3 Fo B5 ?_ ?_)
 | ((with_reducible apply gB .Sub);refine j3 Fi B2 ?_ ?_)
 | ((with_reducible apply gB .FloorDiv);refine j3 zb B8 ?_ ?_)
 | ((with_reducible apply gB .Mod);refine j3 Fp B6 ?_ ?_)
 | ((with_reducible apply gB .Pow);refine j3 Fj B3 ?_ ?_)
 | ((with_reducible apply gQ [.Eq]);refine iQ (zc hr.units) zg ?_ ?_ (eZ _))
 | ((with_reducible apply gQ [.NotEq]);refine iQ (Fm hr.units) Ft ?_ ?_ (eZ _))
 | ((with_reducible apply gQ [.Lt]);refine iQ uT zf ?_ ?_ (eZ _))
 | ((with_reducible apply gQ [.Gt]);refine iQ Di Dj ?_ ?_ (eZ _))
 | ((with_reducible apply gQ [.LtE]);refine iQ lX uU ?_ ?_ (eZ _))
 | ((with_reducible apply gQ [.NotIn]);refine iQ (BU hr.units) B4 ?_ ?_ (by with_unfolding_all rfl))
 | ((with_reducible apply gQ [.GtE]);refine iQ op_ge od_ge ?_ ?_ (eZ _))
 | ((with_reducible apply gW);refine rt_w ?_)
 | ((with_reducible apply gV);refine Eu ?_)
 | ((with_reducible apply gT);refine Et ?_ (λ_=>rfl))
 | ((with_reducible apply gP [.Eq]);refine oF (zc hr.units) zg ?_ ?_ (eZ _))
 | ((with_reducible apply gP [.Lt]);refine oF uT zf ?_ ?_ (eZ _))
 | ((with_reducible apply gP [.Gt]);refine oF Di Dj ?_ ?_ (eZ _))
 | ((with_reducible apply gP [.LtE,.Lt]);refine p9 lX uU uT zf ?_ ?_ ?_ (λh1 h2 h3=>qg lX uT h1 h2 h3))
 | ((with_reducible apply gP [.LtE,.LtE]);refine p9 lX uU lX uU ?_ ?_ ?_ (λh1 h2 h3=>qg lX lX h1 h2 h3))
 | ((with_reducible apply gP [.Is]);refine oF Fq Fu ?_ ?_ (eZ _))
 | ((with_reducible apply gO);first | refine EK ?_ ?_ | refine ED ?_)
 | ((with_reducible apply gU .Not);refine EE ?_)
 | ((with_reducible apply gU .USub);refine re_un DF DG ?_)
 | ((with_reducible apply gI "tuple");refine oE mH rfl B.isinstance (ld (v:=V.ty "tuple") rfl B.tuple vG rfl (by decide) (by decide)) ?_ rfl rfl rfl)
 | ((with_reducible apply gI "bool");refine oE mU rfl B.isinstance (ld (v:=V.ty "bool") rfl B.bool Gv rfl (by decide) (by decide)) ?_ rfl rfl rfl)
 | ((with_reducible apply gI "int");refine oE po rfl B.isinstance (ld (v:=V.ty "int") rfl B.int b_int rfl (by decide) (by decide)) ?_ rfl rfl rfl)
 | ((with_reducible apply gI "dict");refine oE mT rfl B.isinstance (ld (v:=V.ty "dict") rfl B.dict ue rfl (by decide) (by decide)) ?_ rfl rfl rfl)
 | ((with_reducible apply gC "len");first | refine cx jM Am rfl B.len DB ?_ (by decide) (by decide) rfl rfl | refine cx xi CM rfl B.len DB ?_ (by decide) (by decide) rfl rfl)
 | ((with_reducible apply gC "all");refine cx (Ap rfl) Gn rfl B.all b_all ?_ (by decide) (by decide) rfl rfl)
 | ((with_reducible apply gC "sorted");first | refine yz rfl (Nat.lt_of_le_of_lt (Nat.add_le_add_left (by decide:32<=64) _) hr.units) rfl B.sorted ?_ rfl rfl rfl rfl | refine cx (rC rfl (Nat.lt_of_le_of_lt (Nat.add_le_add_left (by decide:2<=64) _) hr.units)) xa rfl B.sorted rS ?_ (by decide) (by decide) rfl rfl)
 | ((with_reducible apply gC "dict");first | refine iG (rE rfl (Nat.lt_of_le_of_lt (Nat.add_le_add_left (by decide:2<=64) _) hr.units)) An rfl B.dict ue ?_ (by decide) (by decide) rfl rfl | refine iG tY CP rfl B.dict ue ?_ (by decide) (by decide) rfl rfl)
 | ((with_reducible apply gC "tuple");refine iG mS Gk rfl B.tuple vG ?_ (by decide) (by decide) rfl rfl)
 | ((with_reducible apply gC "max");refine cx (xh rfl) CL rfl B.max b_max ?_ (by decide) (by decide) rfl rfl)
 | ((with_reducible apply gC "repr");refine cx (pk hr.gd hr.units) (Al S_sys) rfl B.repr Gu ?_ (by decide) (by decide) rfl rfl)
 | ((with_reducible apply gC "abs");refine cx Aq Go rfl B.abs b_abs ?_ (by decide) (by decide) rfl rfl)
 | ((with_reducible apply gC "divmod");refine cx rD xb rfl B.divmod Ay ?_ (by decide) (by decide) rfl rfl)
 | ((with_reducible apply gC "str");refine iG xc CJ rfl B.str b_str ?_ (by decide) (by decide) rfl rfl)
 | ((with_reducible apply gC "min");refine cx (xg rfl) CK rfl B.min b_min ?_ (by decide) (by decide) rfl rfl)
 | ((with_reducible apply gD);refine Bw (by assumption) (hr.mono (by first | decide | omega)) ?_ rfl (by decide) rfl rfl)
 | ((with_reducible apply gM "extend");refine oD (ok:=isL) PySem.F.plainAttrs_list PySem.F.slot_list_extend PySem.F.type_list_extend wx FI zI (lV rfl (Or.inl rfl) (by decide) (by decide)) ?_ rfl rfl rfl rfl rfl)
 | ((with_reducible apply gM "append");refine oD (ok:=isL) PySem.F.plainAttrs_list PySem.F.slot_list_append PySem.F.type_list_append wy FJ zI (lV rfl (Or.inl rfl) (by decide) (by decide)) ?_ rfl rfl rfl rfl rfl)
 | ((with_reducible apply gM "get");refine Bu (ok:=wP) PySem.F.plainAttrs_dict PySem.F.slot_dict_get PySem.F.type_dict_get (FF hr.hu) CO u9 ?_ ?_ rfl rfl rfl rfl rfl)
 | ((with_reducible apply gM "pop");refine oD (ok:=wP) PySem.F.plainAttrs_dict PySem.F.slot_dict_pop PySem.F.type_dict_pop (Ce hr.hu) Ch u9 (lV rfl (Or.inl rfl) (by decide) (by decide)) ?_ rfl rfl rfl rfl rfl)
 | ((with_reducible apply gH);first | refine oC _ rfl (Or.inl rfl) (by decide) (by decide) | refine oC _ rfl (Or.inr (Or.inl rfl)) (by decide) (by decide) | refine p8 rfl (by assumption) (by decide))
 | ((with_reducible apply gE);first | refine EB ?_ | refine EG ?_ | refine yC rfl ?_ (λs H C fp=>?_) (λs H C fp=>?_) (by rfl) (tG (by decide)) (λ_=>rfl) #[_,iq rfl,λs H C fp=>jq (qm rfl) rfl (Or.inl rfl) (Or.inr rfl)] | refine yB | refine re_if ?_ ?_ ?_ | refine EJ (key:=.inr "a") yZ oJ | refine EI (ns:=[0,1]) hr.hu (by decide) (by decide) rfl oJ)
 | ((with_reducible apply gY);first | refine Bg ?_ | refine yp ?_ ?_ | refine Bh)
 | ((with_reducible apply gR);refine Ew _ (λi hi=>by rw[hp] ;exact BI (by simpa using hi)) ?_)
 | ((with_reducible apply gF);refine rs_if ?_ ?_ ?_)
 | ((with_reducible apply gX);first | refine kE nd rfl (Or.inl rfl) rfl ?_ (λs H C fp=>?_) (λs H C fp=>?_) (by rfl) (tG (by decide)) rfl (Or.inl rfl) (λ_=>rfl) (by rw[hp] ;rfl) #[_,vE (kz (iq rfl) (kz (iq rfl) rP)),λs H C fp=>yX (n:=2) rfl (lU (jq (qm rfl) rfl (Or.inl rfl) (Or.inr rfl)) (lU (jq (qm rfl) rfl (Or.inl rfl) (Or.inr rfl)) uP rfl) rfl) rfl rfl] | refine kE nd rfl (Or.inl rfl) rfl ?_ (λs H C fp=>?_) (λs H C fp=>?_) (by rfl) (tG (by decide)) rfl (Or.inl rfl) (λ_=>rfl) (by rw[hp] ;rfl) #[_,iq rfl,λs H C fp=>jq (qm rfl) rfl (Or.inl rfl) (Or.inr rfl)] | refine yr _ nd rfl (Or.inl rfl) ?_ rfl (Or.inl rfl) (by rw[hp] ;rfl) | refine yr _ nd rfl (Or.inr rfl) ?_ rfl (Or.inl rfl) (by rw[hp] ;rfl))
 | ((with_reducible apply gZ);first | refine Ex PassesOwn.never rfl ?_ ?_ ?_ (λ_=>rfl) | refine Ev (A4 hr.hu) FH (lV rfl (Or.inl rfl) (by decide) (by decide)) ?_ ?_ (λ_=>rfl) rfl rfl rfl | refine Bi ?_ rfl | refine Ey ?_ ?_ rfl rfl rfl | refine yt | refine yq PassesOwn.never ?_ ?_)
 | refine uB _ nd rfl (Or.inl rfl) (Or.inl rfl) (by rw[hp] ;rfl)
 | refine Ez ?_
 | refine yw
 | refine Bp rfl B.range ?_ rfl
 | refine rw_or ?_ ?_
 | refine Ep ?_
 | refine yy ?_ ?_ rfl
 | refine uB _ nd rfl (Or.inr rfl) (Or.inl rfl) (by rw[hp] ;rfl)
 | refine Bo rfl B.range ?_ rfl rfl
 | refine Bs
 | refine EA rfl ?_ rfl rfl
 | refine yx ?_
 | refine Bj ?_
 | refine Bk
 | refine A7 ?_
 | refine Er ?_ ?_
 | refine Bq ?_
 | refine Br rfl B.enumerate ?_ rfl))
local macro_rules | `(tactic| specialize $q) => `(tactic| exact aL D $q rfl rfl (by first | exact hb1 λ_ _ _ _ _ _ _=>rfl | exact hb2 λ_ _ _ _ _ _ _ _=>rfl | exact hb3 λ_ _ _ _ _ _ _ _ _=>rfl | exact hb4 λ_ _ _ _ _ _ _ _ _ _=>rfl) λcdv A outer s H E f G hr hp=>have nd:=($q).nd;by and_intros)
set_option hygiene true
def td:SM:=(aN 1 (iJ (mUn (i6 "int") (ac 0)) (Cn (mUn (i6 "bool") (ac 0)))))
def bv:Fn:=fnM [false] 1 td
theorem sc_is_whole:FnScope ["thing"] ["thing"] (aj fH):=by ac_rfl
theorem pq (B:Bl mg) (D:Def K mg "is_whole" fH):aF P w K mg base "is_whole" 1 ["thing"] bv :=by specialize sc_is_whole
def tj:SM:=(aN 1 (iJ (mUn (i6 "tuple") (ac 0)) (iJ (ah eqX (av eF (aa (ac 0) ai)) (mC (.int 2))) (iJ (aw bv (aa (ah aA (ac 0) (mC (.int 0))) ai)) (aw bv (aa (ah aA (ac 0) (mC (.int 1))) ai))))))
def fW:Fn:=fnM [false] 1 tj
theorem sc_is_point:FnScope ["thing"] ["thing"] (aj fJ):=by ac_rfl
theorem pA (B:Bl mg) (D:Def K mg "is_point" fJ) (a:aF P w K mg base "is_whole" 1 ["thing"] bv):aF P w K mg base "is_point" 2 ["thing"] fW :=by specialize sc_is_point
def tu:SM:=(aN 2 (iJ (aw bv (aa (ac 0) ai)) (j5 leI ltI (mC (.int 0)) (ac 0) (ac 1))))
def fX:Fn:=fnM [false,false] 2 tu
theorem sc_is_place:FnScope ["thing","many"] ["thing","many"] (aj fK):=by ac_rfl
theorem pB (B:Bl mg) (D:Def K mg "is_place" fK) (a:aF P w K mg base "is_whole" 1 ["thing"] bv):aF P w K mg base "is_place" 2 ["thing","many"] fX :=by specialize sc_is_place
def bJ:EM:=(aw fX (aa (ac 0) (aa (ac 1) ai)))
def cF:EM:=(bE (bZ (ac 0)) (ao 0) b9 bJ [none,some 1])
def cG:EM:=(ah ltI (ah aA (ac 1) (ac 0)) (ah aA (ac 1) (ah bu (ac 0) (mC (.int 1)))))
def cD:EM:=(bE (bF dn (aa (ah dE (av eF (aa (ac 0) ai)) (mC (.int 1))) ai)) (ao 0) b9 cG [none,some 0])
def iI:SM:=(aE (sIf (cOr (fj (cB (mUn (i6 "tuple") (ac 0)))) (fj (cB (av mW (aa cF ai))))) (aN 2 (mC (.bl false))) dH) (aN 2 (av mW (aa cD ai))))
def bd:Fn:=fnM [false,false] 2 iI
theorem sc_are_rising_places:FnScope ["thing","many"] ["thing","many"] (aj bz):=by ac_rfl
theorem gc (B:Bl mg) (D:Def K mg "are_rising_places" bz) (a:aF P w K mg base "is_place" 2 ["thing","many"] fX):aF P w K mg base "are_rising_places" 3 ["thing","many"] bd :=by specialize sc_are_rising_places
def du:EM:=(aw fW (aa (ac 0) ai))
def f9:EM:=(bE (bZ (ac 0)) (ao 0) b9 du [none])
def oV:SM:=(aN 1 (iJ (j5 leI leI (mC (.int 1)) (av eF (aa (ac 0) ai)) (mC (.int (24)))) (av mW (aa f9 ai))))
def dY:Fn:=fnM [false] 1 oV
theorem sc_are_points:FnScope ["things"] ["things"] (aj dG):=by ac_rfl
theorem mI (B:Bl mg) (D:Def K mg "are_points" dG) (c:aF P w K mg base "is_point" 2 ["thing"] fW) {a:Tok} (b:mg "MOST_POINTS"=some (.int (24) a)):aF P w K mg base "are_points" 3 ["things"] dY :=by specialize sc_are_points
def cC:EM:=(ah ltI (ah aA (ah aA (ac 1) (ac 0)) (mC (.int 0))) (ah aA (ah aA (ac 1) (ah bu (ac 0) (mC (.int 1)))) (mC (.int 0))))
def eU:EM:=(bE (bF dn (aa (ah dE (av eF (aa (ac 0) ai)) (mC (.int 1))) ai)) (ao 0) b9 cC [none,some 0])
def hV:SM:=(aN 1 (av mW (aa eU ai)))
def cP:Fn:=fnM [false] 1 hV
theorem sc_has_rising_x:FnScope ["points"] ["points"] (aj cv):=by ac_rfl
theorem ku (B:Bl mg) (D:Def K mg "has_rising_x" cv):aF P w K mg base "has_rising_x" 1 ["points"] cP :=by specialize sc_has_rising_x
def FL:SM:=(aE (aV 3 (ah eA (ah dE (ah aA (ac 1) (mC (.int 0))) (ah aA (ac 0) (mC (.int 0)))) (ah dE (ah aA (ac 2) (mC (.int 1))) (ah aA (ac 0) (mC (.int 1)))))) (aN 3 (ah dE (ac 3) (ah eA (ah dE (ah aA (ac 1) (mC (.int 1))) (ah aA (ac 0) (mC (.int 1)))) (ah dE (ah aA (ac 2) (mC (.int 0))) (ah aA (ac 0) (mC (.int 0))))))))
def kB:Fn:=fnM [false,false,false] 4 FL
theorem sc_bend:FnScope ["first","second","third","run"] ["first","second","third"] (aj oq):=by ac_rfl
theorem At (B:Bl mg) (D:Def K mg "bend" oq):aF P w K mg base "bend" 1 ["first","second","third"] kB :=by specialize sc_bend
def gz:EM:=(bM (aa (ac 1) (aa (ac 2) (aa (ac 0) ai))))
def kG:EM:=(bE (bF jl (aa (ah bu (ac 3) (mC (.int 1))) (aa (ac 0) ai))) (ao 0) b9 gz [none,some 2,some 3])
def gJ:SM:=(jj (qC isL zW 1 (aa kG ai)))
def kH:SM:=(cj (bF jl (aa (ah bu (ac 2) (mC (.int 1))) (aa (ac 0) ai))) (ao 3) gJ)
def zr:SM:=(aE (aV 1 (cX ai)) (aE (cj (bF dn (aa (ac 0) ai)) (ao 2) kH) (aN 1 (ac 1))))
def fA:Fn:=fnM [false] 4 zr
theorem sc_threes:FnScope ["many","found","i","j"] ["many"] (aj jd):=by ac_rfl
theorem tZ (B:Bl mg) (D:Def K mg "threes" jd):aF P w K mg base "threes" 1 ["many"] fA :=by specialize sc_threes
def cg:EM:=(ah aA (ac 1) (ac 0))
def eB:EM:=(bE (bZ (ac 1)) (ao 0) b9 cg [none,some 0])
def bI:SM:=(aE (aV 2 (av AK (aa eB ai))) (sIf (cB (ah eqX (aw kB (aa (ah aA (ac 2) (mC (.int 0))) (aa (ah aA (ac 2) (mC (.int 1))) (aa (ah aA (ac 2) (mC (.int 2))) ai)))) (mC (.int 0)))) (aN 1 (ac 2)) dH))
def kQ:SM:=(aE (cj (bZ (aw fA (aa (av eF (aa (ac 0) ai)) ai))) (ao 1) bI) (aN 1 (mC .non)))
def cf:Fn:=fnM [false] 3 kQ
theorem sc_first_on_line:FnScope ["points","three","found"] ["points"] (aj ce):=by ac_rfl
theorem jN (B:Bl mg) (D:Def K mg "first_on_line" ce) (b:aF P w K mg base "bend" 1 ["first","second","third"] kB) (a:aF P w K mg base "threes" 1 ["many"] fA):aF P w K mg base "first_on_line" 2 ["points"] cf :=by specialize sc_first_on_line
def tf:SM:=(aE (sIf (cOr (fj (cB (mUn (i6 "tuple") (ac 0)))) (fj (cB (aw dY (aa (ac 0) ai))))) (aN 1 (mC (.bl false))) dH) (aN 1 (iJ (aw cP (aa (ac 0) ai)) (ah isN (aw cf (aa (ac 0) ai)) (mC .non)))))
def fV:Fn:=fnM [false] 1 tf
theorem sc_is_sheet:FnScope ["thing"] ["thing"] (aj fI):=by ac_rfl
theorem pv (B:Bl mg) (D:Def K mg "is_sheet" fI) (c:aF P w K mg base "are_points" 3 ["things"] dY) (a:aF P w K mg base "first_on_line" 2 ["points"] cf) (b:aF P w K mg base "has_rising_x" 1 ["points"] cP):aF P w K mg base "is_sheet" 4 ["thing"] fV :=by specialize sc_is_sheet
def mO:SM:=(sIf (fj (cB (aw fV (aa (ac 0) ai)))) x5 dH)
def c9:Fn:=fnM [false] 1 mO
theorem sc_check_sheet:FnScope ["thing"] ["thing"] (aj c7):=by ac_rfl
theorem kU (B:Bl mg) (D:Def K mg "check_sheet" c7) (a:aF P w K mg base "is_sheet" 4 ["thing"] fV):aF P w K mg base "check_sheet" 5 ["thing"] c9 :=by specialize sc_check_sheet
def wB:SM:=(aN 2 (mIf (cB (ah gtI (aw kB (aa (ah aA (ac 0) (ah aA (ac 1) (mC (.int 0)))) (aa (ah aA (ac 0) (ah aA (ac 1) (mC (.int 1)))) (aa (ah aA (ac 0) (ah aA (ac 1) (mC (.int 2)))) ai)))) (mC (.int 0)))) (mC (.int 1)) (mUn Cd (mC (.int 1)))))
def d7:Fn:=fnM [false,false] 2 wB
theorem sc_turn_at:FnScope ["sheet","three"] ["sheet","three"] (aj iy):=by ac_rfl
theorem rF (B:Bl mg) (D:Def K mg "turn_at" iy) (a:aF P w K mg base "bend" 1 ["first","second","third"] kB):aF P w K mg base "turn_at" 2 ["sheet","three"] d7 :=by specialize sc_turn_at
def cH:SM:=(kO jV 1 (ac 2) (aw d7 (aa (ac 0) (aa (ac 2) ai))))
def qB:SM:=(aE (jj (aw c9 (aa (ac 0) ai))) (aE (aV 1 l8) (aE (cj (bZ (aw fA (aa (av eF (aa (ac 0) ai)) ai))) (ao 2) cH) (aN 1 (ac 1)))))
def eY:Fn:=fnM [false] 3 qB
theorem sc_all_turns:FnScope ["sheet","turns","three"] ["sheet"] (aj eM):=by ac_rfl
theorem mV (B:Bl mg) (D:Def K mg "all_turns" eM) (a:aF P w K mg base "check_sheet" 5 ["thing"] c9) (c:aF P w K mg base "threes" 1 ["many"] fA) (b:aF P w K mg base "turn_at" 2 ["sheet","three"] d7):aF P w K mg base "all_turns" 6 ["sheet"] eY :=by specialize sc_all_turns
def bV:SM:=(aE (sIf (cOr (fj (cB (aw bd (aa (ac 2) (aa (ac 1) ai))))) (cB (ah neX (av eF (aa (ac 2) ai)) (mC (.int 2))))) (aN 2 (mC (.bl false))) dH) (sIf (cOr (fj (cB (aw bv (aa (ah aA (ac 0) (ac 2)) ai)))) (cB (ah ltI (ah aA (ac 0) (ac 2)) (mC (.int 2))))) (aN 2 (mC (.bl false))) dH))
def bR:SM:=(aE (sIf (cOr (fj (cB (mUn (i6 "dict") (ac 0)))) (cB (ah neX (av nH (aa (ac 0) ai)) (ah q8 (ah eA (ac 1) (ah dE (ac 1) (mC (.int 1)))) (mC (.int 2)))))) (aN 2 (mC (.bl false))) dH) (aE (cj (jE (ac 0)) (ao 2) bV) (aN 2 (mC (.bl true)))))
def bg:Fn:=fnM [false,false] 3 bR
theorem sc_has_paper_form:FnScope ["thing","many","pair"] ["thing","many"] (aj bO):=by ac_rfl
theorem ja (B:Bl mg) (D:Def K mg "has_paper_form" bO) (a:aF P w K mg base "are_rising_places" 3 ["thing","many"] bd) (b:aF P w K mg base "is_whole" 1 ["thing"] bv):aF P w K mg base "has_paper_form" 4 ["thing","many"] bg :=by specialize sc_has_paper_form
def ff:SM:=(sIf (rO (cB (ah eqX (ah aA (ac 3) (ac 4)) (ac 2))) (cB (ah leI (ah aA (ac 0) (mSl slD (ac 4) (nz (mC (.int 1))) qh)) (ah aA (ac 0) (mSl slD (ac 4) qh (nz (mC (.int 2)))))))) (aN 3 (mC (.bl false))) dH)
def iY:SM:=(aE (aV 3 (aw eY (aa (ac 1) ai))) (aE (sIf (fj (cB (aw bg (aa (ac 0) (aa (av eF (aa (ac 1) ai)) ai))))) (aN 3 (mC (.bl false))) dH) (aE (cj (tH (ac 3)) (ao 4) ff) (aN 3 (mC (.bl true))))))
def bj:Fn:=fnM [false,false,false] 5 iY
theorem sc_is_paper:FnScope ["thing","sheet","way","turns","three"] ["thing","sheet","way"] (aj fL):=by ac_rfl
theorem pC (B:Bl mg) (D:Def K mg "is_paper" fL) (b:aF P w K mg base "all_turns" 6 ["sheet"] eY) (a:aF P w K mg base "has_paper_form" 4 ["thing","many"] bg):aF P w K mg base "is_paper" 7 ["thing","sheet","way"] bj :=by specialize sc_is_paper
def l6:SM:=(aN 2 (aw bj (aa (ac 0) (aa (ac 1) (aa (mC (.int (1))) ai)))))
def cN:Fn:=fnM [false,false] 2 l6
theorem sc_is_cup_paper:FnScope ["thing","sheet"] ["thing","sheet"] (aj cq):=by ac_rfl
theorem ko (B:Bl mg) (D:Def K mg "is_cup_paper" cq) (a:aF P w K mg base "is_paper" 7 ["thing","sheet","way"] bj) {b:Tok} (c:mg "UP"=some (.int (1) b)):aF P w K mg base "is_cup_paper" 8 ["thing","sheet"] cN :=by specialize sc_is_cup_paper
def l7:SM:=(aN 2 (aw bj (aa (ac 0) (aa (ac 1) (aa (mC (.int (-1))) ai)))))
def cO:Fn:=fnM [false,false] 2 l7
theorem sc_is_cap_paper:FnScope ["thing","sheet"] ["thing","sheet"] (aj cr):=by ac_rfl
theorem kr (B:Bl mg) (D:Def K mg "is_cap_paper" cr) (b:aF P w K mg base "is_paper" 7 ["thing","sheet","way"] bj) {a:Tok} (c:mg "DOWN"=some (.int (-1) a)):aF P w K mg base "is_cap_paper" 8 ["thing","sheet"] cO :=by specialize sc_is_cap_paper
def zv:SM:=(aE (sIf (cB (ah ltI (ac 1) (av eF (aa (ac 0) ai)))) (aN 2 (ah aA (ac 0) (ac 1))) dH) (aN 2 (mC (.int 0))))
def jP:Fn:=fnM [false,false] 2 zv
theorem sc_l_cell:FnScope ["_law_script","_law_k"] ["_law_script","_law_k"] (aj jg):=by ac_rfl
theorem t6 (B:Bl mg) (D:Def K mg "_law_cell" jg):aF P w K mg base "_law_cell" 1 ["_law_script","_law_k"] jP :=by specialize sc_l_cell
def Ck:SM:=(aE (aV 2 (cX (aa (mC (.int 48271)) (aa (mC (.int 69621)) (aa (mC (.int 16807)) (aa (mC (.int 39373)) (aa (mC (.int 30269)) (aa (mC (.int 40014)) (aa (mC (.int 40692)) (aa (mC (.int 50021)) (aa (mC (.int 61687)) (aa (mC (.int 71993)) (aa (mC (.int 83869)) (aa (mC (.int 95561)) (aa (mC (.int 30307)) ai))))))))))))))) (aE (aV 3 (ah bu (ah bu (ah eA (ah bu (ah sY (ac 0) (mC (.int 2147483647))) (mC (.int 12345))) (ah aA (ac 2) (ah sY (ac 1) (mC (.int 13))))) (ah eA (mC (.int 977)) (ac 1))) (ah eA (mC (.int 7919)) (ah q8 (ac 1) (mC (.int 13)))))) (aE (aV 3 (ah sY (ac 3) (mC (.int 1000000007)))) (aN 2 (ah q8 (ah sY (ah bu (ah eA (ac 3) (ac 3)) (ah eA (mC (.int 48271)) (ac 1))) (mC (.int 1000000007))) (mC (.int 7)))))))
def lu:Fn:=fnM [false,false] 4 Ck
theorem sc_l_mix:FnScope ["_law_cell_here","_law_k","_law_some","_law_stir"] ["_law_cell_here","_law_k"] (aj k4):=by ac_rfl
theorem xp (B:Bl mg) (D:Def K mg "_law_mix" k4):aF P w K mg base "_law_mix" 1 ["_law_cell_here","_law_k"] lu :=by specialize sc_l_mix
def iX:SM:=(aV 3 (ah bu (ah eA (ac 3) (mC (.int 142857143))) (aw lu (aa (ac 2) (aa (ac 4) ai)))))
def Cl:SM:=(aE (aV 2 (aw jP (aa (ac 0) (aa (ac 1) ai)))) (aE (sIf (cB (ah eqX (ah sY (ac 2) (mC (.int 2))) (mC (.int 0)))) (aN 2 (cX (aa (ah q8 (av absD (aa (ac 2) ai)) (mC (.int 2))) ai))) dH) (aE (aV 3 (mC (.int 0))) (aE (cj (bF dn (aa (mC (.int 40)) ai)) (ao 4) iX) (aN 2 (cX (aa (ac 3) ai)))))))
def lw:Fn:=fnM [false,false] 5 Cl
theorem sc_l_box:FnScope ["_law_script","_law_k","_law_cell_here","_law_number","_law_j"] ["_law_script","_law_k"] (aj k9):=by ac_rfl
theorem xq (B:Bl mg) (D:Def K mg "_law_box" k9) (a:aF P w K mg base "_law_cell" 1 ["_law_script","_law_k"] jP) (b:aF P w K mg base "_law_mix" 1 ["_law_cell_here","_law_k"] lu):aF P w K mg base "_law_box" 2 ["_law_script","_law_k"] lw :=by specialize sc_l_box
def zt:SM:=(aE (wa (kW 2 (bS (ao 2) (bS (ao 3) kX))) (av z8 (aa (ah aA (ac 0) (mC (.int 0))) (aa (ac 1) ai)))) (aE (kO jV 0 (mC (.int 0)) (ac 2)) (aN 2 (ac 3))))
def bc:Fn:=fnM [false,false] 4 zt
theorem sc_l_take:FnScope ["_law_box_here","_law_many","_law_left","_law_digit"] ["_law_box_here","_law_many"] (aj je):=by ac_rfl
theorem t0 (B:Bl mg) (D:Def K mg "_law_take" je):aF P w K mg base "_law_take" 1 ["_law_box_here","_law_many"] bc :=by specialize sc_l_take
def wC:SM:=(aN 1 (iJ (mUn (i6 "int") (ac 0)) (Cn (mUn (i6 "bool") (ac 0)))))
def d8:Fn:=fnM [false] 1 wC
theorem sc_l_whole:FnScope ["_law_thing"] ["_law_thing"] (aj iz):=by ac_rfl
theorem rG (B:Bl mg) (D:Def K mg "_law_whole" iz):aF P w K mg base "_law_whole" 1 ["_law_thing"] d8 :=by specialize sc_l_whole
def wD:SM:=(aN 2 (iJ (mUn (i6 "bool") (ac 0)) (ah eqX (ac 0) (ac 1))))
def fB:Fn:=fnM [false,false] 2 wD
theorem sc_l_truth:FnScope ["_law_found","_law_due"] ["_law_found","_law_due"] (aj iA):=by ac_rfl
theorem rH (B:Bl mg) (D:Def K mg "_law_truth" iA):aF P w K mg base "_law_truth" 1 ["_law_found","_law_due"] fB :=by specialize sc_l_truth
def zw:SM:=(aE (wa (kW 2 (bS (ao 3) (bS (ao 4) kX))) (ac 0)) (aE (aV 5 (ah eA (ah dE (ah aA (ac 1) (mC (.int 0))) (ac 3)) (ah dE (ah aA (ac 2) (mC (.int 1))) (ac 4)))) (aN 3 (ah dE (ac 5) (ah eA (ah dE (ah aA (ac 1) (mC (.int 1))) (ac 4)) (ah dE (ah aA (ac 2) (mC (.int 0))) (ac 3)))))))
def eI:Fn:=fnM [false,false,false] 6 zw
theorem sc_l_bend:FnScope ["_law_one","_law_two","_law_three","_law_x","_law_y","_law_wide"] ["_law_one","_law_two","_law_three"] (aj ji):=by ac_rfl
theorem t9 (B:Bl mg) (D:Def K mg "_law_bend" ji):aF P w K mg base "_law_bend" 1 ["_law_one","_law_two","_law_three"] eI :=by specialize sc_l_bend
def dg:SM:=(sIf (cB (ah eqX (aw eI (aa (ac 4) (aa (ac 3) (aa (ac 1) ai)))) (mC (.int 0)))) (aN 2 (mC (.bl false))) dH)
def kI:SM:=(cj (bZ (mSl slD (ac 0) qh (nz (ac 2)))) (ao 4) dg)
def zu:SM:=(aE (cj (tJ (aa (ac 0) ai)) (kW 2 (bS (ao 2) (bS (ao 3) kX))) kI) (aN 2 (mC (.bl true))))
def jO:Fn:=fnM [false,false] 5 zu
theorem sc_l_free:FnScope ["_law_found","_law_point","_law_at","_law_one","_law_two"] ["_law_found","_law_point"] (aj jf):=by ac_rfl
theorem t5 (B:Bl mg) (D:Def K mg "_law_free" jf) (a:aF P w K mg base "_law_bend" 1 ["_law_one","_law_two","_law_three"] eI):aF P w K mg base "_law_free" 2 ["_law_found","_law_point"] jO :=by specialize sc_l_free
def cz:M3 Bool:=(fj (cB (aw jO (aa (ac 5) (aa (bM (aa (ac 4) (aa (ac 9) ai))) ai)))))
def dQ:SM:=(aV 9 (ah bu (ac 9) (mC (.int 1))))
def cA:SM:=(aE (aV 4 (ah bu (ah bu (ac 4) (mC (.int 1))) (aw bc (aa (ac 0) (aa (mC (.int 3)) ai))))) (aE (aV 7 (ah dE (aw bc (aa (ac 0) (aa (mC (.int 31)) ai))) (mC (.int 15)))) (aE (aV 8 (cX (aa (ac 7) (aa (ac 7) (aa (ah bu (ah eA (ac 6) (ac 6)) (ah q8 (ac 7) (mC (.int 9)))) (aa (ah dE (ah q8 (ac 7) (mC (.int 9))) (ah eA (ac 6) (ac 6))) ai)))))) (aE (aV 8 (ah bu (ac 8) (cX (aa (ah eA (ah bu (ah eA (ac 6) (ac 6)) (mC (.int 30))) (ah dE (mC (.int 1)) (ah eA (mC (.int 2)) (ah sY (ac 6) (mC (.int 2)))))) (aa (ah eA (ac 7) (mC (.int 1000))) ai))))) (aE (aV 9 (ah aA (ac 8) (ac 3))) (aE (gp cz dQ) (jj (qC isL CW 5 (aa (bM (aa (ac 4) (aa (ac 9) ai))) ai)))))))))
def fP:EM:=(bM (aa (ah bu (ah eA (ah sP (mC (.int 10)) (mC (.int 12))) (ac 0)) (mC (.int 7))) (aa (ah eA (ah sP (mC (.int 10)) (mC (.int 9))) (ac 1)) ai)))
def dP:EM:=(bE (bZ (ac 5)) (kW 2 (bS (ao 0) (bS (ao 1) kX))) b9 fP [none,none])
def nE:SM:=(aE (aV 2 (ah bu (mC (.int 1)) (aw bc (aa (ac 0) (aa (ac 1) ai))))) (aE (aV 3 (aw bc (aa (ac 0) (aa (mC (.int 6)) ai)))) (aE (aV 4 (ah dE (aw bc (aa (ac 0) (aa (mC (.int 9)) ai))) (mC (.int 4)))) (aE (aV 5 (cX ai)) (aE (cj (bF dn (aa (ac 2) ai)) (ao 6) cA) (aE (sIf (cB (ah eqX (aw bc (aa (ac 0) (aa (mC (.int 6)) ai))) (mC (.int 5)))) (aV 5 dP) dH) (aN 2 (av AK (aa (ac 5) ai)))))))))
def fD:Fn:=fnM [false,false] 10 nE
theorem sc_l_sheet:FnScope ["_law_box_here","_law_most","_law_many","_law_kind","_law_x","_law_found","_law_k","_law_given","_law_some","_law_y"] ["_law_box_here","_law_most"] (aj iC):=by ac_rfl
theorem rL (B:Bl mg) (D:Def K mg "_law_sheet" iC) (a:aF P w K mg base "_law_free" 2 ["_law_found","_law_point"] jO) (b:aF P w K mg base "_law_take" 1 ["_law_box_here","_law_many"] bc):aF P w K mg base "_law_sheet" 3 ["_law_box_here","_law_most"] fD :=by specialize sc_l_sheet
def uZ:SM:=(aE (aV 1 (cX (aa (mC .non) (aa (mC (.bl true)) (aa (mC (.bl false)) (aa (mC (.int 0)) (aa (mUn Cd (mC (.int 1))) (aa (mC (.int 1)) (aa (mC (.str "")) (aa (mC (.str "1")) (aa (bM ai) (aa (cX ai) (aa (bM (aa (mC (.int 0)) ai)) (aa (bM (aa (mC (.int 0)) (aa (mC (.int 1)) ai))) (aa (cX (aa (mC (.int 0)) ai)) (aa (FN (.inr "a") 1) ai)))))))))))))))) (aE (aV 1 (ah bu (ac 1) (cX (aa (ah sP (mC (.int 10)) (mC (.int 29))) (aa (bM (aa (bM (aa (mC (.int 0)) (aa (mC (.int 0)) ai))) ai)) (aa (bM (aa (bM (aa (mC (.int 0)) (aa (mC (.int 1)) ai))) (aa (bM (aa (mC (.int 1)) (aa (mC (.int 2)) ai))) ai))) (aa (mC (.str "0,0")) (aa (bM (aa (mC (.int 0)) (aa (mC (.int 1)) (aa (mC (.int 2)) ai)))) (aa (FM [0,1] 2) ai))))))))) (aN 1 (ah aA (ac 1) (aw bc (aa (ac 0) (aa (mC (.int 20)) ai)))))))
def lr:Fn:=fnM [false] 2 uZ
theorem sc_l_odd:FnScope ["_law_box_here","_law_some"] ["_law_box_here"] (aj kZ):=by ac_rfl
theorem xo (B:Bl mg) (D:Def K mg "_law_odd" kZ) (a:aF P w K mg base "_law_take" 1 ["_law_box_here","_law_many"] bc):aF P w K mg base "_law_odd" 2 ["_law_box_here"] lr :=by specialize sc_l_odd
def FK:SM:=(aN 4 (ah gtI (aw eI (aa (ah aA (ac 0) (ac 1)) (aa (ah aA (ac 0) (ac 2)) (aa (ah aA (ac 0) (ac 3)) ai)))) (mC (.int 0))))
def kA:Fn:=fnM [false,false,false,false] 4 FK
theorem sc_l_up:FnScope ["_law_sheet_here","_law_i","_law_j","_law_k"] ["_law_sheet_here","_law_i","_law_j","_law_k"] (aj om):=by ac_rfl
theorem As (B:Bl mg) (D:Def K mg "_law_up" om) (a:aF P w K mg base "_law_bend" 1 ["_law_one","_law_two","_law_three"] eI):aF P w K mg base "_law_up" 2 ["_law_sheet_here","_law_i","_law_j","_law_k"] kA :=by specialize sc_l_up
def oT:EM:=(bM (aa (ac 1) (aa (ac 0) ai)))
def oS:EM:=(bE (bF jl (aa (ah bu (ac 2) (mC (.int 1))) (aa (ac 0) ai))) (ao 0) b9 oT [none,some 2])
def oU:SM:=(aV 1 (ah bu (ac 1) oS))
def wF:SM:=(aE (aV 1 (cX ai)) (aE (cj (bF dn (aa (ac 0) ai)) (ao 2) oU) (aN 1 (ac 1))))
def iH:Fn:=fnM [false] 3 wF
theorem sc_l_pairs:FnScope ["_law_many","_law_found","_law_i"] ["_law_many"] (aj iE):=by ac_rfl
theorem rN (B:Bl mg) (D:Def K mg "_law_pairs" iE):aF P w K mg base "_law_pairs" 1 ["_law_many"] iH :=by specialize sc_l_pairs
def dO:SM:=(sIf (cB (ah eqX (aw kA (aa (ac 0) (aa (ac 6) (aa (ac 4) (aa (ac 3) ai))))) (ac 1))) (aV 5 (av uY (aa (ac 5) (aa (ah bu (mC (.int 1)) (ah aA (ac 2) (bM (aa (ac 6) (aa (ac 4) ai))))) ai)))) dH)
def dN:SM:=(aE (aV 5 (mC (.int 2))) (aE (cj (bF dn (aa (ac 4) ai)) (ao 6) dO) (kO jV 2 (bM (aa (ac 4) (aa (ac 3) ai))) (ac 5))))
def dM:SM:=(cj (bF dn (aa (ac 3) ai)) (ao 4) dN)
def wE:SM:=(aE (aV 2 l8) (aE (cj (bF dn (aa (av eF (aa (ac 0) ai)) ai)) (ao 3) dM) (aN 2 (ac 2))))
def c6:Fn:=fnM [false,false] 7 wE
theorem sc_l_table:FnScope ["_law_sheet_here","_law_up_here","_law_found","_law_j","_law_i","_law_best","_law_h"] ["_law_sheet_here","_law_up_here"] (aj iB):=by ac_rfl
theorem rK (B:Bl mg) (D:Def K mg "_law_table" iB) (a:aF P w K mg base "_law_up" 2 ["_law_sheet_here","_law_i","_law_j","_law_k"] kA):aF P w K mg base "_law_table" 3 ["_law_sheet_here","_law_up_here"] c6 :=by specialize sc_l_table
def dS:EM:=(aw d8 (aa (ac 0) ai))
def jz:EM:=(bE (bZ (ac 4)) (ao 0) b9 dS [none])
def bQ:SM:=(sIf (cOr (fj (cB (mUn (i6 "tuple") (ac 4)))) (cOr (cB (ah FC (ac 4) (ac 3))) (fj (cB (av mW (aa jz ai)))))) (aN 3 (mC (.bl false))) dH)
def dR:EM:=(iJ (aw d8 (aa (ah aA (ac 1) (ac 0)) ai)) (ah gtI (ah aA (ac 1) (ac 0)) (mC (.int 1))))
def fQ:EM:=(bE (jE (ac 1)) (ao 0) b9 dR [none,some 1])
def dU:SM:=(sIf (rO (cB (ah eqX (aw kA (aa (ac 0) (aa (ac 5) (aa (ac 6) (aa (ac 7) ai))))) (ac 2))) (cB (ah geI (ah aA (ac 1) (bM (aa (ac 5) (aa (ac 6) ai)))) (ah aA (ac 1) (bM (aa (ac 6) (aa (ac 7) ai))))))) (aN 3 (mC (.bl false))) dH)
def bP:SM:=(cj (bF jl (aa (ah bu (ac 6) (mC (.int 1))) (aa (av eF (aa (ac 0) ai)) ai))) (ao 7) dU)
def dZ:SM:=(aE (aV 3 (aw iH (aa (av eF (aa (ac 0) ai)) ai))) (aE (sIf (cOr (fj (cB (mUn (i6 "dict") (ac 1)))) (cB (ah neX (av nH (aa (ac 1) ai)) (av eF (aa (ac 3) ai))))) (aN 3 (mC (.bl false))) dH) (aE (cj (jE (ac 1)) (ao 4) bQ) (aE (sIf (fj (cB (av mW (aa fQ ai)))) (aN 3 (mC (.bl false))) dH) (aE (cj (bZ (ac 3)) (kW 2 (bS (ao 5) (bS (ao 6) kX))) bP) (aN 3 (mC (.bl true))))))))
def d9:Fn:=fnM [false,false,false] 8 dZ
theorem sc_l_paper:FnScope ["_law_sheet_here","_law_thing","_law_up_here","_law_keys","_law_key","_law_i","_law_j","_law_k"] ["_law_sheet_here","_law_thing","_law_up_here"] (aj iD):=by ac_rfl
theorem rM (B:Bl mg) (D:Def K mg "_law_paper" iD) (a:aF P w K mg base "_law_pairs" 1 ["_law_many"] iH) (c:aF P w K mg base "_law_up" 2 ["_law_sheet_here","_law_i","_law_j","_law_k"] kA) (b:aF P w K mg base "_law_whole" 1 ["_law_thing"] d8):aF P w K mg base "_law_paper" 3 ["_law_sheet_here","_law_thing","_law_up_here"] d9 :=by specialize sc_l_paper
def eT:EM:=(bM (aa (ac 0) (aa (ah bu (mC (.int 2)) (ah aA (ac 0) (mC (.int 1)))) ai)))
def hU:EM:=(bE (bZ (av dF (aa (ac 2) ai))) (ao 0) b9 eT [none])
def eS:EM:=(bM (aa (ac 0) (aa (mC (.int 2)) ai)))
def hJ:EM:=(bE (bZ (av dF (aa (ac 2) ai))) (ao 0) b9 eS [none])
def qA:SM:=(aE (aV 4 (ah bu (av dF (aa (ac 2) ai)) (cX (aa (bM (aa (mC (.int 0)) (aa (mC (.int 1)) ai))) ai)))) (aE (aV 5 (ah aA (ac 4) (aw bc (aa (ac 0) (aa (av eF (aa (ac 4) ai)) ai))))) (aE (aV 6 (av Ae (aa (ac 2) ai))) (aE (aV 7 (aw bc (aa (ac 0) (aa (mC (.int 11)) ai)))) (aE (aV 8 (qD wP vg (ac 6) (aa (ac 5) (aa (mC (.int 2)) ai)))) (aE (sIf (cB (ah ltI (ac 7) (mC (.int 6)))) (kO jV 6 (ac 5) (ah aA (cX (aa (ah dE (ac 8) (mC (.int 1))) (aa (ah bu (ac 8) (mC (.int 1))) (aa (mC (.bl true)) (aa (av vT (aa (ac 8) ai)) (aa (ac 3) (aa (mC (.int 1)) ai))))))) (ac 7))) (sIf (cB (ah eqX (ac 7) (mC (.int 6)))) (jj (qC wP jp 6 (aa (ac 5) (aa (mC .non) ai)))) (sIf (cB (ah eqX (ac 7) (mC (.int 7)))) (kO jV 6 (bM (aa (ah aA (ac 5) (mC (.int 1))) (aa (ah aA (ac 5) (mC (.int 0))) ai))) (mC (.int 2))) (sIf (cB (ah eqX (ac 7) (mC (.int 8)))) (aN 4 (av jT (aa (ac 2) ai))) (sIf (cB (ah eqX (ac 7) (mC (.int 9)))) (aN 4 (av i9 (aa hU ai))) (aN 4 (av i9 (aa hJ ai)))))))) (aN 4 (ac 6))))))))
def ir:Fn:=fnM [false,false,false,false] 9 qA
theorem sc_l_bent:FnScope ["_law_box_here","_law_sheet_here","_law_paper_here","_law_odd_here","_law_keys","_law_key","_law_found","_law_kind","_law_here"] ["_law_box_here","_law_sheet_here","_law_paper_here","_law_odd_here"] (aj jh):=by ac_rfl
theorem t7 (B:Bl mg) (D:Def K mg "_law_bent" jh) (a:aF P w K mg base "_law_take" 1 ["_law_box_here","_law_many"] bc):aF P w K mg base "_law_bent" 2 ["_law_box_here","_law_sheet_here","_law_paper_here","_law_odd_here"] ir :=by specialize sc_l_bent
def jv:EM:=(bM (aa (ac 0) (aa (ah bu (ah aA (ah aA (ac 1) (mC (.int 0))) (ac 0)) (ah aA (ac 0) (mC (.int 1)))) ai)))
def qz:EM:=(bE (bZ (av dF (aa (ah aA (ac 5) (mC (.int 0))) ai))) (ao 0) b9 jv [none,some 5])
def ju:EM:=(aw ir (aa (ac 1) (aa (ac 2) (aa (ac 0) (aa (ac 3) ai)))))
def qy:EM:=(bE (bZ (ac 5)) (ao 0) b9 ju [none,some 2,some 3,some 4])
def jy:SM:=(aV 7 (ah bu (ac 7) qy))
def jt:EM:=(aw d9 (aa (ac 1) (aa (ac 2) (aa (ac 0) ai))))
def qx:EM:=(bE (bZ (bM (aa (mC (.bl true)) (aa (mC (.bl false)) ai)))) (ao 0) b9 jt [none,some 3,some 9])
def jx:SM:=(aE (aV 10 (av oB (aa (ac 9) ai))) (aE (aV 11 qx) (aE (sIf (fj (cB (aw fB (aa (aw cN (aa (ac 9) (aa (ac 3) ai))) (aa (ah aA (ac 11) (mC (.int 0))) ai))))) (aN 1 (mC (.bl false))) dH) (sIf (cOr (fj (cB (aw fB (aa (aw cO (aa (ac 9) (aa (ac 3) ai))) (aa (ah aA (ac 11) (mC (.int 1))) ai))))) (cB (ah neX (av oB (aa (ac 9) ai)) (ac 10)))) (aN 1 (mC (.bl false))) dH))))
def jw:SM:=(aE (aV 2 (aw lw (aa (ac 0) (aa (ac 1) ai)))) (aE (aV 3 (aw fD (aa (ac 2) (aa (mC (.int 7)) ai)))) (aE (aV 4 (aw lr (aa (ac 2) ai))) (aE (aV 5 (cX (aa (aw c6 (aa (ac 3) (aa (mC (.bl true)) ai))) (aa (aw c6 (aa (ac 3) (aa (mC (.bl false)) ai))) ai)))) (aE (aV 6 (av i9 (aa qz ai))) (aE (aV 7 (ah bu (ac 5) (cX (aa (ac 6) (aa (ac 4) (aa l8 (aa (cX (aa (ah aA (ac 5) (mC (.int 0))) ai)) ai))))))) (aE (cj (bF dn (aa (mC (.int 3)) ai)) (ao 8) jy) (cj (bZ (ac 7)) (ao 9) jx))))))))
def m_law:SM:=(aE (cj (bF dn (aa (av uY (aa (mC (.int 1)) (aa (av Dk (aa (av eF (aa (ac 0) ai)) (aa (mC (.int 4)) ai))) ai))) ai)) (ao 1) jw) (aN 1 (mC (.bl true))))
def DC:Fn:=fnM [false] 12 m_law
theorem sc_law:FnScope ["_law_script","_law_k","_law_box_here","_law_sheet_here","_law_odd_here","_law_tables","_law_more","_law_things","_law_go","_law_thing","_law_kept","_law_dues"] ["_law_script"] (aj gl):=by ac_rfl
theorem CF {f:Addr} {fd:FuncData} (B:Bl mg) (D:Fun K "law" "law" gl f fd) (h:aF P w K mg base "_law_bent" 2 ["_law_box_here","_law_sheet_here","_law_paper_here","_law_odd_here"] ir) (j:aF P w K mg base "_law_box" 2 ["_law_script","_law_k"] lw) (i:aF P w K mg base "_law_odd" 2 ["_law_box_here"] lr) (d:aF P w K mg base "_law_paper" 3 ["_law_sheet_here","_law_thing","_law_up_here"] d9) (g:aF P w K mg base "_law_sheet" 3 ["_law_box_here","_law_most"] fD) (c:aF P w K mg base "_law_table" 3 ["_law_sheet_here","_law_up_here"] c6) (e:aF P w K mg base "_law_truth" 1 ["_law_found","_law_due"] fB) (b:aF P w K mg base "is_cap_paper" 8 ["thing","sheet"] cO) (a:aF P w K mg base "is_cup_paper" 8 ["thing","sheet"] cN) (S_sys:ul K):FnOk P w K mg base CX0 9 f fd ["_law_script"] (vU K DC) :=
 Gb (k:=8) D sc_law rfl rfl λcdv A outer s H E f G hr hp =>
  have nd:=sc_law.nd;by and_intros
end
theorem jW (i:Int):bv [(.int i,.z)]=some (.ok (.bl true,.z),[(.int i,.z)]):=by
 apply aQ (Z:=[#v[.int i]]) rfl rfl
 .nofun
 .rfl
theorem we (p:Pt):fW [(Pd p,.z)]=some (.ok (.bl true,.z),[(Pd p,.z)]):=by
 apply aQ (Z:=[#v[Pd p]]) rfl rfl
 .nomatch [(jW _)]
 .rfl
theorem ve {f e:L3.D->L3.D->Option (L3.D×Fl)} {ma mb mc:EM} {ra rb rc:R3} {Z Z1 Z2 Z3:Sto} {da db a c d:L3.D} {fl b:Fl} (h1:ma Z=some (.ok ra,Z1)) (h2:mb Z1=some (.ok rb,Z2)) (h3:der ra Z2=some (.ok da,Z2)) (j:der rb Z2=some (.ok db,Z2)) (g:f da db=some (.bl true,fl)) (i:mc Z2=some (.ok rc,Z3)) (h7:der rb Z3=some (.ok a,Z3)) (h8:der rc Z3=some (.ok c,Z3)) (h:e a c=some (d,b)):j5 f e ma mb mc Z=some (.ok (.val d b),Z3):=by
 simp only[j5,ag,h1,h2,h3,j,g,a9,Option.bind_some,asB,Hf,if_true,i,h7,h8,h]
set_option tactic.hygienic true in
theorem yo (ps:List Pt) (h0:0 < ps.length) (h1:ps.length<=24):dY [(Shd ps,.z)]=some (.ok (.bl true,.z),[(Shd ps,.z)]):=by
 obtain ⟨τ',e,a,rfl⟩:=il (bnd:=ao 0) (c:=b9) (elt:=du) (λτ=>∃ a,τ=[a]) (λ_=>true) (λ_=>.bl true) (ds:=ps.map Pd) (τ:=[none]) #[none,rfl] (by
  rintro d hd τ ⟨a,rfl⟩
  obtain ⟨p,j,rfl⟩:=GX.mp hd
  exact #[[#v[Pd p]],_,rfl,rfl,(λh=>by cases h),λ_=>#[.val (.bl true) .z,[#v[Pd p]],(.bl true,.z),[#v[Pd p]],by unfold du;(nomatch [(we _)]),rfl,rfl,_,rfl]])
 have f:=n4 (ds:=((ps.map Pd).filter λ_=>true).map λ_=>.bl true) (λd hd=>by obtain ⟨_,_,rfl⟩:=GX.mp hd;rfl)
 generalize ((ps.map Pd).filter λ_=>true).map (λ_=>L3.D.bl true)=out at *
 have g:f9 [#v[Shd ps]]=some (.ok (.val (.lst out) .u),[#v[Shd ps]]):=bp (im:=bZ (ac 0)) (ix:=[none]) (Z1:=[#v[Shd ps]]) (Z2:=[#v[Shd ps]]) (ds:=ps.map Pd) (rs:=[.pl 0]) rfl e (by simp;lia) rfl
 have b:leI (.int 1) (.int ((ps.map Pd).length:Int))=#v[.bl true]:=by simp[fg];lia
 have i:leI (.int ((ps.map Pd).length:Int)) (.int 24)=#v[.bl true]:=by simp[fg];lia
 apply aQ (Z:=[#v[Shd ps]]) rfl rfl
 .apply bf
  .apply lg
   .apply ve
    .exact i_c
    .nofun
    .rfl
    .rfl
    .exact b
    .exact i_c
    .rfl
    .rfl
    .exact i
   .rfl
   .rfl
   ·(repeat' (first | with_reducible exact g | infer_instance | exact f | eq_refl))
  .rfl
 .rfl
theorem ee {xs:List L3.D} {k:Int} {d:L3.D} (h:L2.atI xs k=some d):aA (.tup xs) (.int k)=#v[d]:=by
 show orD ixD qU (.tup xs) (.int k)=_
 simp[orD,ixD,h]
theorem eL {xs:List L3.D} {k:Int} {d:L3.D} (h:L2.atI xs k=some d):aA (.lst xs) (.int k)=#v[d]:=by
 show orD ixD qU (.lst xs) (.int k)=_
 simp[orD,ixD,h]
set_option tactic.hygienic true in
theorem yg (ps:List Pt) (h0:0 < ps.length) (h1:ps.length<=24) (R:Rising ps):cP [(Shd ps,.z)]=some (.ok (.bl true,.z),[(Shd ps,.z)]):=by
 obtain ⟨τ',e,a,rfl⟩:=il (bnd:=ao 0) (c:=b9) (elt:=cC) (λτ=>∃ a,τ=[a,#v[Shd ps]]) (λ_=>true) (λ_=>.bl true) (ds:=bm 0 (ps.length - 1)) (τ:=[none,#v[Shd ps]]) #[none,rfl] (by
  rintro d hd τ ⟨a,rfl⟩
  obtain ⟨i,hi⟩:=List.getElem?_of_mem hd
  obtain ⟨hi,rfl⟩:=bX hi
  have g:ps[i]?=some ps[i]:=GO _
  have f:ps[i+1]?=some ps[i+1]:=GO _
  have b:=R i (i+1) _ _ (by lia) g f
  have a1:aA (Shd ps) (.int (0+(i:Int)))=#v[Pd ps[i]]:=ee (by rw[Int.zero_add];exact xu g)
  have a2:aA (Shd ps) (.int (0+(i:Int)+1))=#v[Pd ps[i+1]]:=ee (by rw[Int.zero_add];exact xu f)
  have m:ltI (.int ps[i].1) (.int ps[i+1].1)=#v[.bl true]:=by simp[fg,b]
  generalize (0+(i:Int))=j at *
  refine #[[#v[.int j],#v[Shd ps]],_,rfl,rfl,(λh=>by cases h),λ_=>#[.val (.bl true) .z,[#v[.int j],#v[Shd ps]],(.bl true,.z),[#v[.int j],#v[Shd ps]],?_,rfl,rfl,_,rfl]]
  unfold cC
  (exists a1,a2,m))
 have o:((ps.length:Int) - 1).toNat=ps.length - 1:=by lia
 have l:dn [.int (((ps.map Pd).length:Int) - 1)]=some (bm 0 (ps.length - 1)):=c8 (by simp;lia) (by simp)
 have k:=n4 (ds:=((bm 0 (ps.length - 1)).filter λ_=>true).map λ_=>.bl true) (λd hd=>by obtain ⟨_,_,rfl⟩:=GX.mp hd;rfl)
 generalize ((bm 0 (ps.length - 1)).filter λ_=>true).map (λ_=>L3.D.bl true)=out at *
 have n:eU [#v[Shd ps]]=some (.ok (.val (.lst out) .u),[#v[Shd ps]]):=bp (Z1:=[#v[Shd ps]]) (rs:=[]) (by (repeat' (first | with_reducible apply eV (h3:=l) | infer_instance | eq_refl))) e (by rw[cw];lia) rfl
 apply aQ (Z:=[#v[Shd ps]]) rfl rfl
 .unfold hV;(repeat' (first | with_reducible exact n | infer_instance | exact k | eq_refl))
 .rfl
theorem ni (p q r:Int×Int) (h1:-18446744073709551616 < q.1 - p.1/\q.1 - p.1 < 18446744073709551616) (h2:-18446744073709551616 < q.2 - p.2/\q.2 - p.2 < 18446744073709551616):kB [(Pd p,.z),(Pd q,.z),(Pd r,.z)]=some (.ok (.int (aS p q r),.z),[(Pd p,.z),(Pd q,.z),(Pd r,.z)]):=by
 apply aQ (Z:=[#v[Pd p],#v[Pd q],#v[Pd r],none]) rfl rfl
 .apply ak
  .exists fZ h1
  .exists fZ h2
 .rfl
set_option tactic.hygienic true in
theorem xF {n i j:Nat} (xs:List L3.D) (l:n<=25) (k:j < n) (elt:EM) (he:∀ (a b c:L3.D),elt [#v[c],#v[a],#v[b]]=some (.ok (.val (.tup [a,b,c]) .z),[#v[c],#v[a],#v[b]])) :
  bE (bF jl (aa (ah bu (ac 3) (mC (.int 1))) (aa (ac 0) ai))) (ao 0) b9 elt [none,some 2,some 3] [#v[.int n],some (.lst xs,.u),#v[.int i],#v[.int j]]=some (.ok (.val (.lst ((mM i j (n - (j+1))).map Td)) .u),[#v[.int n],some (.lst xs,.u),#v[.int i],#v[.int j]]):=by
 obtain ⟨τ',e,a,rfl⟩:=il (bnd:=ao 0) (c:=b9) (elt:=elt) (λτ=>∃ a,τ=[a,#v[.int i],#v[.int j]]) (λ_=>true) (λd=>.tup [.int i,.int j,d]) (ds:=bm ((j:Int)+1) (n - (j+1))) (τ:=[none,#v[.int i],#v[.int j]]) #[none,rfl] (by
  rintro d hd τ ⟨a,rfl⟩
  exact #[[#v[d],#v[.int i],#v[.int j]],_,rfl,rfl,(λh=>by cases h),λ_=>#[_,_,(.tup [.int i,.int j,d],.z),_,he _ _ _,rfl,rfl,_,rfl]])
 have g:((bm ((j:Int)+1) (n - (j+1))).filter λ_=>true).map (λd=>L3.D.tup [.int i,.int j,d])=(mM i j (n - (j+1))).map Td:=by
  rw[Hq.mpr (λ_ _=>rfl)]
  simp[bm,mM,Function.comp_def]
 rw[g] at e
 have f:jl [.int ((j:Int)+1),.int n]=some (bm ((j:Int)+1) (n - (j+1))):=oA (by lia) (by lia) (by lia)
 exact bp (rs:=[]) (by (repeat' (first | with_reducible apply eV (h3:=f) | infer_instance | eq_refl))) e (by rw[cw];lia) rfl
theorem Gf {A B:List L3.D} (h:A.length+B.length<=16777216):zW (.lst A) [.lst B]=some (.lst (A++B),.non):=by simp[zW,h]
theorem Gw {A:List L3.D} {d:L3.D} (h:A.length < 16777216):CW (.lst A) [d]=some (.lst (A++[d]),.non):=by simp[CW,h]
theorem pj {A B:List L3.D} (h:A.length+B.length<=16777216):bu (.lst A) (.lst B)=some (.lst (A++B),.u):=by simp[orD,fg,Gq,Gp,Gr,h]
set_option tactic.hygienic true in
theorem vO {n:Nat} (h:n<=25) {b1 b2:SM} (h2:b2=cj (bF jl (aa (ah bu (ac 2) (mC (.int 1))) (aa (ac 0) ai))) (ao 3) b1)
  (h1:∀ (i j:Nat) (xs:List L3.D),j < n->xs.length<=20000->b1 [#v[.int n],some (.lst xs,.u),#v[.int i],#v[.int j]]=some (.ok .nx,[#v[.int n],some (.lst (xs++(mM i j (n - (j+1))).map Td),.u),#v[.int i],#v[.int j]])) :
  ∃ v2 F,cj (bF dn (aa (ac 0) ai)) (ao 2) b2 [#v[.int n],some (.lst [],.u),none,none]=some (.ok .nx,[#v[.int n],some (.lst ((fk n).map Td),.u),v2,F]):=by
 have inner:∀ (i:Nat) (xs:List Tri) (F:Option (L3.D×Fl)),i < n->xs.length<=15625->∃ a,b2 [#v[.int n],some (.lst (xs.map Td),.u),#v[.int i],F]=some (.ok .nx,[#v[.int n],some (.lst ((xs++jX n i (n - (i+1))).map Td),.u),#v[.int i],a]):=by
  intro i xs F hi l
  obtain ⟨Z',e,a,rfl⟩:=bD (bnd:=ao 3) (b:=b1) (λm Z=>∃ F,Z=[#v[.int n],some (.lst ((xs++jX n i m).map Td),.u),#v[.int i],F]) (ds:=bm ((i:Int)+1) (n - (i+1))) (Z:=[#v[.int n],some (.lst (xs.map Td),.u),#v[.int i],F]) (k:=0) #[F,by simp[jX]] (by
   rintro m d Z hd ⟨F,rfl⟩
   obtain ⟨hm,rfl⟩:=bX hd
   have f:((xs++jX n i m).map Td).length<=20000:=by
    have:=sI (n:=n) (i:=i) (m:=m) h (by lia)
    simp only[GS,Hc]
    lia
   have c:=h1 i (i+1+m) ((xs++jX n i m).map Td) (by lia) f
   rw[show ((i+1+m:Nat):Int)=(i:Int)+1+m by lia,<- List.map_append,List.append_assoc,<- nq] at c
   exact #[_,_,by rw[Ha];rfl,.inl c,_,by rw[Ha]])
  refine #[a,?_]
  rw[cw,Ha] at e
  have g:jl [.int ((i:Int)+1),.int n]=some (bm ((i:Int)+1) (n - (i+1))):=oA (by lia) (by lia) (by lia)
  rw[h2]
  apply cS
  ·(repeat' (first | with_reducible apply eV (h3:=g) | infer_instance | eq_refl))
  .rfl
  .exact e
 obtain ⟨Z',e,v2,F,rfl⟩:=bD (bnd:=ao 2) (b:=b2) (λm Z=>∃ v2 F,Z=[#v[.int n],some (.lst ((ot n m).map Td),.u),v2,F]) (ds:=bm 0 n) (Z:=[#v[.int n],some (.lst [],.u),none,none]) (k:=0) #[none,none,rfl] (by
  rintro m d Z hd ⟨v2,F,rfl⟩
  obtain ⟨hm,rfl⟩:=bX hd
  rw[Ha,Int.zero_add]
  obtain ⟨a,e⟩:=inner m (ot n m) F hm (sJ h (by lia))
  rw[<- nt] at e
  exact #[_,_,rfl,.inl e,_,_,rfl])
 rw[cw,Ha] at e
 have g:dn [.int (n:Int)]=some (bm 0 n):=c8 (by lia) (by lia)
 refine #[v2,F,?_]
 apply cS
 ·(repeat' (first | with_reducible apply eV (h3:=g) | infer_instance | eq_refl))
 .rfl
 .exact e
set_option tactic.hygienic true in
theorem lK (n:Nat) (d:n<=25):fA [(.int n,.z)]=some (.ok (.lst ((fk n).map Td),.u),[(.int n,.z)]):=by
 obtain ⟨v2,k,e⟩:=vO (n:=n) d (b1:=gJ) (b2:=kH) rfl (by
  intro i j xs g h
  have c:=xF (n:=n) (i:=i) (j:=j) xs d g gz (λa b c=>by unfold gz;(nofun))
  have f:xs.length+((mM i j (n - (j+1))).map Td).length<=16777216:=by
   rw[GS,p6];lia
  unfold gJ kG
  (repeat' (first | with_reducible exact c | infer_instance | exact Gf f | eq_refl)))
 apply aQ (Z:=[#v[.int n],none,none,none]) rfl rfl
 .apply ak
  .nofun
  .apply ak
   .exact e
   .nofun
 .rfl
theorem oP {i j:Int}:neX (.int i) (.int j)=#v[.bl (!decide (i=j))]:=rfl
set_option tactic.hygienic true in
theorem zT {S:List L3.D} {i j k:Int} {p q r:Pt} {v2:Option (L3.D×Fl)} (a1:aA (.tup S) (.int i)=#v[Pd p]) (a2:aA (.tup S) (.int j)=#v[Pd q]) (l:aA (.tup S) (.int k)=#v[Pd r]) (f:Small p) (e:Small q) (h0:aS p q r≠0):bI [#v[.tup S],#v[.tup [.int i,.int j,.int k]],v2]=some (.ok .nx,[#v[.tup S],#v[.tup [.int i,.int j,.int k]],#v[.tup [Pd p,Pd q,Pd r]]]):=by
 have b:=ni p q r (Small.sub f e).1 (Small.sub f e).2
 have one:∀ (x d:L3.D) (a:Option (L3.D×Fl)),aA (.tup S) x=#v[d]->cg [#v[x],#v[.tup S]]=some (.ok (.val d .z),[#v[x],#v[.tup S]]):=λx d a h=>by unfold cg;(exists h)
 have c:eB [#v[.tup S],#v[.tup [.int i,.int j,.int k]],v2]=some (.ok (.val (.lst [Pd p,Pd q,Pd r]) .u),[#v[.tup S],#v[.tup [.int i,.int j,.int k]],v2]):=by
  refine bp (Z1:=[#v[.tup S],#v[.tup [.int i,.int j,.int k]],v2]) (Z2:=[#v[.tup S],#v[.tup [.int i,.int j,.int k]],v2]) (ds:=[.int i,.int j,.int k]) (rs:=[.pl 1]) (τ:=[#v[.int k],#v[.tup S]]) rfl ?_ (by simp) rfl
  have e1:=one (.int i) _ none a1
  have m:=one (.int j) _ none a2
  have g:=one (.int k) _ none l
  have n:∀ d a,ao 0 d [a,#v[L3.D.tup S]]=some [#v[d],#v[.tup S]]:=λ_ _=>rfl
  have cs:tV [none,some 0] (aJ cR (us [#v[L3.D.tup S],#v[.tup [.int i,.int j,.int k]],v2] (pls [R3.pl 1])) [#v[.tup S],#v[.tup [.int i,.int j,.int k]],v2])=[none,#v[.tup S]]:=rfl
  rw[cs]
  simp only[bG,n,b9,ag,aY,if_true,e1,m,g,fm,nol]
 unfold bI
 apply ak
 ·(repeat' (first | with_reducible exact c | infer_instance | eq_refl))
 .apply aU
  .nomatch [b]
  .exact G8 h0
  .rfl
theorem Be (ps:List Pt) (o:ps.length<=24) (g:∀ p∈ps,Small p) (j:NoLine ps):cf [(Shd ps,.z)]=some (.ok (.non,.z),[(Shd ps,.z)]):=by
 have a:=lK ps.length (by lia)
 rw[show (ps.length:Int)=((ps.map Pd).length:Int) by rw[GS]] at a
 obtain ⟨Z',e,v1,v2,rfl⟩:=bD (bnd:=ao 1) (b:=bI) (λ_ Z=>∃ v1 v2,Z=[#v[Shd ps],v1,v2]) (ds:=(fk ps.length).map Td) (Z:=[#v[Shd ps],none,none]) (k:=0) #[none,none,rfl] (by
  rintro m d Z hd ⟨v1,v2,rfl⟩
  rw[GY,GJ] at hd
  obtain ⟨t,a,rfl⟩:=hd
  obtain ⟨i,l,n⟩:=js (GV a)
  have f:ps[t.1]?=some (ps[t.1]'(by lia)):=GO _
  have c:ps[t.2.1]?=some (ps[t.2.1]'(by lia)):=GO _
  have h:ps[t.2.2]?=some (ps[t.2.2]'(by lia)):=GO _
  have b:=zT (v2:=v2) (ee (xu f)) (ee (xu c)) (ee (xu h)) (g _ (GV f)) (g _ (GV c)) (j _ _ _ _ _ _ i l f c h)
  exact #[[#v[Shd ps],#v[Td t],v2],_,rfl,.inl b,_,_,rfl])
 apply aQ (Z:=[#v[Shd ps],none,none]) rfl rfl
 .apply ak
  .apply cS
   .nomatch [a]
   .rfl
   .exact e
  .nofun
 .rfl
theorem p4 {ps:List Pt} (g:GoodSh ps):fV [(Shd ps,.z)]=some (.ok (.bl true,.z),[(Shd ps,.z)]):=by
 have h1:=yo ps g.pos g.most
 have h2:=yg ps g.pos g.most g.rising
 have h3:=Be ps g.most g.small g.noline
 apply aQ (Z:=[#v[Shd ps]]) rfl rfl
 .apply ak
  .apply aU
   .nomatch [h1]
   .rfl
   .rfl
  .nomatch [h2,h3]
 .rfl
def pL (p q r:Pt):Int:=if 0 < aS p q r then 1 else -1
theorem sD {S:List L3.D} {i j k:Int} {p q r:Pt} (a1:aA (.tup S) (.int i)=#v[Pd p]) (a2:aA (.tup S) (.int j)=#v[Pd q]) (c:aA (.tup S) (.int k)=#v[Pd r]) (a:Small p) (d:Small q):d7 [(.tup S,.z),(.tup [.int i,.int j,.int k],.z)]=some (.ok (.int (pL p q r),.z),[(.tup S,.z),(.tup [.int i,.int j,.int k],.z)]):=by
 have b:=ni p q r (Small.sub a d).1 (Small.sub a d).2
 by_cases h:0 < aS p q r
 .rw[show pL p q r=1 from if_pos h]
  apply aQ (Z:=[#v[.tup S],#v[.tup [.int i,.int j,.int k]]]) rfl rfl
  .apply bf
   .apply F3
    .nomatch [b],[a1,a2,c]
    .exact G7 h
    .exact i_c
   .rfl
  .rfl
 .rw[show pL p q r = -1 from if_neg h]
  apply aQ (Z:=[#v[.tup S],#v[.tup [.int i,.int j,.int k]]]) rfl rfl
  .apply bf
   .apply F4
    .nomatch [b],[a1,a2,c]
    .exact G8 h
    .nofun
   .rfl
  .rfl
theorem eW (c:Int) (m:Int) (h:0 < m):0<=c % m/\c % m < m:=#[Int.emod_nonneg _ (by lia),Int.emod_lt_of_pos _ h]
theorem gq (n m:Int) (h:0 < m/\m < 1073741824):bc [(.lst [.int n],.u),(.int m,.z)]=some (.ok (.int (n % m),.z),[(.lst [.int (n / m)],.u),(.int m,.z)]):=by
 have hd:z8 [.int n,.int m]=#v[.tup [.int (n / m),.int (n % m)]]:=by simp[c2,qN,h]
 apply aQ (Z:=[some (.lst [.int n],.u),#v[.int m],none,none]) rfl rfl
 .apply ak
  .exists hd
  .apply ak
   .nofun
   .nofun
 .rfl
theorem p5 (p q r:Int×Int) (h1:-18446744073709551616 < q.1 - p.1/\q.1 - p.1 < 18446744073709551616) (h2:-18446744073709551616 < q.2 - p.2/\q.2 - p.2 < 18446744073709551616):eI [(Pd p,.z),(Pd q,.z),(Pd r,.z)]=some (.ok (.int (aS p q r),.z),[(Pd p,.z),(Pd q,.z),(Pd r,.z)]):=by
 apply aQ (Z:=[#v[Pd p],#v[Pd q],#v[Pd r],none,none,none]) rfl rfl
 .apply ak
  .nofun
  apply ak
  .exists fZ h1
  .exists fZ h2
 .rfl
theorem yk (ns:List Int) (k:Nat):∃ n:Int,jP [(.fls (ns.map .int),.z),(.int k,.z)]=some (.ok (.int n,.z),[(.fls (ns.map .int),.z),(.int k,.z)]):=by
 by_cases h:k < ns.length
 .refine #[ns[k],?_]
  have a:aA (.fls (ns.map .int)) (.int (k:Int))=#v[.int ns[k]]:=by
   have:L2.atI (ns.map L3.D.int) (k:Int)=some (.int ns[k]):=vH (by simp[h])
   simp[orD,ixD,this]
  have b:(k:Int) < ((ns.map L3.D.int).length:Int):=by simp;lia
  generalize (k:Int)=kk at *
  apply aQ (Z:=[#v[.fls (ns.map .int)],#v[.int kk]]) rfl rfl
  .apply bU
   apply b7
   .nofun
   .exact G7 b
   .exists a
  .rfl
 .refine #[0,?_]
  have b:¬ (k:Int) < ((ns.map L3.D.int).length:Int):=by simp;lia
  generalize (k:Int)=kk at *
  apply aQ (Z:=[#v[.fls (ns.map .int)],#v[.int kk]]) rfl rfl
  .apply ak
   .apply aU
    .nofun
    .exact G8 b
    .rfl
   .nofun
  .rfl
theorem Ba (c j:Int):∃ n:Int,lu [(.int c,.z),(.int j,.z)]=some (.ok (.int n,.z),[(.int c,.z),(.int j,.z)]):=by
 have a:=eW c 2147483647 (by decide)
 have b:=eW j 13 (by decide)
 obtain ⟨m,hm⟩:∃ m:Nat,j % 13=m:=#[(j % 13).toNat,by lia]
 have d:m < 13:=by lia
 have e:∃ v:Int,aA (.lst [.int 48271,.int 69621,.int 16807,.int 39373,.int 30269,.int 40014,.int 40692,.int 50021,.int 61687,.int 71993,.int 83869,.int 95561,.int 30307]) (.int (j % 13))=#v[.int v]:=by
  rw[hm]
  clear hm
  match m,d with
  | 0,_=>exact #[_,rfl]
  | 1,_=>exact #[_,rfl]
  | 2,_=>exact #[_,rfl]
  | 3,_=>exact #[_,rfl]
  | 4,_=>exact #[_,rfl]
  | 5,_=>exact #[_,rfl]
  | 6,_=>exact #[_,rfl]
  | 7,_=>exact #[_,rfl]
  | 8,_=>exact #[_,rfl]
  | 9,_=>exact #[_,rfl]
  | 10,_=>exact #[_,rfl]
  | 11,_=>exact #[_,rfl]
  | 12,_=>exact #[_,rfl]
 obtain ⟨v,f⟩:=e
 have c1:-18446744073709551616 < c % 2147483647+12345/\c % 2147483647+12345 < 18446744073709551616:=by lia
 have c2:∀ z:Int,-18446744073709551616 < z % 1000000007/\z % 1000000007 < 18446744073709551616:=λz=>by
  have:=eW z 1000000007 (by decide)
  lia
 apply Exists.intro
 apply aQ (Z:=[#v[.int c],#v[.int j],none,none]) rfl rfl
 .apply ak
  .nofun
  apply ak
  .exists f,fZ (by decide),fZ c1
  apply ak
  .nofun
  .exists fZ (by decide),fZ (c2 _)
 .rfl
theorem Bf (ns:List Int) (k:Nat):∃ n:Int,lw [(.fls (ns.map .int),.z),(.int k,.z)]=some (.ok (.lst [.int n],.u),[(.fls (ns.map .int),.z),(.int k,.z)]):=by
 obtain ⟨c,a⟩:=yk ns k
 generalize L3.D.fls (ns.map .int)=S at *
 generalize L3.D.int (k:Int)=kk at *
 by_cases h:c % 2=0
 .apply Exists.intro
  apply aQ (Z:=[#v[S],#v[kk],none,none,none]) rfl rfl
  .apply ak
   .nomatch [a]
   apply bU
   apply b7
   .nofun
   .exact G7 h
   .nofun
  .rfl
 .obtain ⟨Z',e,n,v4,rfl⟩:=bD (bnd:=ao 4) (b:=iX) (λ_ Z=>∃ (n:Int) (v4:Option (L3.D×Fl)),Z=[#v[S],#v[kk],#v[.int c],#v[.int n],v4]) (ds:=bm 0 40) (Z:=[#v[S],#v[kk],#v[.int c],#v[.int 0],none]) (k:=0) #[0,none,rfl] (by
   rintro i d Z hd ⟨n,v4,rfl⟩
   obtain ⟨hi,rfl⟩:=bX hd
   obtain ⟨m,hm⟩:=Ba c (0+(i:Int))
   generalize (0+(i:Int))=j at *
   exact #[_,[#v[S],#v[kk],#v[.int c],#v[.int (n * 142857143+m)],#v[.int j]],rfl,.inl (by unfold iX;(nomatch [hm],[zo (by decide)])),_,_,rfl])
  refine #[n,?_]
  apply aQ (Z:=[#v[S],#v[kk],none,none,none]) rfl rfl
  .apply ak
   .nomatch [a]
   apply ak
   .apply aU
    .nofun
    .exact G8 h
    .rfl
   apply ak
   .nofun
   apply ak
   .apply cS
    .exact eV (by (nofun)) rfl (c8 (n:=40) (by decide) (by decide))
    .rfl
    .exact e
   .nofun
  .rfl
theorem zR {X ρ:L3.D} {f:Fl} {k:L3.D} {p q:L3.D} {b:Int} (a:eI [(p,.z),(q,.z),(ρ,.z)]=some (.ok (.int b,.z),[(p,.z),(q,.z),(ρ,.z)])) :
  dg [some (X,f),#v[ρ],#v[k],#v[q],#v[p]]=some (.ok (if b=0 then .rt (.bl false) .z else .nx),[some (X,f),#v[ρ],#v[k],#v[q],#v[p]]):=by
 by_cases h:b=0
 .rw[if_pos h]
  apply b7
  .nomatch [a]
  .exact G7 h
  .nofun
 .rw[if_neg h]
  apply aU
  .nomatch [a]
  .exact G8 h
  .rfl
theorem yj (ps:List Pt) (z:Pt) (A:∀ p∈ps,Small p) (G:ps.length<=24):∃ b:Bool,jO [(.lst (ps.map Pd),.u),(Pd z,.z)]=some (.ok (.bl b,.z),[(.lst (ps.map Pd),.u),(Pd z,.z)])/\(b=true->AE ps z)/\(b=false->∃ (i j:Nat) (p q:Pt),i < j/\ps[i]?=some p/\ps[j]?=some q/\aS p q z=0):=by
 have inner:∀ (i:Nat) (q:Pt) (v4:Option (L3.D×Fl)),ps[i]?=some q->∃ a,cL (ao 4) dg ((ps.take i).map Pd) [some (.lst (ps.map Pd),.l),#v[Pd z],#v[.int i],#v[Pd q],v4]=some (.ok .nx,[some (.lst (ps.map Pd),.l),#v[Pd z],#v[.int i],#v[Pd q],a])/\(∀ j p,j < i->ps[j]?=some p->aS p q z≠0) \/
   cL (ao 4) dg ((ps.take i).map Pd) [some (.lst (ps.map Pd),.l),#v[Pd z],#v[.int i],#v[Pd q],v4]=some (.ok (.rt (.bl false) .z),[some (.lst (ps.map Pd),.l),#v[Pd z],#v[.int i],#v[Pd q],a])/\∃ j p,j < i/\ps[j]?=some p/\aS p q z=0:=by
  intro i q v4 t
  have hi:i < ps.length:=(GU.mp t).1
  obtain ⟨Z',h⟩:=o8 (bnd:=ao 4) (b:=dg) (λm Z=>∃ v4,Z=[some (.lst (ps.map Pd),.l),#v[Pd z],#v[.int i],#v[Pd q],v4]/\∀ j p,j < m->ps[j]?=some p->aS p q z≠0)
   (λm r f Z=>r=.bl false/\f=.z/\∃ v4,Z=[some (.lst (ps.map Pd),.l),#v[Pd z],#v[.int i],#v[Pd q],v4]/\∃ p,ps[m]?=some p/\aS p q z=0)
   (ds:=(ps.take i).map Pd) (Z:=[some (.lst (ps.map Pd),.l),#v[Pd z],#v[.int i],#v[Pd q],v4]) (k:=0) #[v4,rfl,λj p h=>absurd h (Nat.not_lt_zero _)] (by
    rintro m d Z hd ⟨v4,rfl,y⟩
    rw[GY,GJ] at hd
    obtain ⟨p,n,rfl⟩:=hd
    have v:ps[m]?=some p/\m < i:=by
     rw[List.getElem?_take] at n
     split at n
     .exact #[n,by assumption]
     .cases n
    have sm:=Small.sub (A p (GV v.1)) (A q (GV t))
    have rb:=p5 p q z sm.1 sm.2
    have rb:=zR (X:=.lst (ps.map Pd)) (f:=.l) (k:=.int (i:Int)) rb
    by_cases h0:aS p q z=0
    .rw[if_pos h0] at rb
     exact #[_,_,rfl,.inr #[.bl false,.z,rb,rfl,rfl,_,rfl,p,by simpa using v.1,h0]]
    .rw[if_neg h0] at rb
     refine #[_,_,rfl,.inl #[.inl rb,_,rfl,λj C s w=>?_]]
     by_cases e:j=m
     .subst e;rw[v.1] at w;cases w;exact h0
     .exact y j C (by lia) w)
  rcases h with ⟨e,a,rfl,h⟩ | ⟨m,r,f,hm,e,rfl,rfl,a,rfl,p,n,h0⟩
  .exact #[a,.inl #[e,λj p s=>h j p (by simp;lia)]]
  .refine #[a,.inr #[e,m,p,by simp at hm;lia,by simpa using n,h0]]
 obtain ⟨Z',h⟩:=o8 (bnd:=kW 2 (bS (ao 2) (bS (ao 3) kX))) (b:=kI) (λm Z=>∃ v2 g v4,Z=[some (.lst (ps.map Pd),.l),#v[Pd z],v2,g,v4]/\∀ i j p q,i < j->j < m->ps[i]?=some p->ps[j]?=some q->aS p q z≠0)
   (λm r f Z=>r=.bl false/\f=.z/\∃ v2 g v4,Z=[some (.lst (ps.map Pd),.l),#v[Pd z],v2,g,v4]/\∃ (i j:Nat) (p q:Pt),i < j/\ps[i]?=some p/\ps[j]?=some q/\aS p q z=0)
   (ds:=ic 0 (ps.map Pd)) (Z:=[some (.lst (ps.map Pd),.l),#v[Pd z],none,none,none]) (k:=0) #[_,_,_,rfl,λi j p q _ h=>absurd h (Nat.not_lt_zero _)] (by
    rintro m d Z hd ⟨v2,g,v4,rfl,y⟩
    rw[ki,GY,Option.map_map,GJ] at hd
    obtain ⟨q,t,rfl⟩:=hd
    have hm:m < ps.length:=(GU.mp t).1
    obtain ⟨a,h⟩:=inner m q v4 t
    have sl:=CH (xs:=ps.map Pd) (m:=m) (by simp;lia)
    rw[<- List.map_take] at sl
    have x:slD (.lst (ps.map Pd)) none (some (m:Int))=some (.lst ((ps.take m).map Pd),.u):=by
     show some (L3.D.lst (mQ (ps.map Pd) none (some (m:Int))),Fl.u)=_
     rw[sl]
    rcases h with ⟨e,h⟩ | ⟨e,j,p,s,n,h0⟩
    .refine #[_,[some (.lst (ps.map Pd),.l),#v[Pd z],#v[.int m],#v[Pd q],a],by rw[Ha];rfl,.inl #[.inl (cS (dW (FY (ae rfl) o3 (o0 (ae rfl) rfl) rfl x) rfl rfl) rfl e),_,_,_,rfl,λi j p F c s hi o=>?_]]
     by_cases B:j=m
     .subst B;rw[t] at o;cases o;exact h i p c hi
     .exact y i j p F c (by lia) hi o
    .refine #[_,[some (.lst (ps.map Pd),.l),#v[Pd z],#v[.int m],#v[Pd q],a],by rw[Ha];rfl,.inr #[.bl false,.z,cS (dW (FY (ae rfl) o3 (o0 (ae rfl) rfl) rfl x) rfl rfl) rfl e,rfl,rfl,_,_,_,rfl,j,m,p,q,s,n,t,h0]])
 rcases h with ⟨e,v2,g,v4,rfl,h⟩ | ⟨m,r,f,hm,e,rfl,rfl,v2,g,v4,rfl,E⟩
 .refine #[true,?_,λ_ i j p q c hi s=>h i j p q c ?_ hi s,λh=>by cases h]
  .generalize ps.map Pd=P at *
   apply aQ (Z:=[some (.lst P,.u),#v[Pd z],none,none,none]) (Z1:=[some (.lst P,.u),#v[Pd z],v2,g,v4]) rfl rfl
   .exact ak (i7 (is:=[0]) (rs:=[.pl 0]) (Z1:=[some (.lst P,.u),#v[Pd z],none,none,none]) rfl rfl e) (bf i_c rfl)
   .rfl
  .have:=(GU.mp s).1
   simp[kh];lia
 .refine #[false,?_,λh=>(by cases h),λ_=>E]
  generalize ps.map Pd=P at *
  apply aQ (Z:=[some (.lst P,.u),#v[Pd z],none,none,none]) (Z1:=[some (.lst P,.u),#v[Pd z],v2,g,v4]) rfl rfl
  .exact bU (i7 (is:=[0]) (rs:=[.pl 0]) (Z1:=[some (.lst P,.u),#v[Pd z],none,none,none]) rfl rfl e)
  .rfl
theorem sq_le {i:Nat} (h:i < 12):0<=(i:Int) * (i:Int)/\(i:Int) * (i:Int)<=144:=by
 have h1:i * i<=12 * 12:=Nat.mul_le_mul (by lia) (by lia)
 have h2:(i:Int) * (i:Int)=((i * i:Nat):Int):=by simp
 rw[h2];lia
theorem AI {i:Nat} {g kd:Int} (hi:i < 12) (h:-15<=g) (g1:g<=15) (d:0<=kd) (b:kd < 6) :
  ∃ y:Int,aA (.lst [.int g,.int g,.int ((i:Int) * i+g / 9),.int (g / 9 - (i:Int) * i),.int (((i:Int) * i+30) * (1 - 2 * ((i:Int) % 2))),.int (g * 1000)]) (.int kd)=#v[.int y]/\-16000<=y/\y<=16000:=by
 obtain ⟨c,f⟩:=sq_le hi
 obtain ⟨j,rfl⟩:∃ j:Nat,kd=(j:Int):=#[kd.toNat,by lia]
 have a:j < 6:=by lia
 generalize (i:Int) * (i:Int)=qq at *
 have hm:(qq+30) * (1 - 2 * ((i:Int) % 2))<=16000/\-16000<=(qq+30) * (1 - 2 * ((i:Int) % 2)):=by
  rcases Int.emod_two_eq (i:Int) with e | e
  .rw[e];simp;lia
  .rw[e];simp;lia
 generalize (qq+30) * (1 - 2 * ((i:Int) % 2))=zz at *
 match j,a with
 | 0,_=>exact #[_,rfl,by lia,by lia]
 | 1,_=>exact #[_,rfl,by lia,by lia]
 | 2,_=>exact #[_,rfl,by lia,by lia]
 | 3,_=>exact #[_,rfl,by lia,by lia]
 | 4,_=>exact #[_,rfl,by lia,by lia]
 | 5,_=>exact #[_,rfl,by lia,by lia]
abbrev cU (n most many kd x:Int) (ps:List Pt) (v6 v7 v8 v9:Option (L3.D×Fl)):Sto:=[some (.lst [.int n],.u),#v[.int most],#v[.int many],#v[.int kd],#v[.int x],some (.lst (ps.map Pd),.u),v6,v7,v8,v9]
theorem sE {n most many kd x y0:Int} {ps:List Pt} {v6 v7 v8:Option (L3.D×Fl)} (R:Rising ps) (k:∀ p∈ps,Small p) (r:ps.length<=12) :
  ∃ y,gp cz dQ (cU n most many kd x ps v6 v7 v8 #v[.int y0])=some (.ok .nx,cU n most many kd x ps v6 v7 v8 #v[.int y])/\AE ps (x,y)/\y0<=y/\y<=y0+144:=by
 have f:above ps x y0<=144:=by
  have h1:=AC ps x y0
  have h2:ps.length * ps.length<=12 * 12:=Nat.mul_le_mul (by lia) (by lia)
  lia
 obtain ⟨Z',e,y,rfl,hf,h1,h2⟩:=vL (c:=cz) (b:=dQ) (λm Z=>∃ y:Int,Z=cU n most many kd x ps v6 v7 v8 #v[.int y]/\m=above ps x y/\y0<=y/\y+(above ps x y:Int)<=y0+(above ps x y0:Int))
  (λZ=>∃ y:Int,Z=cU n most many kd x ps v6 v7 v8 #v[.int y]/\AE ps (x,y)/\y0<=y/\y<=y0+144) (Z:=cU n most many kd x ps v6 v7 v8 #v[.int y0]) #[y0,rfl,rfl,Int.le_refl _,Int.le_refl _] (by
   rintro m Z ⟨y,rfl,rfl,h1,h2⟩
   obtain ⟨b,h,l,hf⟩:=yj ps (x,y) k (by lia)
   have g:cz (cU n most many kd x ps v6 v7 v8 #v[.int y])=some (.ok (!b),cU n most many kd x ps v6 v7 v8 #v[.int y]):=by
    unfold cz
    nomatch [h]
   cases b with
   | true=>exact .inl #[_,g,y,rfl,l rfl,h1,by lia]
   | false =>
    obtain ⟨i,j,p,q,a,e1,o,h0⟩:=hf rfl
    have d:=AB R a e1 o h0
    exact .inr #[_,cU n most many kd x ps v6 v7 v8 #v[.int (y+1)],_,g,.inl (by unfold dQ;(nofun)),d,y+1,rfl,rfl,by lia,by lia])
 exact #[y,e,hf,h1,h2]
theorem ye {n most many kd x:Int} {i:Nat} {ps:List Pt} {v7 v8 v9:Option (L3.D×Fl)} (R:Rising ps) (m:∀ p∈ps,Small p) (s:ps.length<=12) (hi:i < 12) (A:0<=kd) (o:kd < 6) :
  ∃ (k d y:Int) (a e b:Option (L3.D×Fl)),cA (cU n most many kd x ps #v[.int i] v7 v8 v9)=some (.ok .nx,cU k most many kd (x+1+d) (ps++[(x+1+d,y)]) #v[.int i] a e b)/\0<=d/\d < 3/\AE ps (x+1+d,y)/\-16000<=y/\y<=16144:=by
 have t:=gq
 have C:=eW (n / 3) 31 (by decide)
 have f:=eW n 3 (by decide)
 generalize r:n / 3 % 31 - 15=G at *
 obtain ⟨y0,w,E,B⟩:=AI (i:=i) (g:=G) (kd:=kd) hi (by lia) (by lia) A o
 have j:-18446744073709551616 < (i:Int)/\(i:Int) < 18446744073709551616:=by lia
 have v:-18446744073709551616 < 1 - 2 * ((i:Int) % 2)/\1 - 2 * ((i:Int) % 2) < 18446744073709551616:=by lia
 generalize c:x+1+n % 3=X at *
 obtain ⟨y,q,hf,h1,h2⟩:=sE (n:=n / 3 / 31) (most:=most) (many:=many) (kd:=kd) (x:=X) (y0:=y0) (ps:=ps) (v6:=#v[.int i]) (v7:=#v[.int G]) (v8:=some (.lst [.int G,.int G,.int ((i:Int) * i+G / 9),.int (G / 9 - (i:Int) * i),.int (((i:Int) * i+30) * (1 - 2 * ((i:Int) % 2))),.int (G * 1000)],.u)) R m s
 refine #[n / 3 / 31,n % 3,y,#v[.int G],some (.lst [.int G,.int G,.int ((i:Int) * i+G / 9),.int (G / 9 - (i:Int) * i),.int (((i:Int) * i+30) * (1 - 2 * ((i:Int) % 2))),.int (G * 1000)],.u),#v[.int y],?_,f.1,f.2,by rw[c];exact hf,by lia,by lia]
 rw[c]
 have l:(ps.map Pd).length < 16777216:=by simp;lia
 have h:=Gw (d:=Pd (X,y)) l
 rw[show ps.map Pd++[Pd (X,y)]=(ps++[(X,y)]).map Pd by simp] at h
 clear hi
 generalize (i:Int)=zi at *
 unfold cA
 apply ak (Z1:=cU (n / 3) most many kd X ps #v[.int zi] v7 v8 v9)
 .rw[<- c]
  nomatch [(t _ _ (by decide))]
 apply ak (Z1:=cU (n / 3 / 31) most many kd X ps #v[.int zi] #v[.int G] v8 v9)
 .rw[<- r]
  nomatch [(t _ _ (by decide))]
 apply ak (Z1:=cU (n / 3 / 31) most many kd X ps #v[.int zi] #v[.int G] (some (.lst [.int G,.int G,.int (zi * zi+G / 9),.int (G / 9 - zi * zi)],.u)) v9)
 .exists fZ j
 apply ak (Z1:=cU (n / 3 / 31) most many kd X ps #v[.int zi] #v[.int G] (some (.lst [.int G,.int G,.int (zi * zi+G / 9),.int (G / 9 - zi * zi),.int ((zi * zi+30) * (1 - 2 * (zi % 2))),.int (G * 1000)],.u)) v9)
 .exists fZ j,fZ (by decide),zo v,zo (by decide)
 apply ak (Z1:=cU (n / 3 / 31) most many kd X ps #v[.int zi] #v[.int G] (some (.lst [.int G,.int G,.int (zi * zi+G / 9),.int (G / 9 - zi * zi),.int ((zi * zi+30) * (1 - 2 * (zi % 2))),.int (G * 1000)],.u)) #v[.int y0])
 .exists w
 apply ak
 .exact q
 .exists h
set_option tactic.hygienic true in
theorem yi {n most many kd x:Int} (hm:0<=many/\many<=12) (s:0<=kd) (p:kd < 6) (x0:-4<=x) (x1:x<=4) :
  ∃ (g l:Int) (ps:List Pt) (v6 v7 v8 v9:Option (L3.D×Fl)),cj (bF dn (aa (ac 2) ai)) (ao 6) cA (cU n most many kd x [] none none none none)=some (.ok .nx,cU g most many kd l ps v6 v7 v8 v9)/\(ps.length:Int)=many/\Rising ps/\NoLine ps/\(∀ q∈ps,-5<=q.1/\q.1<=100/\-17000<=q.2/\q.2<=17000):=by
 obtain ⟨Z',e,g,l,ps,v6,v7,v8,v9,rfl,m,c,f,bnd,h1,h2⟩:=bD (bnd:=ao 6) (b:=cA) (λi Z=>∃ (n x:Int) (ps:List Pt) (v6 v7 v8 v9:Option (L3.D×Fl)),Z=cU n most many kd x ps v6 v7 v8 v9/\ps.length=i/\Rising ps/\NoLine ps/\(∀ q∈ps,q.1<=x/\-5<=q.1/\-17000<=q.2/\q.2<=17000)/\-4<=x/\x<=4+3 * (i:Int))
  (ds:=bm 0 many.toNat) (Z:=cU n most many kd x [] none none none none) (k:=0) #[n,x,[],none,none,none,none,rfl,rfl,λ_ _ _ _ _ e _=>by simp at e,λ_ _ _ _ _ _ _ _ e _ _=>by simp at e,λ_ e=>by simp at e,by lia,by lia] (by
   rintro i d Z hd ⟨n,x,ps,v6,v7,v8,v9,rfl,m,c,f,bnd,h1,h2⟩
   obtain ⟨hi,rfl⟩:=bX hd
   have j:∀ q∈ps,Small q:=λq a=>by
    obtain ⟨a1,a2,o,a4⟩:=bnd q a
    exact #[by lia,by lia,by lia,by lia]
   obtain ⟨g,h,y,r,v,t,e,w,d1,fr,y0,A⟩:=ye (n:=n) (most:=most) (many:=many) (kd:=kd) (x:=x) (i:=i) (ps:=ps) (v7:=v7) (v8:=v8) (v9:=v9) c j (by lia) (by lia) s p
   refine #[cU n most many kd x ps #v[.int i] v7 v8 v9,_,by rw[Int.zero_add];rfl,.inl e,g,x+1+h,ps++[(x+1+h,y)],_,_,_,_,rfl,by simp;lia,c.snoc λq a=>?_,f.snoc fr,λq a=>?_,by lia,by lia]
   .show q.1 < x+1+h
    have:=(bnd q a).1
    lia
   .rcases GQ.mp a with a | a
    .obtain ⟨a1,a2,o,a4⟩:=bnd q a
     exact #[by lia,by lia,by lia,by lia]
    .have e:q=(x+1+h,y):=by simpa using a
     subst e
     exact #[Int.le_refl _,by show -5<=x+1+h;lia,by show -17000<=y;lia,by show y<=17000;lia])
 rw[cw] at m h2
 have u:dn [.int many]=some (bm 0 many.toNat):=c8 (by lia) rfl
 refine #[g,l,ps,v6,v7,v8,v9,?_,by lia,c,f,λq a=>?_]
 .apply cS
  ·(repeat' (first | with_reducible apply eV (h3:=u) | infer_instance | eq_refl))
  .rfl
  .exact e
 .obtain ⟨a1,a2,o,a4⟩:=bnd q a
  exact #[by lia,by lia,by lia,by lia]
abbrev scJ (p:Pt):Pt:=iP 1000000000000 1000000000 7 p
theorem pow12:sP (.int 10) (.int 12)=#v[.int 1000000000000]:=rfl
theorem pow9:sP (.int 10) (.int 9)=#v[.int 1000000000]:=rfl
theorem wd (ps:List Pt) (g:ps.length<=24) {n most many kd x:Int} {v6 v7 v8 v9:Option (L3.D×Fl)}:aV 5 dP (cU n most many kd x ps v6 v7 v8 v9)=some (.ok .nx,cU n most many kd x (ps.map scJ) v6 v7 v8 v9):=by
 obtain ⟨τ',e,a,b,rfl⟩:=cM (bnd:=kW 2 (bS (ao 0) (bS (ao 1) kX))) (c:=b9) (elt:=fP) (λτ=>∃ a b,τ=[a,b]) Pd (λ_=>true) (λp=>Pd (scJ p)) (xs:=ps) (τ:=[none,none]) #[none,none,rfl] (by
  rintro p f τ ⟨a,b,rfl⟩
  exact #[[#v[.int p.1],#v[.int p.2]],_,rfl,rfl,(λh=>by cases h),λ_=>#[.val (Pd (scJ p)) .z,[#v[.int p.1],#v[.int p.2]],(Pd (scJ p),.z),_,by unfold fP;(exists pow12,pow9,fZ (by decide)),rfl,rfl,_,_,rfl]])
 rw[Hq.mpr (λ_ _=>rfl)] at e
 have d:dP (cU n most many kd x ps v6 v7 v8 v9)=some (.ok (.val (.lst (ps.map λp=>Pd (scJ p))) .u),cU n most many kd x ps v6 v7 v8 v9):=bp (rs:=[.pl 5]) (Z1:=cU n most many kd x ps v6 v7 v8 v9) (Z2:=[some (.lst [.int n],.u),#v[.int most],#v[.int many],#v[.int kd],#v[.int x],some (.lst (ps.map Pd),.l),v6,v7,v8,v9]) rfl e (by simp;lia) rfl
 rw[show (ps.map λp=>Pd (scJ p))=(ps.map scJ).map Pd by simp] at d
 exact cK d rfl (Nat.le_of_ble_eq_true rfl) rfl
theorem wc (n most:Int) (h1:1<=most) (h2:most<=12):∃ (b:Int) (ps:List Pt),fD [(.lst [.int n],.u),(.int most,.z)]=some (.ok (.tup (ps.map Pd),.z),[(.lst [.int b],.u),(.int most,.z)])/\GoodSh ps/\(ps.length:Int)<=most:=by
 have t:=gq
 have m:=eW n most (by lia)
 have i:=eW (n / most) 6 (by decide)
 have l:=eW (n / most / 6) 9 (by decide)
 obtain ⟨b,j,ps,v6,v7,v8,v9,e,o,c,d,bnd⟩:=yi (n:=n / most / 6 / 9) (most:=most) (many:=1+n % most) (kd:=n / most % 6) (x:=n / most / 6 % 9 - 4) #[by lia,by lia] i.1 i.2 (by lia) (by lia)
 have good:GoodSh ps:=⟨by lia,by lia,λq g=>by
  obtain ⟨a1,a2,k,a4⟩:=bnd q g
  exact ⟨by lia,by lia,by lia,by lia⟩,c,d⟩
 have a:GoodSh (ps.map scJ):=⟨by simpa using good.pos,by simpa using good.most,λq g=>by
  obtain ⟨r,f,rfl⟩:=GX.mp g
  obtain ⟨a1,a2,k,a4⟩:=bnd r f
  exact ⟨by show -(2 ^ 62) < (1000000000000:Int) * r.1+7;lia,by show (1000000000000:Int) * r.1+7 < 2 ^ 62;lia,by show -(2 ^ 62) < (1000000000:Int) * r.2;lia,by show (1000000000:Int) * r.2 < 2 ^ 62;lia⟩,c.scale (by decide),d.scale (by decide) (by decide)⟩
 have pre:∀ {r:Option (Except L3.D Flw×Sto)},aE (sIf (cB (ah eqX (aw bc (aa (ac 0) (aa (mC (.int 6)) ai))) (mC (.int 5)))) (aV 5 dP) dH) (aN 2 (av AK (aa (ac 5) ai))) (cU b most (1+n % most) (n / most % 6) j ps v6 v7 v8 v9)=r->nE [some (.lst [.int n],.u),#v[.int most],none,none,none,none,none,none,none,none]=r:=by
  intro r f
  apply ak (Z1:=[some (.lst [.int (n / most)],.u),#v[.int most],#v[.int (1+n % most)],none,none,none,none,none,none,none])
  .nomatch [(t n most (by lia))]
  apply ak (Z1:=[some (.lst [.int (n / most / 6)],.u),#v[.int most],#v[.int (1+n % most)],#v[.int (n / most % 6)],none,none,none,none,none,none])
  .nomatch [(t _ _ (by decide))]
  apply ak (Z1:=[some (.lst [.int (n / most / 6 / 9)],.u),#v[.int most],#v[.int (1+n % most)],#v[.int (n / most % 6)],#v[.int (n / most / 6 % 9 - 4)],none,none,none,none,none])
  .nomatch [(t _ _ (by decide))]
  apply ak (Z1:=cU (n / most / 6 / 9) most (1+n % most) (n / most % 6) (n / most / 6 % 9 - 4) [] none none none none)
  .nofun
  exact ak e f
 by_cases h:b % 6=5
 .refine #[b / 6,ps.map scJ,?_,a,by rw[GS];lia]
  apply aQ (Z:=[some (.lst [.int n],.u),#v[.int most],none,none,none,none,none,none,none,none]) rfl rfl
  .apply pre
   apply ak
   .apply b7
    .nomatch [(t _ _ (by decide))]
    .exact G7 h
    .exact wd ps (by lia)
   .nofun
  .rfl
 .refine #[b / 6,ps,?_,good,by lia]
  apply aQ (Z:=[some (.lst [.int n],.u),#v[.int most],none,none,none,none,none,none,none,none]) rfl rfl
  .apply pre
   apply ak
   .apply aU
    .nomatch [(t _ _ (by decide))]
    .exact G8 h
    .rfl
   .nofun
  .rfl
def a8 (ps:List Pt) (i:Nat):Pt:=ps.getD i (0,0)
theorem qf {ps:List Pt} {i:Nat} (h:i < ps.length):ps[i]?=some (a8 ps i):=by
 simp[a8,List.getD,GO h]
theorem fN {ps:List Pt} {i:Nat} (a:∀ p∈ps,Small p) (h:i < ps.length):Small (a8 ps i):=a _ (GV (qf h))
theorem jS {ps:List Pt} {i:Nat} (h:i < ps.length):aA (Shd ps) (.int i)=#v[Pd (a8 ps i)]:=ee (xu (qf h))
def tq (ps:List Pt) (t:Tri):Int:=pL (a8 ps t.1) (a8 ps t.2.1) (a8 ps t.2.2)
abbrev tk (t:Tri):List Key:=[.inl (t.1:Int),.inl (t.2.1:Int),.inl (t.2.2:Int)]
theorem xE {t u:Tri} (h:tk t=tk u):t=u:=by
 simp only[tk,List.cons.injEq,Sum.inl.injEq,and_true] at h
 exact Prod.ext (by lia) (Prod.ext (by lia) (by lia))
def tb (ps:List Pt) (l:List Tri):List (List Key×L3.D):=l.map λt=>(tk t,.int (tq ps t))
theorem EU {ps:List Pt} {l:List Tri} {t:Tri} (h:t ∉ l):dL (tb ps l) (tk t) (.int (tq ps t))=tb ps (l++[t]):=by
 have b:¬ ((tb ps l).any λc=>decide (c.1=tk t))=true:=by
  intro d
  obtain ⟨x,a,e⟩:=List.any_eq_true.mp d
  obtain ⟨u,hu,rfl⟩:=GX.mp a
  exact h (xE (of_decide_eq_true e) ▸ hu)
 unfold dL
 rw[if_neg b]
 unfold tb
 rw[List.map_append]
 rfl
theorem zN {ps:List Pt} {t:Tri}:∀ {l:List Tri},t∈l->b8 (tb ps l) (tk t)=some (.int (tq ps t))
 | u::l,h=>by
  unfold b8 tb
  rw[G6,List.find?_cons]
  by_cases e:tk u=tk t
  .rw[xE e];simp
  .have:t∈l:=by
    rcases GN.mp h with rfl | h
    .exact absurd rfl e
    .exact h
   have a:=zN (ps:=ps) this
   unfold b8 tb at a
   simp only[e,decide_false]
   exact a
theorem Ed {ps:List Pt} {l:List Tri} {t:Tri} (h:t∈l):aA (.dt (tb ps l)) (Td t)=#v[.int (tq ps t)]:=by
 show (b8 (tb ps l) (tk t)).map (λd=>(d,Fl.z))=_
 rw[zN h];rfl
theorem El {ps:List Pt} {l:List Tri} {t:Tri} (h:t ∉ l) (a:l.length < 16777216):jV (.dt (tb ps l)) [Td t,.int (tq ps t)]=some (.dt (tb ps (l++[t])),.non):=by
 show (if (tb ps l).length < 16777216 then some (L3.D.dt (dL (tb ps l) (tk t) (.int (tq ps t))),L3.D.non) else none)=_
 rw[if_pos (by unfold tb;rw[GS];exact a),EU h]
theorem sg:∀ n:Nat,n<=8->(fk n).Nodup
 | 0,_=>by decide +kernel
 | 1,_=>by decide +kernel
 | 2,_=>by decide +kernel
 | 3,_=>by decide +kernel
 | 4,_=>by decide +kernel
 | 5,_=>by decide +kernel
 | 6,_=>by decide +kernel
 | 7,_=>by decide +kernel
 | 8,_=>by decide +kernel
 | n+9,h=>absurd h (by lia)
theorem xD:∀ n:Nat,n<=8->(fk n).length<=56
 | 0,_=>by decide +kernel
 | 1,_=>by decide +kernel
 | 2,_=>by decide +kernel
 | 3,_=>by decide +kernel
 | 4,_=>by decide +kernel
 | 5,_=>by decide +kernel
 | 6,_=>by decide +kernel
 | 7,_=>by decide +kernel
 | 8,_=>by decide +kernel
 | n+9,h=>absurd h (by lia)
theorem vP {α:Type} {l:List α} {m:Nat} {t:α} (h:l[m]?=some t):l.take (m+1)=l.take m++[t]:=by
 rw[List.take_add_one,h];rfl
theorem sX {α:Type} {l:List α} {m:Nat} {t:α} (nd:l.Nodup) (h:l[m]?=some t):t ∉ l.take m:=by
 rw[<- List.take_append_drop m l] at nd
 intro hm
 refine (List.nodup_append.mp nd).2.2 t hm t ?_ rfl
 refine GV (i:=0) ?_
 rw[List.getElem?_drop]
 exact h
abbrev k3 (i j k:Nat):List Key:=[.inl (i:Int),.inl (j:Int),.inl (k:Int)]
structure Sg where
 length:Nat
 f:Nat->Nat->Nat->Int
def trn (ps:Sg) (i j k:Nat):Int:=ps.f i j k
theorem wz {n i j k:Nat} (h1:i < j) (h2:j < k) (h3:k < n):(i,j,k)∈fk n:=by
 refine Hr.mpr #[i,List.mem_range.mpr (by lia),Hr.mpr #[j - (i+1),List.mem_range.mpr (by lia),GX.mpr #[k - (j+1),List.mem_range.mpr (by lia),?_]]]
 refine Prod.ext rfl (Prod.ext ?_ ?_) <;> simp <;> lia
def sgn (ps:List Pt):Sg:=#[ps.length,λi j k=>pL (a8 ps i) (a8 ps j) (a8 ps k)]
theorem sG {ps:List Pt} (g:GoodSh ps):c9 [(Shd ps,.z)]=some (.ok (.non,.z),[(Shd ps,.z)]):=by
 have h1:=p4 g
 apply F_nx (Z:=[#v[Shd ps]]) rfl rfl
 .apply aU
  .nomatch [h1]
  .rfl
  .rfl
 .rfl
theorem uj {ps:List Pt} (g:GoodSh ps) {t:Tri} (h1:t.1 < t.2.1) (h2:t.2.1 < t.2.2) (h3:t.2.2 < ps.length) {l:List Tri} (b:t ∉ l) (c:l.length < 16777216):cH [#v[Shd ps],some (.dt (tb ps l),.u),#v[Td t]]=some (.ok .nx,[#v[Shd ps],some (.dt (tb ps (l++[t])),.u),#v[Td t]]):=by
 obtain ⟨i,j,k⟩:=t
 dsimp only at h1 h2 h3
 have f:d7 [(Shd ps,.z),(Td (i,j,k),.z)]=some (.ok (.int (tq ps (i,j,k)),.z),[(Shd ps,.z),(Td (i,j,k),.z)]):=sD (jS (ps:=ps) (i:=i) (by lia)) (jS (ps:=ps) (i:=j) (by lia)) (jS (ps:=ps) (i:=k) (by lia)) (fN g.small (show i < ps.length by lia)) (fN g.small (show j < ps.length by lia))
 have e:=El (ps:=ps) b c
 unfold cH
 have a:aw d7 (aa (ac 0) (aa (ac 2) ai)) [#v[Shd ps],some (.dt (tb ps l),.u),#v[Td (i,j,k)]]=some (.ok (.val (.int (tq ps (i,j,k))) .z),[#v[Shd ps],some (.dt (tb ps l),.u),#v[Td (i,j,k)]]):=by (nomatch [f])
 exact qS (i:=1) (Z2:=[#v[Shd ps],some (.dt (tb ps l),.u),#v[Td (i,j,k)]]) (Z3:=[#v[Shd ps],some (.dt (tb ps l),.u),#v[Td (i,j,k)]]) a rfl (ae (i:=2) rfl) rfl rfl e
theorem nk {ps:List Pt} (g:GoodSh ps) (h8:ps.length<=8):eY [(Shd ps,.z)]=some (.ok (.dt (tb ps (fk ps.length)),.u),[(Shd ps,.z)]):=by
 have nd:=sg ps.length h8
 have j:=xD ps.length h8
 obtain ⟨Z',e,v2,rfl⟩:=bD (bnd:=ao 2) (b:=cH) (λm Z=>∃ v2,Z=[#v[Shd ps],some (.dt (tb ps ((fk ps.length).take m)),.u),v2]) (ds:=(fk ps.length).map Td) (Z:=[#v[Shd ps],some (.dt [],.u),none]) (k:=0) #[none,rfl] (by
  rintro m d Z hd ⟨v2,rfl⟩
  rw[Ha]
  rw[GY] at hd
  obtain ⟨t,a,rfl⟩:=GJ.mp hd
  obtain ⟨h,i,f⟩:=js (GV a)
  rw[vP a]
  exact #[_,_,rfl,.inl (uj g h i f (sX nd a) (by rw[He];lia)),_,rfl])
 rw[Ha,GS,List.take_length] at e
 have c:=sG g
 have th:=lK ps.length (by lia)
 have hlen:eF [Shd ps]=#v[.int (ps.length:Nat)]:=by simp[qH,c1]
 apply aQ (Z:=[#v[Shd ps],none,none]) rfl rfl
 .apply ak (Z1:=[#v[Shd ps],none,none])
  .exact tK (au c (af (ae rfl) aq) rfl rfl rfl)
  .apply ak (Z1:=[#v[Shd ps],some (.dt [],.u),none])
   .rfl
   .apply ak
    .apply cS
     .nomatch [th],[hlen]
     .rfl
     .exact e
    .nofun
 .rfl
abbrev Nd (l:List Nat):List L3.D:=l.map λ(i:Nat)=>L3.D.int (i:Int)
def el (L:List Nat) (i:Nat):Nat:=L.getD i 0
theorem tN {L:List Nat} {i:Nat} (h:i < L.length):L[i]?=some (el L i):=by simp[el,List.getD,h]
theorem wg {i n:Int} (h0:0<=i) (h1:i < n):fX [(.int i,.z),(.int n,.z)]=some (.ok (.bl true,.z),[(.int i,.z),(.int n,.z)]):=by
 have b:leI (.int 0) (.int i)=#v[.bl true]:=by simp[fg,h0]
 have a:ltI (.int i) (.int n)=#v[.bl true]:=by simp[fg,h1]
 apply aQ (Z:=[#v[.int i],#v[.int n]]) rfl rfl
 .apply bf
  .apply lg
   .nomatch [(jW _)]
   .rfl
   .rfl
   .exact ve i_c (ae rfl) rfl rfl b (ae rfl) rfl rfl a
  .rfl
 .rfl
theorem vJ {α:Type} (b:α->Bool):∀ xs:List α,iN (xs.map λx=>L3.D.bl (b x))=some (xs.map b)
 | []=>rfl
 | x::xs=>by simp[iN,vJ b xs]
theorem ui {α:Type} (b:α->Bool) (xs:List α):mW [.lst (xs.map λx=>L3.D.bl (b x))]=#v[.bl (xs.all b)]:=by
 show (iN _).map _=_
 rw[vJ]
 simp[List.all_map]
theorem ug {xs:List L3.D} {i:Nat} {d:L3.D} (h:xs[i]?=some d):L2.atI xs (i:Int)=some d:=by
 have lt:=(GU.mp h).1
 unfold L2.atI L2.ixN
 rw[if_pos (by lia),if_pos (by lia)]
 simpa using h
theorem GB {r:List Nat} {i:Nat} (h:i < r.length):(Nd r)[i]?=some (.int (el r i)):=by rw[GY,tN h];rfl
theorem xO {r:List Nat} {i:Nat} (h:i < r.length):aA (.tup (Nd r)) (.int (i:Int))=#v[.int (el r i)]:=ee (ug (GB h))
structure Ris (n:Nat) (r:List Nat):Prop where
 up:r.Pairwise (· < ·)
 lt:∀ x∈r,x < n
theorem Ris.at {n:Nat} {r:List Nat} (h:Ris n r) {i j:Nat} (a:i < j) (c:j < r.length):el r i < el r j:=by
 have:=List.pairwise_iff_getElem.mp h.up i j (by lia) c a
 have e1:=tN (L:=r) (i:=i) (by lia)
 have b:=tN (L:=r) (i:=j) c
 rw[GO (by lia)] at e1 b
 injection e1 with e1
 injection b with b
 lia
theorem uA {n:Nat}:∀ (r:List Nat) (a:Nat),r.Pairwise (· < ·)->(∀ x∈r,a<=x/\x < n)->r.length<=n - a
 | [],a,_,_=>Nat.zero_le _
 | x::r,a,hp,hb=>by
  rw[List.pairwise_cons] at hp
  have h0:=hb x GG
  have:=uA r (x+1) hp.2 λy b=>#[hp.1 y b,(hb y (GH _ b)).2]
  rw[Hd]
  lia
theorem Ris.len {n:Nat} {r:List Nat} (h:Ris n r):r.length<=n:=uA r 0 h.up λx a=>#[Nat.zero_le _,h.lt x a]
set_option tactic.hygienic true in
theorem A8 {n:Nat} {r:List Nat} (h:Ris n r) (o:n<=24):bd [(.tup (Nd r),.z),(.int (n:Int),.z)]=some (.ok (.bl true,.z),[(.tup (Nd r),.z),(.int (n:Int),.z)]):=by
 have m:=h.len
 obtain ⟨τ',e,a,rfl⟩:=cM (bnd:=ao 0) (c:=b9) (elt:=bJ) (λτ=>∃ a,τ=[a,#v[.int (n:Int)]]) (λi:Nat=>L3.D.int (i:Int)) (λ_=>true) (λ_=>.bl true) (xs:=r) (τ:=[none,#v[.int (n:Int)]]) #[none,rfl] (by
  rintro k d τ ⟨a,rfl⟩
  have:=h.lt k d
  have pl:=wg (i:=(k:Int)) (n:=(n:Int)) (by omega) (by omega)
  exact #[[#v[.int (k:Int)],#v[.int (n:Int)]],_,rfl,rfl,(λh=>by cases h),λ_=>#[.val (.bl true) .z,[#v[.int (k:Int)],#v[.int (n:Int)]],(.bl true,.z),_,by unfold bJ;(nomatch [pl]),rfl,rfl,_,rfl]])
 rw[Hq.mpr (λ_ _=>rfl)] at e
 have e1:cF [#v[.tup (Nd r)],#v[.int (n:Int)]]=some (.ok (.val (.lst (r.map λ_=>.bl true)) .u),[#v[.tup (Nd r)],#v[.int (n:Int)]]):=bp (rs:=[.pl 0]) (Z1:=[#v[.tup (Nd r)],#v[.int (n:Int)]]) (Z2:=[#v[.tup (Nd r)],#v[.int (n:Int)]]) rfl e (by rw[GS];omega) rfl
 have a1:=ui (λ_:Nat=>true) r
 rw[List.all_eq_true.mpr (λ_ _=>rfl)] at a1
 obtain ⟨τ2,f,b,rfl⟩:=cM (bnd:=ao 0) (c:=b9) (elt:=cG) (λτ=>∃ a,τ=[a,#v[.tup (Nd r)]]) (λi:Nat=>L3.D.int (0+(i:Int))) (λ_=>true) (λ_=>.bl true) (xs:=List.range (r.length - 1)) (τ:=[none,#v[.tup (Nd r)]]) #[none,rfl] (by
  rintro k d τ ⟨a,rfl⟩
  rw[List.mem_range] at d
  rw[Int.zero_add]
  have g1:=xO (r:=r) (i:=k) (by omega)
  have g2:aA (.tup (Nd r)) (.int ((k:Int)+1))=#v[.int (el r (k+1))]:=by
   have:=xO (r:=r) (i:=k+1) (by omega)
   rw[Int.natCast_add] at this
   exact this
  have j:ltI (.int (el r k)) (.int (el r (k+1)))=#v[.bl true]:=by
   have:=h.at (show k < k+1 by omega) (by omega)
   simp[fg];omega
  exact #[[#v[.int (k:Int)],#v[.tup (Nd r)]],_,rfl,rfl,(λh=>by cases h),λ_=>#[.val (.bl true) .z,[#v[.int (k:Int)],#v[.tup (Nd r)]],(.bl true,.z),_,am (am (ae rfl) (ae rfl) rfl rfl g1) (am (ae rfl) (am (ae rfl) i_c rfl rfl rfl) rfl rfl g2) rfl rfl j,rfl,rfl,_,rfl]])
 rw[Hq.mpr (λ_ _=>rfl)] at f
 have g:dn [.int (((Nd r).length:Int) - 1)]=some (bm 0 (r.length - 1)):=c8 (by first | (simp;done) | (simp;omega)) (by first | (simp;done) | (simp;omega))
 have l:cD [#v[.tup (Nd r)],#v[.int (n:Int)]]=some (.ok (.val (.lst ((List.range (r.length - 1)).map λ_=>.bl true)) .u),[#v[.tup (Nd r)],#v[.int (n:Int)]]):=bp (rs:=[]) (Z1:=[#v[.tup (Nd r)],#v[.int (n:Int)]]) (ds:=bm 0 (r.length - 1)) (by (repeat' (first | with_reducible apply eV (h3:=g) | infer_instance | eq_refl))) f (by rw[cw];omega) rfl
 have a2:=ui (λ_:Nat=>true) (List.range (r.length - 1))
 rw[List.all_eq_true.mpr (λ_ _=>rfl)] at a2
 apply aQ (Z:=[#v[.tup (Nd r)],#v[.int (n:Int)]]) rfl rfl
 .apply ak (Z1:=[#v[.tup (Nd r)],#v[.int (n:Int)]])
  .apply aU
   .apply fv (b:=false)
    .nofun
    .rfl
    .exact bo (aO (aB (af e1 aq) rfl a1) rfl)
   .rfl
   .rfl
  .exact bf (aB (af l aq) rfl a2) rfl
 .rfl
theorem fl_nx {bnd:L3.D->Sto->Option Sto} {b:SM} {d:L3.D} {ds:List L3.D} {Z Z1 Z2:Sto} {x:Option (Except L3.D Flw×Sto)} (h1:bnd d Z=some Z1) (h2:b Z1=some (.ok .nx,Z2)) (h3:cL bnd b ds Z2=x):cL bnd b (d::ds) Z=x:=by
 simp only[cL,h1,ag,h2,h3]
theorem Dw {bnd:L3.D->Sto->Option Sto} {b:SM} {d:L3.D} {ds:List L3.D} {Z Z1 Z2:Sto} {y:L3.D} {g:Fl} (h1:bnd d Z=some Z1) (h2:b Z1=some (.ok (.rt y g),Z2)):cL bnd b (d::ds) Z=some (.ok (.rt y g),Z2):=by
 simp only[cL,h1,ag,h2];rfl
theorem fy {α:Type} {bnd:L3.D->Sto->Option Sto} {b:SM} (D:α->L3.D) (t:α->Bool) (P:Sto->Prop) {r:L3.D} {f:Fl}:∀ {xs:List α} {Z:Sto},P Z->(∀ x∈xs,∀ Z,P Z->∃ Z1 Z2,bnd (D x) Z=some Z1/\b Z1=some (.ok (if t x=true then .nx else .rt r f),Z2)/\P Z2)->∃ Z',cL bnd b (xs.map D) Z=some (.ok (if xs.all t=true then .nx else .rt r f),Z')/\P Z'
 | [],Z,h0,_=>#[Z,rfl,h0]
 | x::xs,Z,h0,hs=>by
  obtain ⟨Z1,Z2,e1,F,h1⟩:=hs x GG Z h0
  rw[G6,List.all_cons]
  cases a:t x with
  | true =>
   rw[a] at F
   obtain ⟨Z',d,h3⟩:=fy D t P (xs:=xs) (Z:=Z2) h1 λy c=>hs y (GH _ c)
   exact #[Z',fl_nx e1 F (by rw[Bool.true_and];exact d),h3]
  | false =>
   rw[a] at F
   exact #[Z2,Dw e1 F,h1]
def way (b:Bool):Int:=if b then 1 else -1
theorem Dx (ps:List Pt) (i j k:Nat) (b:Bool):decide (decide (aS (a8 ps i) (a8 ps j) (a8 ps k) > 0)=b)=decide ((sgn ps).f i j k=way b):=by
 show _=decide ((if 0 < aS (a8 ps i) (a8 ps j) (a8 ps k) then (1:Int) else -1)=way b)
 by_cases h:0 < aS (a8 ps i) (a8 ps j) (a8 ps k)
 .rw[if_pos h,G7 (show aS (a8 ps i) (a8 ps j) (a8 ps k) > 0 from h)]
  cases b <;> rfl
 .rw[if_neg h,G8 (show ¬ aS (a8 ps i) (a8 ps j) (a8 ps k) > 0 from h)]
  cases b <;> rfl
theorem ib (ps:List Pt):eF [Shd ps]=#v[.int (ps.length:Int)]:=by simp[qH,c1]
theorem lL (i:Int):d8 [(.int i,.z)]=some (.ok (.bl true,.z),[(.int i,.z)]):=by kernel_rfl
theorem x6 {ps:List Pt} (g:GoodSh ps) {i j k:Nat} (h1:i < ps.length) (h2:j < ps.length) (h3:k < ps.length):kA [(Shd ps,.z),(.int i,.z),(.int j,.z),(.int k,.z)]=some (.ok (.bl (decide (aS (a8 ps i) (a8 ps j) (a8 ps k) > 0)),.z),[(Shd ps,.z),(.int i,.z),(.int j,.z),(.int k,.z)]):=by
 have s:=Small.sub (fN g.small h1) (fN g.small h2)
 have b:=p5 (a8 ps i) (a8 ps j) (a8 ps k) s.1 s.2
 have a1:=jS h1
 have a2:=jS h2
 have a:=jS h3
 generalize a8 ps i=p at *
 generalize a8 ps j=q at *
 generalize a8 ps k=r at *
 have z:gtI (.int (aS p q r)) (.int 0)=#v[.bl (decide (aS p q r > 0))]:=rfl
 generalize Shd ps=H at *
 generalize decide (aS p q r > 0)=B at *
 generalize aS p q r=M at *
 generalize Pd p=p at *
 generalize Pd q=q at *
 generalize Pd r=r at *
 apply aQ (Z:=[#v[H],#v[.int i],#v[.int j],#v[.int k]]) (Z1:=[#v[H],#v[.int i],#v[.int j],#v[.int k]]) rfl rfl
 .apply bf
  .nomatch [b],[a1,a2,a,z]
  .rfl
 .rfl
def wv (ps:Sg) (way:Int) (h i j:Nat):Bool:=decide (trn ps h i j=way)
abbrev k2 (i j:Nat):List Key:=[.inl (i:Int),.inl (j:Int)]
theorem mf {i j a b:Nat} (h:k2 i j=k2 a b):i=a/\j=b:=by
 simp only[k2,List.cons.injEq,Sum.inl.injEq,and_true] at h
 lia
theorem vS {kvs:List (List Key×L3.D)} {i j:Nat} {d:L3.D} (h:b8 kvs (k2 i j)=some d):aA (.dt kvs) (.tup [.int i,.int j])=#v[d]:=by
 show qU (.dt kvs) (.tup [.int i,.int j])=_
 show (b8 kvs (k2 i j)).map (λd=>(d,Fl.z))=_
 rw[h];rfl
theorem Em {kvs:List (List Key×L3.D)} {i j:Nat} {d:L3.D} (h:kvs.length < 16777216):jV (.dt kvs) [.tup [.int i,.int j],d]=some (.dt (dL kvs (k2 i j) d),.non):=by
 show (if kvs.length < 16777216 then some (L3.D.dt (dL kvs (k2 i j) d),L3.D.non) else none)=_
 rw[if_pos h]
theorem vm (a b:Int):eqX (.int a) (.int b)=#v[.bl (decide (a=b))]:=rfl
def mx1 (l:List Int):Int:=(mostI l).getD 1
theorem uX {l:List Int} (h:l≠[]):mx1 l∈l:=by
 cases l with
 | nil=>exact absurd rfl h
 | cons x xs=>exact (mq xs x).1
theorem FE {l:List Int} (h:∀ n∈l,1<=n):1<=mx1 l:=by
 cases l with
 | nil=>exact Int.le_refl 1
 | cons x xs=>exact h _ (uX (by simp))
section
variable (w:Nat->Nat->Nat->Bool)
def pg:Nat->Nat->Nat->Int
 | 0,_,_=>2
 | f+1,i,j=>1+mx1 (((List.range i).filter λh=>w h i j).map λh=>pg f h i)
def cQ (i j:Nat):Int:=pg w i i j
theorem mF:∀ (f a i j:Nat),i<=f->i<=a->pg w f i j=pg w a i j
 | 0,0,_,_,_,_=>rfl
 | 0,a+1,i,j,h,_=>by
  obtain rfl:i=0:=by lia
  rfl
 | f+1,0,i,j,_,h=>by
  obtain rfl:i=0:=by lia
  rfl
 | f+1,a+1,i,j,h,h'=>by
  unfold pg
  congr 2
  refine Ht λk b=>?_
  have b:=List.mem_range.mp (Hj.mp b).1
  exact mF f a k i (by lia) (by lia)
theorem vB (i j:Nat):cQ w i j=1+mx1 (((List.range i).filter λh=>w h i j).map λh=>cQ w h i):=by
 have h:cQ w i j=pg w (i+1) i j:=mF w i (i+1) i j (GZ _) (Nat.le_succ _)
 rw[h]
 show 1+mx1 (((List.range i).filter λh=>w h i j).map λh=>pg w i h i)=_
 congr 2
 refine Ht λk a=>?_
 have a:=List.mem_range.mp (Hj.mp a).1
 exact mF w i k k i (by lia) (GZ _)
theorem rg:∀ (f i j:Nat),2<=pg w f i j
 | 0,_,_=>Int.le_refl 2
 | f+1,i,j=>by
  show 2<=1+mx1 _
  have:=FE (l:=((List.range i).filter λh=>w h i j).map λh=>pg w f h i) λn a=>by
   obtain ⟨k,_,rfl⟩:=GX.mp a
   have:=rg f k i
   lia
  lia
theorem rh (i j:Nat):2<=cQ w i j:=rg w i i j
def ks (n j:Nat):List Nat:=(List.range (n - (j+1))).map λd=>j+1+d
inductive Pth (n:Nat):Nat->Nat->Nat->Nat->Nat->Prop
 | nil {i j:Nat}:i < j->j < n->Pth n 0 i j i j
 | cons {m i j k i' j':Nat}:i < j->w i j k=true->Pth n m j k i' j'->Pth n (m+1) i j i' j'
variable {w}
theorem Pth.lt {n m i j d c:Nat} (h:Pth w n m i j d c):i < j/\j < n/\d < c/\c < n:=by
 induction h with
 | nil a b=>exact #[a,b,a,b]
 | cons a _ _ ih=>exact #[a,by lia,ih.2.2]
end
def tbl (f:Nat->Nat->Int) (l:List (Nat×Nat)):List (List Key×L3.D):=l.map λp=>(k2 p.1 p.2,.int (f p.1 p.2))
theorem BB {f:Nat->Nat->Int} {l:List (Nat×Nat)} {i j:Nat} (h:(i,j) ∉ l):dL (tbl f l) (k2 i j) (.int (f i j))=tbl f (l++[(i,j)]):=by
 have c:¬ ((tbl f l).any λd=>decide (d.1=k2 i j))=true:=by
  intro g
  obtain ⟨x,a,e⟩:=List.any_eq_true.mp g
  obtain ⟨u,hu,rfl⟩:=GX.mp a
  obtain ⟨e1,b⟩:=mf (of_decide_eq_true e)
  exact h (by rw[<- e1,<- b];exact hu)
 unfold dL
 rw[if_neg c]
 unfold tbl
 rw[List.map_append]
 rfl
theorem jF {f:Nat->Nat->Int} {i j:Nat}:∀ {l:List (Nat×Nat)},(i,j)∈l->b8 (tbl f l) (k2 i j)=some (.int (f i j))
 | u::l,h=>by
  unfold b8 tbl
  rw[G6,List.find?_cons]
  by_cases e:k2 u.1 u.2=k2 i j
  .obtain ⟨e1,D⟩:=mf e
   simp[e1,D]
  .have:(i,j)∈l:=by
    rcases GN.mp h with rfl | h
    .exact absurd rfl e
    .exact h
   have a:=jF (f:=f) this
   unfold b8 tbl at a
   simp only[e,decide_false]
   exact a
theorem kY {f:Nat->Nat->Int} {l:List (Nat×Nat)}:(tbl f l).length=l.length:=GS ..
def rI (n i m:Nat):List (Nat×Nat):=(List.range m).map λd=>(i,i+1+d)
def pI (n m:Nat):List (Nat×Nat):=(List.range m).flatMap λi=>rI n i (n - (i+1))
def rJ (j m:Nat):List (Nat×Nat):=(List.range m).map λi=>(i,j)
def pJ (m:Nat):List (Nat×Nat):=(List.range m).flatMap λj=>rJ j j
theorem BT (n m:Nat):pI n (m+1)=pI n m++rI n m (n - (m+1)):=by simp[pI,List.range_succ,List.flatMap_append]
theorem By (j m:Nat):rJ j (m+1)=rJ j m++[(m,j)]:=by simp[rJ,List.range_succ]
theorem uS (m:Nat):pJ (m+1)=pJ m++rJ m m:=by simp[pJ,List.range_succ,List.flatMap_append]
theorem mem_rI {n i m a b:Nat}:(a,b)∈rI n i m ↔ a=i/\i < b/\b < i+1+m:=by
 simp only[rI,GX,List.mem_range,Prod.mk.injEq]
 constructor
 .rintro ⟨d,h,rfl,rfl⟩;lia
 .rintro ⟨rfl,h1,h2⟩;exact #[b - (a+1),by lia,rfl,by lia]
theorem mem_pI {n m a b:Nat}:(a,b)∈pI n m ↔ a < m/\a < b/\b < n:=by
 simp only[pI,Hr,List.mem_range]
 constructor
 .rintro ⟨i,h,h2⟩
  have:=mem_rI.mp h2
  lia
 .intro h
  exact #[a,h.1,mem_rI.mpr #[rfl,h.2.1,by lia]]
theorem mem_rJ {j m a b:Nat}:(a,b)∈rJ j m ↔ a < m/\b=j:=by
 simp only[rJ,GX,List.mem_range,Prod.mk.injEq]
 constructor
 .rintro ⟨d,h,rfl,rfl⟩;exact #[h,rfl]
 .rintro ⟨h,rfl⟩;exact #[a,h,rfl,rfl]
theorem mem_pJ {m a b:Nat}:(a,b)∈pJ m ↔ a < b/\b < m:=by
 simp only[pJ,Hr,List.mem_range]
 constructor
 .rintro ⟨i,h,h2⟩
  have:=mem_rJ.mp h2
  lia
 .intro h
  exact #[b,h.2,mem_rJ.mpr #[h.1,rfl]]
theorem ER {n i m:Nat}:(rI n i m).length=m:=by simp[rI]
theorem yI {j m:Nat}:(rJ j m).length=m:=by simp[rJ]
theorem Fg (n:Nat):∀ m,(pI n m).length<=n * m
 | 0=>by simp[pI]
 | m+1=>by
  have:=Fg n m
  rw[BT,Hc,ER,Nat.mul_succ]
  lia
theorem y9:∀ m,(pJ m).length<=m * m
 | 0=>by simp[pJ]
 | m+1=>by
  have:=y9 m
  rw[uS,Hc,yI,Nat.mul_succ,Nat.succ_mul]
  lia
section
variable {ps:List Pt} {b:Bool} {kvs:List (List Key×L3.D)} {i j:Nat}
theorem zn {l:List Int} {x:Int} (b:1<=x):mx1 (l++[x])=if mx1 l < x then x else mx1 l:=by
 unfold mx1
 cases l with
 | nil =>
  show x=if (1:Int) < x then x else 1
  split <;> lia
 | cons a l =>
  show (List.foldl _ a (l++[x]))=_
  rw[List.foldl_append]
  rfl
def lQ (w:Nat->Nat->Nat->Bool) (i j m:Nat):Int:=1+mx1 (((List.range m).filter λh=>w h i j).map λh=>cQ w h i)
theorem wj (w:Nat->Nat->Nat->Bool) (i j m:Nat):lQ w i j (m+1)=if w m i j=true then (if lQ w i j m < 1+cQ w m i then 1+cQ w m i else lQ w i j m) else lQ w i j m:=by
 unfold lQ
 rw[List.range_succ,List.filter_append]
 by_cases h:w m i j=true
 .rw[if_pos h,List.filter_cons_of_pos (p:=λh=>w h i j) (a:=m) h,List.filter_nil,List.map_append,G6,List.map_nil,zn (by have:=rh w m i;lia)]
  split <;> split <;> lia
 .rw[if_neg h,List.filter_cons_of_neg (p:=λh=>w h i j) (a:=m) h,List.filter_nil,List.append_nil]
abbrev ltS (ps:List Pt) (b:Bool) (kvs:List (List Key×L3.D)) (a c d e:Option (L3.D×Fl)):Sto:=[#v[Shd ps],#v[.bl b],some (.dt kvs,.u),a,c,d,e]
theorem Dy (a c:Bool):eqX (.bl a) (.bl c)=#v[.bl (decide (a=c))]:=by cases a <;> cases c <;> rfl
theorem Ci (a c:Int):uY [.int a,.int c]=#v[.int (if a < c then c else a)]:=by
 show some _=some _
 simp
theorem FO (g:GoodSh ps) {h:Nat} (l:h < i) (hi:i < j) (f:j < ps.length) (c:b8 kvs (k2 h i)=some (.int (cQ (wv (sgn ps) (way b)) h i))) :
  dO (ltS ps b kvs #v[.int j] #v[.int i] #v[.int (lQ (wv (sgn ps) (way b)) i j h)] #v[.int h])=some (.ok .nx,ltS ps b kvs #v[.int j] #v[.int i] #v[.int (lQ (wv (sgn ps) (way b)) i j (h+1))] #v[.int h]):=by
 have u:=x6 g (i:=h) (j:=i) (k:=j) (by lia) (by lia) f
 have a:=Dy (decide (aS (a8 ps h) (a8 ps i) (a8 ps j) > 0)) b
 have d:decide (decide (aS (a8 ps h) (a8 ps i) (a8 ps j) > 0)=b)=wv (sgn ps) (way b) h i j:=Dx ps h i j b
 rw[d] at a
 have s2:=vS c
 rw[wj]
 generalize decide (aS (a8 ps h) (a8 ps i) (a8 ps j) > 0)=B at *
 have e:=Ci (lQ (wv (sgn ps) (way b)) i j h) (1+cQ (wv (sgn ps) (way b)) h i)
 generalize lQ (wv (sgn ps) (way b)) i j h=p at *
 generalize cQ (wv (sgn ps) (way b)) h i=q at *
 have ad:bu (.int 1) (.int q)=#v[.int (1+q)]:=rfl
 clear d c
 generalize 1+q=q1 at *
 unfold dO
 cases hw:wv (sgn ps) (way b) h i j with
 | true =>
  rw[hw] at a
  rw[if_pos rfl]
  clear hw
  generalize (if p < q1 then q1 else p)=r at *
  generalize L3.D.int p=P at *
  refine b7 (b:=true) (aO (am (au u (af (ae rfl) (af (ae rfl) (af (ae rfl) (af (ae rfl) aq)))) rfl rfl rfl) (ae rfl) rfl rfl a) rfl) rfl ?_
  exact cK (aB (af (ae rfl) (af (am i_c (am (ae rfl) (bN (af (ae rfl) (af (ae rfl) aq)) rfl (Nat.le_of_ble_eq_true rfl)) rfl rfl s2) rfl rfl ad) aq)) rfl e) rfl (Nat.le_of_ble_eq_true rfl) rfl
 | false =>
  rw[hw] at a
  rw[if_neg (by decide)]
  exact aU (b:=false) (aO (am (au u (af (ae rfl) (af (ae rfl) (af (ae rfl) (af (ae rfl) aq)))) rfl rfl rfl) (ae rfl) rfl rfl a) rfl) rfl rfl
set_option tactic.hygienic true in
theorem Co (g:GoodSh ps) (hi:i < j) (f:j < ps.length) (l:∀ h,h < i->b8 kvs (k2 h i)=some (.int (cQ (wv (sgn ps) (way b)) h i))) (o:kvs.length < 16777216) (d e:Option (L3.D×Fl)) :
  ∃ F,dN (ltS ps b kvs #v[.int j] #v[.int i] d e)=some (.ok .nx,ltS ps b (dL kvs (k2 i j) (.int (cQ (wv (sgn ps) (way b)) i j))) #v[.int j] #v[.int i] #v[.int (cQ (wv (sgn ps) (way b)) i j)] F):=by
 have p:=g.most
 obtain ⟨Z',a,F,rfl⟩:=bD (bnd:=ao 6) (b:=dO) (λm Z=>∃ e,Z=ltS ps b kvs #v[.int j] #v[.int i] #v[.int (lQ (wv (sgn ps) (way b)) i j m)] e) (ds:=bm 0 i) (Z:=ltS ps b kvs #v[.int j] #v[.int i] #v[.int 2] e) (k:=0) #[e,rfl] (by
  rintro m d Z hd ⟨e,rfl⟩
  obtain ⟨hm,rfl⟩:=bX hd
  rw[Ha]
  exact #[_,_,by rw[Int.zero_add];rfl,.inl (FO g hm hi f (l m hm)),_,rfl])
 rw[cw,Ha] at a
 have n:lQ (wv (sgn ps) (way b)) i j i=cQ (wv (sgn ps) (way b)) i j:=(vB _ i j).symm
 rw[n] at a
 have c:dn [.int (i:Int)]=some (bm 0 i):=c8 (by lia) (by lia)
 refine #[F,?_]
 unfold dN
 apply ak (Z1:=ltS ps b kvs #v[.int j] #v[.int i] #v[.int 2] e)
 .rfl
 apply ak
 .apply cS
  ·(repeat' (first | with_reducible apply eV (h3:=c) | infer_instance | eq_refl))
  .rfl
  .exact a
 .exact qS (i:=2) (Z1:=ltS ps b kvs #v[.int j] #v[.int i] #v[.int (cQ (wv (sgn ps) (way b)) i j)] F) (Z2:=ltS ps b kvs #v[.int j] #v[.int i] #v[.int (cQ (wv (sgn ps) (way b)) i j)] F) (Z3:=ltS ps b kvs #v[.int j] #v[.int i] #v[.int (cQ (wv (sgn ps) (way b)) i j)] F) (ae rfl) rfl (by (nofun)) rfl rfl (Em o)
set_option tactic.hygienic true in
theorem yh (g:GoodSh ps) (h8:ps.length<=8):c6 [(Shd ps,.z),(.bl b,.z)]=some (.ok (.dt (tbl (cQ (wv (sgn ps) (way b))) (pJ ps.length)),.u),[(Shd ps,.z),(.bl b,.z)]):=by
 have t:=g.most
 have inner:∀ (j:Nat) (a c d:Option (L3.D×Fl)),j < ps.length->∃ f l d',dM (ltS ps b (tbl (cQ (wv (sgn ps) (way b))) (pJ j)) #v[.int j] a c d)=some (.ok .nx,ltS ps b (tbl (cQ (wv (sgn ps) (way b))) (pJ (j+1))) #v[.int j] f l d'):=by
  intro j a c d q
  obtain ⟨Z',e,f,l,d',rfl⟩:=bD (bnd:=ao 4) (b:=dN) (λm Z=>∃ a c d,Z=ltS ps b (tbl (cQ (wv (sgn ps) (way b))) (pJ j++rJ j m)) #v[.int j] a c d) (ds:=bm 0 j) (Z:=ltS ps b (tbl (cQ (wv (sgn ps) (way b))) (pJ j)) #v[.int j] a c d) (k:=0) #[a,c,d,by simp[rJ]] (by
   rintro m x Z hd ⟨a,c,d,rfl⟩
   obtain ⟨hm,rfl⟩:=bX hd
   rw[Ha]
   have p:(tbl (cQ (wv (sgn ps) (way b))) (pJ j++rJ j m)).length < 16777216:=by
    have:=y9 j
    have:j * j<=8 * 8:=Nat.mul_le_mul (by lia) (by lia)
    rw[kY,Hc,yI]
    lia
   obtain ⟨o,r⟩:=Co (b:=b) (kvs:=tbl (cQ (wv (sgn ps) (way b))) (pJ j++rJ j m)) (i:=m) (j:=j) g hm q (λh s=>jF (GK _ (mem_pJ.mpr #[s,hm]))) p c d
   rw[BB (λz=>(GQ.mp z).elim (λz=>by have:=mem_pJ.mp z;lia) λz=>by have:=mem_rJ.mp z;lia),List.append_assoc,<- By] at r
   exact #[_,_,by rw[Int.zero_add];rfl,.inl r,_,_,_,rfl])
  rw[cw,Ha,<- uS] at e
  have n:dn [.int (j:Int)]=some (bm 0 j):=c8 (by lia) (by lia)
  refine #[f,l,d',?_]
  unfold dM
  apply cS
  ·(repeat' (first | with_reducible apply eV (h3:=n) | infer_instance | eq_refl))
  .rfl
  .exact e
 obtain ⟨Z',e,a,c,d,o,rfl⟩:=bD (bnd:=ao 3) (b:=dM) (λm Z=>∃ a c d e,Z=ltS ps b (tbl (cQ (wv (sgn ps) (way b))) (pJ m)) a c d e) (ds:=bm 0 ps.length) (Z:=ltS ps b [] none none none none) (k:=0) #[none,none,none,none,rfl] (by
  rintro m d Z hd ⟨a,c,d,e,rfl⟩
  obtain ⟨hm,rfl⟩:=bX hd
  rw[Ha]
  obtain ⟨f,l,d',r⟩:=inner m c d e hm
  exact #[_,_,by rw[Int.zero_add];rfl,.inl r,_,_,_,_,rfl])
 rw[cw,Ha] at e
 have n:dn [.int (ps.length:Nat)]=some (bm 0 ps.length):=c8 (by lia) (by lia)
 have hlen:=ib ps
 apply aQ (Z:=[#v[Shd ps],#v[.bl b],none,none,none,none,none]) rfl rfl
 .apply ak (Z1:=ltS ps b [] none none none none)
  .rfl
  .apply ak
   .apply cS
    ·(repeat' (first | with_reducible apply eV (h3:=n) | infer_instance | exact hlen | eq_refl))
    .rfl
    .exact e
   .nofun
 .rfl
end
abbrev Kp (p:Nat×Nat):L3.D:=.tup [.int p.1,.int p.2]
def tbD (v:Nat->Nat->L3.D) (l:List (Nat×Nat)):List (List Key×L3.D):=l.map λp=>(k2 p.1 p.2,v p.1 p.2)
theorem jG {v:Nat->Nat->L3.D} {i j:Nat}:∀ {l:List (Nat×Nat)},(i,j)∈l->b8 (tbD v l) (k2 i j)=some (v i j)
 | u::l,h=>by
  unfold b8 tbD
  rw[G6,List.find?_cons]
  by_cases e:k2 u.1 u.2=k2 i j
  .obtain ⟨e1,F⟩:=mf e
   simp[e1,F]
  .have:(i,j)∈l:=by
    rcases GN.mp h with rfl | h
    .exact absurd rfl e
    .exact h
   have a:=jG (v:=v) this
   unfold b8 tbD at a
   simp only[e,decide_false]
   exact a
theorem qI (v:Nat->Nat->L3.D) (l:List (Nat×Nat)):(tbD v l).map (λF=>wK F.1)=l.map Kp:=by
 unfold tbD
 rw[Hs]
 rfl
theorem dD {v:Nat->Nat->L3.D} {l:List (Nat×Nat)}:(tbD v l).length=l.length:=GS ..
theorem Cr (ps:List Pt) (l:List Tri):(tb ps l).map (λD=>wK D.1)=l.map Td:=by
 unfold tb
 rw[Hs]
 rfl
def isI:L3.D->Bool
 | .int _=>true
 | _=>false
def toI:L3.D->Int
 | .int x=>x
 | _=>0
def vok (d:L3.D):Bool:=isI d && decide (2<=toI d)
theorem tz {d:L3.D} (h:isI d=true):d=.int (toI d):=by cases d <;> first | rfl | cases h
theorem xy {d:L3.D} (h:vok d=true):d=.int (toI d):=tz (Bool.and_eq_true_iff.mp h).1
structure Vd (d:L3.D):Prop where
 a:bv [(d,.z)]=some (.ok (.bl (isI d),.z),[(d,.z)])
 b:d8 [(d,.z)]=some (.ok (.bl (isI d),.z),[(d,.z)])
theorem Ah:∀ n:Nat,1<=n->n<=8->∃ p q,dE (.int (n:Int)) (.int 1)=#v[.int p]/\eA (.int (n:Int)) (.int p)=#v[.int q]/\q8 (.int q) (.int 2)=#v[.int ((pI n n).length:Int)]
 | 0,h,_=>absurd h (by decide)
 | 1,_,_=>#[_,_,rfl,rfl,by kernel_rfl]
 | 2,_,_=>#[_,_,rfl,rfl,by kernel_rfl]
 | 3,_,_=>#[_,_,rfl,rfl,by kernel_rfl]
 | 4,_,_=>#[_,_,rfl,rfl,by kernel_rfl]
 | 5,_,_=>#[_,_,rfl,rfl,by kernel_rfl]
 | 6,_,_=>#[_,_,rfl,rfl,by kernel_rfl]
 | 7,_,_=>#[_,_,rfl,rfl,by kernel_rfl]
 | 8,_,_=>#[_,_,rfl,rfl,by kernel_rfl]
 | n+9,_,h=>absurd h (by lia)
structure AllP (n:Nat) (l:List (Nat×Nat)):Prop where
 m:∀ p∈l,p.1 < p.2/\p.2 < n
 h:∀ i j,i < j->j < n->(i,j)∈l
 c:l.length=(pI n n).length
section
variable {n:Nat}
theorem Bd {v:Nat->Nat->L3.D} {l:List (Nat×Nat)} (al:AllP n l) (h:∀ p∈l,Vd (v p.1 p.2)) (h1:1<=n) (h8:n<=8):bg [(.dt (tbD v l),.z),(.int (n:Int),.z)]=some (.ok (.bl (l.all λp=>vok (v p.1 p.2)),.z),[(.dt (tbD v l),.z),(.int (n:Int),.z)]):=by
 obtain ⟨p,q,c1,c2,k⟩:=Ah n h1 h8
 have o:nH [.dt (tbD v l)]=#v[.int ((pI n n).length:Int)]:=by
  show some (L3.D.int ((tbD v l).length:Int),Fl.z)=_
  rw[dD,al.c]
 have nl:neX (.int ((pI n n).length:Int)) (.int ((pI n n).length:Int))=#v[.bl false]:=by rw[oP];simp
 have j:=qI v l
 have get:∀ p∈l,aA (.dt (tbD v l)) (Kp p)=#v[v p.1 p.2]:=λp e=>vS (jG (show (p.1,p.2)∈_ from e))
 have mem:=al.m
 clear al
 generalize tbD v l=T at *
 obtain ⟨Z1,e1,w,rfl⟩:=fy (bnd:=ao 2) (b:=bV) (r:=.bl false) (f:=.z) Kp (λp=>vok (v p.1 p.2)) (λZ=>∃ w,Z=[#v[.dt T],#v[.int (n:Int)],w]) (xs:=l) (Z:=[#v[.dt T],#v[.int (n:Int)],none]) #[none,rfl] (by
  rintro p e Z ⟨w,rfl⟩
  obtain ⟨s,B⟩:=mem p e
  have s1:=get p e
  have u:bd [(Kp p,.z),(.int (n:Int),.z)]=some (.ok (.bl true,.z),[(Kp p,.z),(.int (n:Int),.z)]):=A8 (r:=[p.1,p.2]) #[by simpa using s,λx t=>by simp at t;lia] (by lia)
  have y:eF [Kp p]=#v[.int 2]:=rfl
  have d:=(h p e).a
  refine #[_,_,rfl,?_,#v[Kp p],rfl]
  clear get mem h
  generalize A:v p.1 p.2=Q at *
  generalize L3.D.int (n:Int)=N at *
  unfold bV
  apply ak (Z1:=[#v[.dt T],#v[N],#v[Kp p]])
  .exact aU (b:=false) (fv (b:=false) (bo (b:=true) (aO (au u (af (ae rfl) (af (ae rfl) aq)) rfl rfl rfl) rfl)) rfl (aO (am (aB (af (ae rfl) aq) rfl y) i_c rfl rfl rfl) rfl)) rfl rfl
  unfold vok
  cases g:isI Q with
  | false =>
   rw[g] at d
   exact b7 (b:=true) (vd (b:=true) (bo (b:=false) (aO (au d (af (am (ae rfl) (ae rfl) rfl rfl s1) aq) rfl rfl rfl) rfl)) rfl) rfl (bf i_c rfl)
  | true =>
   rw[g] at d
   have lt:ltI Q (.int 2)=#v[.bl (!decide (2<=toI Q))]:=by
    rw[tz g]
    rw[show (!decide (2<=toI (.int (toI Q))))=decide (toI Q < 2) by
     show (!decide (2<=toI Q))=_
     by_cases z:2<=toI Q <;> simp[z] <;> omega]
    rfl
   rw[Bool.true_and]
   generalize decide (2<=toI Q)=bb at *
   cases bb with
   | true=>exact aU (b:=false) (fv (b:=false) (bo (b:=true) (aO (au d (af (am (ae rfl) (ae rfl) rfl rfl s1) aq) rfl rfl rfl) rfl)) rfl (aO (am (am (ae rfl) (ae rfl) rfl rfl s1) i_c rfl rfl lt) rfl)) rfl rfl
   | false=>exact b7 (b:=true) (fv (b:=false) (bo (b:=true) (aO (au d (af (am (ae rfl) (ae rfl) rfl rfl s1) aq) rfl rfl rfl) rfl)) rfl (aO (am (am (ae rfl) (ae rfl) rfl rfl s1) i_c rfl rfl lt) rfl)) rfl (bf i_c rfl))
 rw[<- j] at e1
 clear get mem j h
 generalize L3.D.int (n:Int)=N at *
 generalize L3.D.int ((pI n n).length:Int)=LN at *
 apply aQ (Z:=[#v[.dt T],#v[N],none]) (Z1:=[#v[.dt T],#v[N],w]) rfl rfl
 .unfold bR
  apply ak (Z1:=[#v[.dt T],#v[N],none])
  .exact aU (b:=false) (fv (b:=false) (bo (b:=true) (aO (mP (ae rfl) rfl rfl) rfl)) rfl (aO (am (aB (af (ae rfl) aq) rfl o) (am (am (ae rfl) (am (ae rfl) i_c rfl rfl c1) rfl rfl c2) i_c rfl rfl k) rfl rfl nl) rfl)) rfl rfl
  cases i:l.all λp=>vok (v p.1 p.2) with
  | true =>
   rw[i,if_pos rfl] at e1
   apply ak (cS (rs:=[.pl 0]) (Z1:=[#v[.dt T],#v[N],none]) rfl rfl e1)
   exact bf i_c rfl
  | false =>
   rw[i,if_neg (by decide)] at e1
   exact bU (cS (rs:=[.pl 0]) (Z1:=[#v[.dt T],#v[N],none]) rfl rfl e1)
 .rfl
end
theorem DA (a c d:L3.D):slD (.tup [a,c,d]) (some 1) none=#v[.tup [c,d]]:=by kernel_rfl
theorem Dz (a c d:L3.D):slD (.tup [a,c,d]) none (some 2)=#v[.tup [a,c]]:=by kernel_rfl
def sK (ps:List Pt) (b:Bool) (v:Nat->Nat->L3.D):Bool:=(fk ps.length).all λt=>!(wv (sgn ps) (way b) t.1 t.2.1 t.2.2 && decide (toI (v t.2.1 t.2.2)<=toI (v t.1 t.2.1)))
section
variable {ps:List Pt} (g:GoodSh ps) (h8:ps.length<=8) {b:Bool} {x:L3.D}
include g h8
theorem oY (h:bg [(x,.z),(.int (ps.length:Int),.z)]=some (.ok (.bl false,.z),[(x,.z),(.int (ps.length:Int),.z)])):bj [(x,.z),(Shd ps,.z),(.int (way b),.z)]=some (.ok (.bl false,.z),[(x,.z),(Shd ps,.z),(.int (way b),.z)]):=by
 have at':=nk g h8
 have a:=ib ps
 generalize tb ps (fk ps.length)=φ at *
 generalize L3.D.int (ps.length:Int)=N at *
 generalize L3.D.int (way b)=WB at *
 generalize Shd ps=H at *
 apply aQ (Z:=[#v[x],#v[H],#v[WB],none,none]) (Z1:=[#v[x],#v[H],#v[WB],some (.dt φ,.u),none]) rfl rfl
 .unfold iY
  apply ak (Z1:=[#v[x],#v[H],#v[WB],some (.dt φ,.u),none])
  .exact cK (au at' (af (ae rfl) aq) rfl rfl rfl) rfl (Nat.le_of_ble_eq_true rfl) rfl
  exact bU (b7 (b:=true) (bo (b:=false) (aO (au h (af (ae rfl) (af (aB (af (ae rfl) aq) rfl a) aq)) rfl rfl rfl) rfl)) rfl (bf i_c rfl))
 .rfl
theorem Cz {v:Nat->Nat->L3.D} {T:List (List Key×L3.D)} (h:bg [(.dt T,.z),(.int (ps.length:Int),.z)]=some (.ok (.bl true,.z),[(.dt T,.z),(.int (ps.length:Int),.z)])) (get:∀ i j,i < j->j < ps.length->aA (.dt T) (.tup [.int (i:Int),.int (j:Int)])=#v[.int (toI (v i j))]):bj [(.dt T,.z),(Shd ps,.z),(.int (way b),.z)]=some (.ok (.bl (sK ps b v),.z),[(.dt T,.z),(Shd ps,.z),(.int (way b),.z)]):=by
 have at':=nk g h8
 have q:=ib ps
 have kt:=Cr ps (fk ps.length)
 have gt:∀ t∈fk ps.length,aA (.dt (tb ps (fk ps.length))) (Td t)=#v[.int (tq ps t)]:=λt a=>Ed a
 have d:∀ i j k,eqX (.int (tq ps (i,j,k))) (.int (way b))=#v[.bl (wv (sgn ps) (way b) i j k)]:=λi j k=>vm _ _
 have mt:∀ t∈fk ps.length,t.1 < t.2.1/\t.2.1 < t.2.2/\t.2.2 < ps.length:=λt a=>js a
 unfold sK
 generalize wv (sgn ps) (way b)=w at *
 generalize tb ps (fk ps.length)=φ at *
 obtain ⟨Z1,e1,z,rfl⟩:=fy (bnd:=ao 4) (b:=ff) (r:=.bl false) (f:=.z) Td (λt=>!(w t.1 t.2.1 t.2.2 && decide (toI (v t.2.1 t.2.2)<=toI (v t.1 t.2.1)))) (λZ=>∃ z,Z=[#v[.dt T],#v[Shd ps],#v[.int (way b)],some (.dt φ,.l),z]) (xs:=fk ps.length) (Z:=[#v[.dt T],#v[Shd ps],#v[.int (way b)],some (.dt φ,.l),none]) #[none,rfl] (by
  rintro ⟨i,j,k⟩ a Z ⟨z,rfl⟩
  obtain ⟨o,p,n⟩:i < j/\j < k/\k < ps.length:=mt _ a
  have s0:=gt _ a
  have s1:=get i j o (by lia)
  have s2:=get j k p n
  have c:=d i j k
  have le:leI (.int (toI (v j k))) (.int (toI (v i j)))=#v[.bl (decide (toI (v j k)<=toI (v i j)))]:=rfl
  refine #[_,_,rfl,?_,#v[Td (i,j,k)],rfl]
  clear get gt d mt
  dsimp only
  generalize L3.D.int (tq ps (i,j,k))=Q at *
  generalize L3.D.int (way b)=WB at *
  generalize Shd ps=H at *
  unfold ff
  cases e:w i j k with
  | true =>
   rw[e] at c
   generalize decide (toI (v j k)<=toI (v i j))=dd at *
   cases dd with
   | false=>exact aU (b:=false) (o4 (b:=true) (aO (am (am (ae rfl) (ae rfl) rfl rfl s0) (ae rfl) rfl rfl c) rfl) rfl (aO (am (am (ae rfl) (by (exists DA _ _ _)) rfl rfl s2) (am (ae rfl) (by (exists Dz _ _ _)) rfl rfl s1) rfl rfl le) rfl)) rfl rfl
   | true=>exact b7 (b:=true) (o4 (b:=true) (aO (am (am (ae rfl) (ae rfl) rfl rfl s0) (ae rfl) rfl rfl c) rfl) rfl (aO (am (am (ae rfl) (by (exists DA _ _ _)) rfl rfl s2) (am (ae rfl) (by (exists Dz _ _ _)) rfl rfl s1) rfl rfl le) rfl)) rfl (bf i_c rfl)
  | false =>
   rw[e] at c
   exact aU (b:=false) (zK (b:=false) (aO (am (am (ae rfl) (ae rfl) rfl rfl s0) (ae rfl) rfl rfl c) rfl) rfl) rfl rfl)
 rw[<- kt] at e1
 clear get gt d mt kt
 generalize L3.D.int (ps.length:Int)=N at *
 generalize Shd ps=H at *
 apply aQ (Z:=[#v[.dt T],#v[H],#v[.int (way b)],none,none]) (Z1:=[#v[.dt T],#v[H],#v[.int (way b)],some (.dt φ,.u),z]) rfl rfl
 .unfold iY
  apply ak (Z1:=[#v[.dt T],#v[H],#v[.int (way b)],some (.dt φ,.u),none])
  .nomatch [(at')]
  apply ak (Z1:=[#v[.dt T],#v[H],#v[.int (way b)],some (.dt φ,.u),none])
  .exact aU (b:=false) (bo (b:=true) (aO (au h (af (ae rfl) (af (aB (af (ae rfl) aq) rfl q) aq)) rfl rfl rfl) rfl)) rfl rfl
  cases m:(fk ps.length).all λt=>!(w t.1 t.2.1 t.2.2 && decide (toI (v t.2.1 t.2.2)<=toI (v t.1 t.2.1))) with
  | true =>
   rw[m,if_pos rfl] at e1
   apply ak (i7 (rs:=[.pl 3]) (is:=[3]) (Z1:=[#v[.dt T],#v[H],#v[.int (way b)],some (.dt φ,.u),none]) rfl rfl e1)
   exact bf i_c rfl
  | false =>
   rw[m,if_neg (by decide)] at e1
   exact bU (i7 (rs:=[.pl 3]) (is:=[3]) (Z1:=[#v[.dt T],#v[H],#v[.int (way b)],some (.dt φ,.u),none]) rfl rfl e1)
 .rfl
theorem Bc {v:Nat->Nat->L3.D} {l:List (Nat×Nat)} (al:AllP ps.length l) (d:∀ p∈l,Vd (v p.1 p.2)):bj [(.dt (tbD v l),.z),(Shd ps,.z),(.int (way b),.z)]=some (.ok (.bl ((l.all λp=>vok (v p.1 p.2)) && sK ps b v),.z),[(.dt (tbD v l),.z),(Shd ps,.z),(.int (way b),.z)]):=by
 have a:=Bd al d g.pos h8
 cases c:l.all λp=>vok (v p.1 p.2) with
 | false =>
  rw[c] at a
  exact oY g h8 a
 | true =>
  rw[c] at a
  rw[Bool.true_and]
  exact Cz g h8 a λi j h1 h2=>by
   have m:=al.h i j h1 h2
   have:=xy (List.all_eq_true.mp c _ m)
   rw[<- this]
   exact vS (jG m)
end
theorem cZ {bnd:L3.D->Sto->Option Sto} {c:M3 Bool} {elt:EM} {d:L3.D} {ds l:List L3.D} {τ τ1 τ2 τ3 τ4 τ':Sto} {r:R3} {p:L3.D×Fl} (h1:bnd d τ=some τ1) (h2:c τ1=some (.ok true,τ2)) (h3:elt τ2=some (.ok r,τ3)) (b:fm r τ3=some (.ok p,τ4)) (a:bG bnd c elt ds τ4=some (.ok l,τ')) :
  bG bnd c elt (d::ds) τ=some (.ok (p.1::l),τ'):=by
 unfold bG
 simp[h1,ag,h2,h3,b,a,aY]
theorem iF:∀ n:Nat,1<=n->n<=8->iH [(.int (n:Int),.z)]=some (.ok (.lst ((pI n n).map Kp),.u),[(.int (n:Int),.z)])
 | 0,h,_=>absurd h (by decide)
 | 1,_,_=>by kernel_rfl
 | 2,_,_=>by kernel_rfl
 | 3,_,_=>by kernel_rfl
 | 4,_,_=>by kernel_rfl
 | 5,_,_=>by kernel_rfl
 | 6,_,_=>by kernel_rfl
 | 7,_,_=>by kernel_rfl
 | 8,_,_=>by kernel_rfl
 | n+9,_,h=>absurd h (by lia)
theorem gv:∀ n:Nat,n<=8->(pI n n).length<=28
 | 0,_=>by decide +kernel
 | 1,_=>by decide +kernel
 | 2,_=>by decide +kernel
 | 3,_=>by decide +kernel
 | 4,_=>by decide +kernel
 | 5,_=>by decide +kernel
 | 6,_=>by decide +kernel
 | 7,_=>by decide +kernel
 | 8,_=>by decide +kernel
 | n+9,h=>absurd h (by lia)
theorem pM:∀ l:List (Nat×Nat),tupsI (l.map Kp)=some (l.map λp=>[(p.1:Int),(p.2:Int)])
 | []=>rfl
 | p::l=>by
  show (match some [(p.1:Int),(p.2:Int)],tupsI (l.map Kp) with | some ns,some m=>some (ns::m) | _,_=>none)=_
  rw[pM l]
  rfl
theorem Ca {l:List (Nat×Nat)} {p:Nat×Nat} (h:p∈l):FC (Kp p) (.lst (l.map Kp))=#v[.bl false]:=by
 show (match some [(p.1:Int),(p.2:Int)],tupsI (l.map Kp) with | some ks,some nss=>some (L3.D.bl (!decide (ks∈nss)),Fl.z) | _,_=>none)=_
 rw[pM l]
 show some (L3.D.bl (!decide ([(p.1:Int),(p.2:Int)]∈l.map λp=>[(p.1:Int),(p.2:Int)])),Fl.z)=_
 rw[G7 (List.mem_map_of_mem (f:=λp:Nat×Nat=>[(p.1:Int),(p.2:Int)]) h)]
 rfl
section
variable {H b X:L3.D}
theorem DD (p:Nat×Nat) (v5 v6 v7:Option (L3.D×Fl)) {T:L3.D}:jz [#v[H],#v[T],#v[b],some (X,.u),#v[Kp p],v5,v6,v7]=some (.ok (.val (.lst [.bl true,.bl true]) .u),[#v[H],#v[T],#v[b],some (X,.u),#v[Kp p],v5,v6,v7]):=by
 have e:∀ (i:Nat) (a:Option (L3.D×Fl)),dS [#v[.int (i:Int)]]=some (.ok (.val (.bl true) .z),[#v[.int (i:Int)]]):=λi a=>by
  have r:=lL (i:Int)
  unfold dS
  nomatch [r]
 have cl:bG (ao 0) b9 dS [.int (p.1:Int),.int (p.2:Int)] [none]=some (.ok [.bl true,.bl true],[#v[.int (p.2:Int)]]) :=
  cZ (p:=(.bl true,.z)) rfl rfl (e p.1 none) rfl (cZ (p:=(.bl true,.z)) rfl rfl (e p.2 none) rfl rfl)
 exact bp (Z1:=[#v[H],#v[T],#v[b],some (X,.u),#v[Kp p],v5,v6,v7]) (ds:=[.int (p.1:Int),.int (p.2:Int)]) (rs:=[.pl 4]) rfl cl (Nat.le_of_ble_eq_true rfl) rfl
end
theorem AL {n:Nat} (t:Nat->Nat->Nat->Bool):((pI n n).all λp=>(List.range (n - (p.2+1))).all λm=>t p.1 p.2 (p.2+1+m))=((fk n).all λq=>t q.1 q.2.1 q.2.2):=by
 rw[Bool.eq_iff_iff,List.all_eq_true,List.all_eq_true]
 constructor
 .intro h q b
  obtain ⟨h1,h2,h3⟩:=js b
  have:=List.all_eq_true.mp (h (q.1,q.2.1) (mem_pI.mpr #[by lia,h1,by lia])) (q.2.2 - (q.2.1+1)) (List.mem_range.mpr (by dsimp only;lia))
  dsimp only at this
  rw[show q.2.1+1+(q.2.2 - (q.2.1+1))=q.2.2 by lia] at this
  exact this
 .intro h p a
  obtain ⟨_,h1,h2⟩:=mem_pI.mp (show (p.1,p.2)∈_ from a)
  refine List.all_eq_true.mpr λm hm=>?_
  have hm:=List.mem_range.mp hm
  exact h (p.1,p.2,p.2+1+m) (wz h1 (by lia) (by lia))
section
variable {ps:List Pt} {b:Bool}
abbrev lpS (H T:L3.D) (b:Bool) (X:Option (L3.D×Fl)) (a4 a c a7:Option (L3.D×Fl)):Sto:=[#v[H],#v[T],#v[.bl b],X,a4,a,c,a7]
theorem lp_b3 (g:GoodSh ps) {v:Nat->Nat->L3.D} {T:List (List Key×L3.D)} (get:∀ i j,i < j->j < ps.length->aA (.dt T) (.tup [.int (i:Int),.int (j:Int)])=#v[.int (toI (v i j))]) {p:Nat×Nat} (o:p∈pI ps.length ps.length) {LX:L3.D} {a4 a7:Option (L3.D×Fl)}:∃ F,bP (lpS (Shd ps) (.dt T) b (some (LX,.l)) a4 #v[.int (p.1:Int)] #v[.int (p.2:Int)] a7)=some (.ok (if ((List.range (ps.length - (p.2+1))).all λm=>!(wv (sgn ps) (way b) p.1 p.2 (p.2+1+m) && decide (toI (v p.2 (p.2+1+m))<=toI (v p.1 p.2))))=true then .nx else .rt (.bl false) .z),lpS (Shd ps) (.dt T) b (some (LX,.l)) a4 #v[.int (p.1:Int)] #v[.int (p.2:Int)] F):=by
 obtain ⟨_,n,c⟩:=mem_pI.mp (show (p.1,p.2)∈_ from o)
 have q:=ib ps
 have s:=g.most
 obtain ⟨Z',e,F,rfl⟩:=fy (bnd:=ao 7) (b:=dU) (r:=.bl false) (f:=.z) (λm:Nat=>L3.D.int ((p.2:Int)+1+m)) (λm=>!(wv (sgn ps) (way b) p.1 p.2 (p.2+1+m) && decide (toI (v p.2 (p.2+1+m))<=toI (v p.1 p.2)))) (λZ=>∃ a7,Z=lpS (Shd ps) (.dt T) b (some (LX,.l)) a4 #v[.int (p.1:Int)] #v[.int (p.2:Int)] a7) (xs:=List.range (ps.length - (p.2+1))) (Z:=lpS (Shd ps) (.dt T) b (some (LX,.l)) a4 #v[.int (p.1:Int)] #v[.int (p.2:Int)] a7) #[a7,rfl] (by
  rintro m hm Z ⟨a7,rfl⟩
  have hm:=List.mem_range.mp hm
  have u:=x6 g (i:=p.1) (j:=p.2) (k:=p.2+1+m) (by lia) c (by lia)
  have a:=Dy (decide (aS (a8 ps p.1) (a8 ps p.2) (a8 ps (p.2+1+m)) > 0)) b
  have h:decide (decide (aS (a8 ps p.1) (a8 ps p.2) (a8 ps (p.2+1+m)) > 0)=b)=wv (sgn ps) (way b) p.1 p.2 (p.2+1+m):=Dx ps _ _ _ b
  rw[h] at a
  have s1:aA (.dt T) (.tup [.int (p.1:Int),.int (p.2:Int)])=#v[.int (toI (v p.1 p.2))]:=get _ _ n c
  have s2:aA (.dt T) (.tup [.int (p.2:Int),.int ((p.2+1+m:Nat):Int)])=#v[.int (toI (v p.2 (p.2+1+m)))]:=get _ _ (by lia) (by lia)
  have ge:geI (.int (toI (v p.1 p.2))) (.int (toI (v p.2 (p.2+1+m))))=#v[.bl (decide (toI (v p.2 (p.2+1+m))<=toI (v p.1 p.2)))]:=rfl
  rw[show ((p.2+1+m:Nat):Int)=(p.2:Int)+1+m by lia] at u s2
  refine #[_,_,rfl,?_,#v[.int ((p.2:Int)+1+m)],rfl]
  generalize decide (toI (v p.2 (p.2+1+m))<=toI (v p.1 p.2))=dd at *
  generalize wv (sgn ps) (way b) p.1 p.2 (p.2+1+m)=ww at *
  generalize decide (aS (a8 ps p.1) (a8 ps p.2) (a8 ps (p.2+1+m)) > 0)=B at *
  clear get
  generalize L3.D.int ((p.2:Int)+1+m)=M at *
  generalize L3.D.int (toI (v p.2 (p.2+1+m)))=F2 at *
  generalize L3.D.int (toI (v p.1 p.2))=F1 at *
  generalize L3.D.int (p.1:Int)=P1 at *
  generalize L3.D.int (p.2:Int)=P2 at *
  generalize Shd ps=H at *
  unfold dU
  cases ww with
  | false=>exact aU (b:=false) (zK (b:=false) (aO (am (au u (af (ae rfl) (af (ae rfl) (af (ae rfl) (af (ae rfl) aq)))) rfl rfl rfl) (ae rfl) rfl rfl a) rfl) rfl) rfl rfl
  | true =>
   cases dd with
   | false=>exact aU (b:=false) (o4 (b:=true) (aO (am (au u (af (ae rfl) (af (ae rfl) (af (ae rfl) (af (ae rfl) aq)))) rfl rfl rfl) (ae rfl) rfl rfl a) rfl) rfl (aO (am (am (ae rfl) (bN (af (ae rfl) (af (ae rfl) aq)) rfl (Nat.le_of_ble_eq_true rfl)) rfl rfl s1) (am (ae rfl) (bN (af (ae rfl) (af (ae rfl) aq)) rfl (Nat.le_of_ble_eq_true rfl)) rfl rfl s2) rfl rfl ge) rfl)) rfl rfl
   | true=>exact b7 (b:=true) (o4 (b:=true) (aO (am (au u (af (ae rfl) (af (ae rfl) (af (ae rfl) (af (ae rfl) aq)))) rfl rfl rfl) (ae rfl) rfl rfl a) rfl) rfl (aO (am (am (ae rfl) (bN (af (ae rfl) (af (ae rfl) aq)) rfl (Nat.le_of_ble_eq_true rfl)) rfl rfl s1) (am (ae rfl) (bN (af (ae rfl) (af (ae rfl) aq)) rfl (Nat.le_of_ble_eq_true rfl)) rfl rfl s2) rfl rfl ge) rfl)) rfl (bf i_c rfl))
 have d:jl [.int ((p.2:Int)+1),.int (ps.length:Nat)]=some (bm ((p.2:Int)+1) (ps.length - (p.2+1))):=oA (by lia) (by lia) (by lia)
 refine #[F,?_]
 have e:cL (ao 7) dU (bm ((p.2:Int)+1) (ps.length - (p.2+1))) _=_:=e
 have ad:bu (.int (p.2:Int)) (.int 1)=#v[.int ((p.2:Int)+1)]:=rfl
 generalize bm ((p.2:Int)+1) (ps.length - (p.2+1))=RG at *
 unfold bP
 exact cS (eV (af (am (ae rfl) i_c rfl rfl ad) (af (aB (af (ae rfl) aq) rfl q) aq)) rfl d) rfl e
theorem sF (g:GoodSh ps) (h8:ps.length<=8) {v:Nat->Nat->L3.D} {l:List (Nat×Nat)} (al:AllP ps.length l) (P:∀ p∈l,Vd (v p.1 p.2)):d9 [(Shd ps,.z),(.dt (tbD v l),.z),(.bl b,.z)]=some (.ok (.bl ((l.all λp=>vok (v p.1 p.2)) && sK ps b v),.z),[(Shd ps,.z),(.dt (tbD v l),.z),(.bl b,.z)]):=by
 have pr:=iF ps.length g.pos h8
 have F:=gv ps.length h8
 have R:=ib ps
 have t:eF [.lst ((pI ps.length ps.length).map Kp)]=#v[.int ((pI ps.length ps.length).length:Int)]:=by simp[qH,c1]
 have y:nH [.dt (tbD v l)]=#v[.int ((pI ps.length ps.length).length:Int)]:=by
  show some (L3.D.int ((tbD v l).length:Int),Fl.z)=_
  rw[dD,al.c]
 have nl:neX (.int ((pI ps.length ps.length).length:Int)) (.int ((pI ps.length ps.length).length:Int))=#v[.bl false]:=by rw[oP];simp
 have o:=qI v l
 have n:=al.m
 have get:∀ p∈l,aA (.dt (tbD v l)) (Kp p)=#v[v p.1 p.2]:=λp d=>vS (jG (show (p.1,p.2)∈_ from d))
 have S:=g.most
 obtain ⟨Z1,e1,v4,rfl⟩:=fy (bnd:=ao 4) (b:=bQ) (r:=.bl false) (f:=.z) Kp (λ_=>true) (λZ=>∃ v4,Z=lpS (Shd ps) (.dt (tbD v l)) b (some (.lst ((pI ps.length ps.length).map Kp),.u)) v4 none none none) (xs:=l) (Z:=lpS (Shd ps) (.dt (tbD v l)) b (some (.lst ((pI ps.length ps.length).map Kp),.u)) none none none none) #[none,rfl] (by
  rintro p d Z ⟨v4,rfl⟩
  obtain ⟨L,I⟩:=n p d
  have K:=Ca (l:=pI ps.length ps.length) (p:=p) (mem_pI.mpr #[by lia,L,I])
  have M:=DD (H:=Shd ps) (b:=.bl b) (X:=.lst ((pI ps.length ps.length).map Kp)) (T:=.dt (tbD v l)) p none none none
  refine #[_,_,rfl,?_,#v[Kp p],rfl]
  clear get o pr t y
  generalize L3.D.lst ((pI ps.length ps.length).map Kp)=LX at *
  generalize tbD v l=T at *
  generalize Shd ps=H at *
  unfold bQ
  exact aU (b:=false) (fv (b:=false) (bo (b:=true) (aO (mP (ae rfl) rfl rfl) rfl)) rfl (fv (b:=false) (aO (am (ae rfl) (ae rfl) rfl rfl K) rfl) rfl (bo (b:=true) (aO (aB (af M aq) rfl rfl) rfl)))) rfl rfl)
 rw[if_pos (by simp)] at e1
 obtain ⟨τ,w,a2,rfl⟩:=cM (bnd:=ao 0) (c:=b9) (elt:=dR) (λτ=>∃ a,τ=[a,#v[.dt (tbD v l)]]) Kp (λ_=>true) (λp=>L3.D.bl (vok (v p.1 p.2))) (xs:=l) (τ:=[none,#v[.dt (tbD v l)]]) #[none,rfl] (by
  rintro p d τ ⟨a,rfl⟩
  have s1:=get p d
  have r:=(P p d).b
  generalize v p.1 p.2=Q at *
  generalize tbD v l=T at *
  have el:dR [#v[Kp p],#v[.dt T]]=some (.ok (.val (.bl (vok Q)) .z),[#v[Kp p],#v[.dt T]]):=by
   unfold dR vok
   cases s:isI Q with
   | false =>
    rw[s] at r
    exact CA (b:=false) (au r (af (am (ae rfl) (ae rfl) rfl rfl s1) aq) rfl rfl rfl) rfl rfl
   | true =>
    rw[s] at r
    have gt:gtI Q (.int 1)=#v[.bl (decide (2<=toI Q))]:=by
     rw[tz s]
     show some (L3.D.bl (decide (toI Q > 1)),Fl.z)=_
     rw[show decide (toI Q > 1)=decide (2<=toI Q) by rw[decide_eq_decide];lia]
     rfl
    exact lg (b:=true) (au r (af (am (ae rfl) (ae rfl) rfl rfl s1) aq) rfl rfl rfl) rfl rfl (am (am (ae rfl) (ae rfl) rfl rfl s1) i_c rfl rfl gt)
  exact #[_,_,rfl,rfl,(λh=>by cases h),λ_=>#[_,_,_,_,el,rfl,rfl,_,rfl]])
 rw[Hq.mpr (λ_ _=>rfl),<- o] at w
 have ad:mW [.lst ((l).map λp=>L3.D.bl (vok (v p.1 p.2)))]=#v[.bl ((l).all λp=>vok (v p.1 p.2))]:=ui (λp:Nat×Nat=>vok (v p.1 p.2)) (l)
 rw[<- o] at e1
 have hlen:((tbD v l).map λB=>wK B.1).length < 16777216:=by rw[GS,dD,al.c];lia
 have J:(l.all λp=>vok (v p.1 p.2))=true->∃ v5 v6 v7,cL (kW 2 (bS (ao 5) (bS (ao 6) kX))) bP ((pI ps.length ps.length).map Kp) (lpS (Shd ps) (.dt (tbD v l)) b (some (.lst ((pI ps.length ps.length).map Kp),.l)) v4 none none none)=some (.ok (if sK ps b v=true then .nx else .rt (.bl false) .z),lpS (Shd ps) (.dt (tbD v l)) b (some (.lst ((pI ps.length ps.length).map Kp),.l)) v4 v5 v6 v7):=by
  intro E
  have G:∀ i j,i < j->j < ps.length->aA (.dt (tbD v l)) (.tup [.int (i:Int),.int (j:Int)])=#v[.int (toI (v i j))]:=λi j h1 h2=>by
   have m:=al.h i j h1 h2
   rw[<- xy (List.all_eq_true.mp E _ m)]
   exact vS (jG m)
  obtain ⟨Z3,e,v5,v6,v7,rfl⟩:=fy (bnd:=kW 2 (bS (ao 5) (bS (ao 6) kX))) (b:=bP) (r:=.bl false) (f:=.z) Kp (λp=>(List.range (ps.length - (p.2+1))).all λm=>!(wv (sgn ps) (way b) p.1 p.2 (p.2+1+m) && decide (toI (v p.2 (p.2+1+m))<=toI (v p.1 p.2)))) (λZ=>∃ v5 v6 v7,Z=lpS (Shd ps) (.dt (tbD v l)) b (some (.lst ((pI ps.length ps.length).map Kp),.l)) v4 v5 v6 v7) (xs:=pI ps.length ps.length) (Z:=lpS (Shd ps) (.dt (tbD v l)) b (some (.lst ((pI ps.length ps.length).map Kp),.l)) v4 none none none) #[none,none,none,rfl] (by
   rintro p d Z ⟨v5,v6,v7,rfl⟩
   obtain ⟨φ,q⟩:=lp_b3 (b:=b) (v:=v) g G d (LX:=.lst ((pI ps.length ps.length).map Kp)) (a4:=v4) (a7:=v7)
   exact #[_,_,rfl,q,_,_,_,rfl])
  rw[AL λi j k=>!(wv (sgn ps) (way b) i j k && decide (toI (v j k)<=toI (v i j)))] at e
  exact #[v5,v6,v7,e]
 clear get
 generalize (l).map (λp=>L3.D.bl (vok (v p.1 p.2)))=BL at *
 generalize L3.D.int ((pI ps.length ps.length).length:Int)=LN at *
 generalize ((l).all λp=>vok (v p.1 p.2))=A at *
 generalize sK ps b v=C at *
 generalize V:(pI ps.length ps.length).map Kp=LX at *
 generalize tbD v l=T at *
 generalize L3.D.int (ps.length:Int)=N at *
 generalize Shd ps=H at *
 have c2:fQ (lpS H (.dt T) b (some (.lst LX,.u)) v4 none none none)=some (.ok (.val (.lst BL) .u),lpS H (.dt T) b (some (.lst LX,.u)) v4 none none none):=bp (rs:=[.pl 1]) (Z1:=lpS H (.dt T) b (some (.lst LX,.u)) v4 none none none) rfl w hlen rfl
 have pre:∀ {x:Option (Except L3.D Flw×Sto)},aE (sIf (fj (cB (av mW (aa fQ ai)))) (aN 3 (mC (.bl false))) dH) (aE (cj (bZ (ac 3)) (kW 2 (bS (ao 5) (bS (ao 6) kX))) bP) (aN 3 (mC (.bl true)))) (lpS H (.dt T) b (some (.lst LX,.u)) v4 none none none)=x->dZ [#v[H],#v[.dt T],#v[.bl b],none,none,none,none,none]=x:=λ{x} O=>by
  unfold dZ
  apply ak (Z1:=lpS H (.dt T) b (some (.lst LX,.u)) none none none none)
  .exact cK (au pr (af (aB (af (ae rfl) aq) rfl R) aq) rfl rfl rfl) rfl (Nat.le_of_ble_eq_true rfl) rfl
  apply ak (Z1:=lpS H (.dt T) b (some (.lst LX,.u)) none none none none)
  .exact aU (b:=false) (fv (b:=false) (bo (b:=true) (aO (mP (ae rfl) rfl rfl) rfl)) rfl (aO (am (aB (af (ae rfl) aq) rfl y) (aB (af (ae rfl) aq) rfl t) rfl rfl nl) rfl)) rfl rfl
  apply ak (cS (rs:=[.pl 1]) (Z1:=lpS H (.dt T) b (some (.lst LX,.u)) none none none none) rfl rfl e1)
  exact O
 cases A with
 | false =>
  apply aQ (Z:=[#v[H],#v[.dt T],#v[.bl b],none,none,none,none,none]) (Z1:=lpS H (.dt T) b (some (.lst LX,.u)) v4 none none none) rfl rfl
  .refine pre ?_
   exact bU (b7 (b:=true) (bo (b:=false) (aO (aB (af c2 aq) rfl ad) rfl)) rfl (bf i_c rfl))
  .rfl
 | true =>
  obtain ⟨v5,v6,v7,e⟩:=J rfl
  apply aQ (Z:=[#v[H],#v[.dt T],#v[.bl b],none,none,none,none,none]) (Z1:=lpS H (.dt T) b (some (.lst LX,.u)) v4 v5 v6 v7) rfl rfl
  .refine pre ?_
   apply ak (Z1:=lpS H (.dt T) b (some (.lst LX,.u)) v4 none none none)
   .exact aU (b:=false) (bo (b:=true) (aO (aB (af c2 aq) rfl ad) rfl)) rfl rfl
   cases C with
   | true =>
    rw[if_pos rfl] at e
    apply ak (i7 (rs:=[.pl 3]) (is:=[3]) (Z1:=lpS H (.dt T) b (some (.lst LX,.u)) v4 none none none) rfl rfl e)
    exact bf i_c rfl
   | false =>
    rw[if_neg (by decide)] at e
    exact bU (i7 (rs:=[.pl 3]) (is:=[3]) (Z1:=lpS H (.dt T) b (some (.lst LX,.u)) v4 none none none) rfl rfl e)
  .rfl
end
def ov:List L3.D:=[.non,.bl true,.bl false,.int 0,.int (-1),.int 1,.str "",.str "1",.tup [],.lst [],.tup [.int 0],.tup [.int 0,.int 1],.lst [.int 0],.dk [(.inr "a",.int 1)],.int 100000000000000000000000000000,.tup [.tup [.int 0,.int 0]],.tup [.tup [.int 0,.int 1],.tup [.int 1,.int 2]],.str "0,0",.tup [.int 0,.int 1,.int 2],.dt [([.inl 0,.inl 1],.int 2)]]
theorem ov_at (i:Nat) (h:i < 20):∃ v,aA (.lst ov) (.int (i:Int))=#v[v]/\v∈ov:=by
 have a:i < ov.length:=h
 exact ⟨ov[i],eL (by
  unfold L2.atI L2.ixN
  rw[if_pos (by omega),if_pos (by omega)]
  simp[a]),List.getElem_mem a⟩
theorem A9 {n m:Int} {j v:L3.D} (t:bc [(.lst [.int n],.u),(.int 20,.z)]=some (.ok (j,.z),[(.lst [.int m],.u),(.int 20,.z)])) (h:aA (.lst ov) j=#v[v]):lr [(.lst [.int n],.u)]=some (.ok (v,.z),[(.lst [.int m],.u)]):=by
 have a:∀ B:L3.D,(aV 1 (cX (aa (mC .non) (aa (mC (.bl true)) (aa (mC (.bl false)) (aa (mC (.int 0)) (aa (mUn Cd (mC (.int 1))) (aa (mC (.int 1)) (aa (mC (.str "")) (aa (mC (.str "1")) (aa (bM ai) (aa (cX ai) (aa (bM (aa (mC (.int 0)) ai)) (aa (bM (aa (mC (.int 0)) (aa (mC (.int 1)) ai))) (aa (cX (aa (mC (.int 0)) ai)) (aa (FN (.inr "a") 1) ai)))))))))))))))) [some (B,.u),none]=some (.ok .nx,[some (B,.u),some (.lst (ov.take 14),.u)]):=λB=>by kernel_rfl
 have b:∀ B:L3.D,(aV 1 (ah bu (ac 1) (cX (aa (ah sP (mC (.int 10)) (mC (.int 29))) (aa (bM (aa (bM (aa (mC (.int 0)) (aa (mC (.int 0)) ai))) ai)) (aa (bM (aa (bM (aa (mC (.int 0)) (aa (mC (.int 1)) ai))) (aa (bM (aa (mC (.int 1)) (aa (mC (.int 2)) ai))) ai))) (aa (mC (.str "0,0")) (aa (bM (aa (mC (.int 0)) (aa (mC (.int 1)) (aa (mC (.int 2)) ai)))) (aa (FM [0,1] 2) ai))))))))) [some (B,.u),some (.lst (ov.take 14),.u)]=some (.ok .nx,[some (B,.u),some (.lst ov,.u)]):=λB=>by kernel_rfl
 have a:=a (.lst [.int n])
 have b:=b (.lst [.int n])
 generalize L3.D.lst (ov.take 14)=S7 at *
 generalize L3.D.lst ov=SV at *
 apply aQ (Z:=[some (.lst [.int n],.u),none]) (Z1:=[some (.lst [.int m],.u),some (SV,.u)]) rfl rfl
 .unfold uZ
  refine ak a ?_
  refine ak b ?_
  apply bf
  .nomatch [t],[h]
  .rfl
 .rfl
theorem FD (s:Str):neX (.str s) (.str s)=#v[.bl false]:=by
 show (some (decide (s=s))).map _=_
 rw[G7 rfl];rfl
theorem nh (b:Bool):fB [(.bl b,.z),(.bl b,.z)]=some (.ok (.bl true,.z),[(.bl b,.z),(.bl b,.z)]):=by
 cases b <;> kernel_rfl
def rW (ps:List Pt) (x:L3.D) (b B:Bool):Prop:=bj [(x,.z),(Shd ps,.z),(.int (way b),.z)]=some (.ok (.bl B,.z),[(x,.z),(Shd ps,.z),(.int (way b),.z)])/\d9 [(Shd ps,.z),(x,.z),(.bl b,.z)]=some (.ok (.bl B,.z),[(Shd ps,.z),(x,.z),(.bl b,.z)])
section
variable {ps:List Pt} (g:GoodSh ps) (h8:ps.length<=8) {b:Bool} {x:L3.D}
include g h8
theorem uQ {v:Nat->Nat->L3.D} {l:List (Nat×Nat)} (al:AllP ps.length l) (a:∀ p∈l,Vd (v p.1 p.2)):rW ps (.dt (tbD v l)) b ((l.all λp=>vok (v p.1 p.2)) && sK ps b v):=#[Bc g h8 al a,sF g h8 al a]
theorem sT (h:i6 "dict" x=#v[.bl false]):rW ps x b false:=by
 refine #[oY g h8 ?_,?_]
 .generalize L3.D.int (ps.length:Int)=N at *
  apply aQ (Z:=[#v[x],#v[N],none]) (Z1:=[#v[x],#v[N],none]) rfl rfl
  .unfold bR
   exact bU (b7 (b:=true) (vd (b:=true) (bo (b:=false) (aO (mP (ae rfl) rfl h) rfl)) rfl) rfl (bf i_c rfl))
  .rfl
 .have pr:=iF ps.length g.pos h8
  have a:=ib ps
  generalize (pI ps.length ps.length).map Kp=LX at *
  generalize L3.D.int (ps.length:Int)=N at *
  generalize Shd ps=H at *
  apply aQ (Z:=[#v[H],#v[x],#v[.bl b],none,none,none,none,none]) (Z1:=lpS H x b (some (.lst LX,.u)) none none none none) rfl rfl
  .unfold dZ
   apply ak (Z1:=lpS H x b (some (.lst LX,.u)) none none none none)
   .exact cK (au pr (af (aB (af (ae rfl) aq) rfl a) aq) rfl rfl rfl) rfl (Nat.le_of_ble_eq_true rfl) rfl
   exact bU (b7 (b:=true) (vd (b:=true) (bo (b:=false) (aO (mP (ae rfl) rfl h) rfl)) rfl) rfl (bf i_c rfl))
  .rfl
theorem oK {m:Int} (h:i6 "dict" x=#v[.bl true]) (a:nH [x]=#v[.int m]) (hm:m≠((pI ps.length ps.length).length:Int)):rW ps x b false:=by
 have ne:neX (.int m) (.int ((pI ps.length ps.length).length:Int))=#v[.bl true]:=by rw[oP,G8 hm];rfl
 refine #[oY g h8 ?_,?_]
 .obtain ⟨p,q,c1,c2,c⟩:=Ah ps.length g.pos h8
  generalize L3.D.int ((pI ps.length ps.length).length:Int)=LN at *
  generalize L3.D.int (ps.length:Int)=N at *
  generalize L3.D.int m=M at *
  apply aQ (Z:=[#v[x],#v[N],none]) (Z1:=[#v[x],#v[N],none]) rfl rfl
  .unfold bR
   exact bU (b7 (b:=true) (fv (b:=false) (bo (b:=true) (aO (mP (ae rfl) rfl h) rfl)) rfl (aO (am (aB (af (ae rfl) aq) rfl a) (am (am (ae rfl) (am (ae rfl) i_c rfl rfl c1) rfl rfl c2) i_c rfl rfl c) rfl rfl ne) rfl)) rfl (bf i_c rfl))
  .rfl
 .have pr:=iF ps.length g.pos h8
  have e:=ib ps
  have d:eF [.lst ((pI ps.length ps.length).map Kp)]=#v[.int ((pI ps.length ps.length).length:Int)]:=by simp[qH,c1]
  generalize L3.D.int ((pI ps.length ps.length).length:Int)=LN at *
  generalize (pI ps.length ps.length).map Kp=LX at *
  generalize L3.D.int (ps.length:Int)=N at *
  generalize L3.D.int m=M at *
  generalize Shd ps=H at *
  apply aQ (Z:=[#v[H],#v[x],#v[.bl b],none,none,none,none,none]) (Z1:=lpS H x b (some (.lst LX,.u)) none none none none) rfl rfl
  .unfold dZ
   apply ak (Z1:=lpS H x b (some (.lst LX,.u)) none none none none)
   .exact cK (au pr (af (aB (af (ae rfl) aq) rfl e) aq) rfl rfl rfl) rfl (Nat.le_of_ble_eq_true rfl) rfl
   exact bU (b7 (b:=true) (fv (b:=false) (bo (b:=true) (aO (mP (ae rfl) rfl h) rfl)) rfl (aO (am (aB (af (ae rfl) aq) rfl a) (aB (af (ae rfl) aq) rfl d) rfl rfl ne) rfl)) rfl (bf i_c rfl))
  .rfl
end
theorem cnt1:∀ n:Nat,1<=n->n<=8->(((1:Int)=((pI n n).length:Int)) ↔ n=2)
 | 0,h,_=>absurd h (by decide)
 | 1,_,_=>by decide +kernel
 | 2,_,_=>by decide +kernel
 | 3,_,_=>by decide +kernel
 | 4,_,_=>by decide +kernel
 | 5,_,_=>by decide +kernel
 | 6,_,_=>by decide +kernel
 | 7,_,_=>by decide +kernel
 | 8,_,_=>by decide +kernel
 | n+9,_,h=>absurd h (by lia)
section
variable {ps:List Pt} (g:GoodSh ps) (h8:ps.length<=8) {b:Bool}
include g h8
theorem Ff:rW ps (.dk [(.inr "a",.int 1)]) b false:=by
 by_cases h2:ps.length=2
 .refine #[oY g h8 (by rw[h2];kernel_rfl),?_]
  have pr:=iF 2 (by decide) (by decide)
  have c:=ib ps
  rw[h2] at c
  have e:eF [.lst ((pI 2 2).map Kp)]=#v[.int 1]:=by kernel_rfl
  have a:neX (.int 1) (.int 1)=#v[.bl false]:=by kernel_rfl
  generalize (pI 2 2).map Kp=LX at *
  generalize Shd ps=H at *
  have body:∀ v4:Option (L3.D×Fl),bQ (lpS H (.dk [(.inr "a",.int 1)]) b (some (.lst LX,.u)) #v[.str "a"] none none none)=some (.ok (.rt (.bl false) .z),lpS H (.dk [(.inr "a",.int 1)]) b (some (.lst LX,.u)) #v[.str "a"] none none none):=λv4=>by
   unfold bQ
   exact b7 (b:=true) (vd (b:=true) (bo (b:=false) (aO (mP (ae rfl) rfl rfl) rfl)) rfl) rfl (bf i_c rfl)
  have lo:cL (ao 4) bQ [.str "a"] (lpS H (.dk [(.inr "a",.int 1)]) b (some (.lst LX,.u)) none none none none)=some (.ok (.rt (.bl false) .z),lpS H (.dk [(.inr "a",.int 1)]) b (some (.lst LX,.u)) #v[.str "a"] none none none):=Dw rfl (body none)
  apply aQ (Z:=[#v[H],#v[.dk [(.inr "a",.int 1)]],#v[.bl b],none,none,none,none,none]) (Z1:=lpS H (.dk [(.inr "a",.int 1)]) b (some (.lst LX,.u)) #v[.str "a"] none none none) rfl rfl
  .unfold dZ
   apply ak (Z1:=lpS H (.dk [(.inr "a",.int 1)]) b (some (.lst LX,.u)) none none none none)
   .exact cK (au pr (af (aB (af (ae rfl) aq) rfl c) aq) rfl rfl rfl) rfl (Nat.le_of_ble_eq_true rfl) rfl
   apply ak (Z1:=lpS H (.dk [(.inr "a",.int 1)]) b (some (.lst LX,.u)) none none none none)
   .exact aU (b:=false) (fv (b:=false) (bo (b:=true) (aO (mP (ae rfl) rfl rfl) rfl)) rfl (aO (am (aB (d:=.int 1) (af (ae rfl) aq) rfl rfl) (aB (af (ae rfl) aq) rfl e) rfl rfl a) rfl)) rfl rfl
   exact bU (cS (rs:=[.pl 1]) (Z1:=lpS H (.dk [(.inr "a",.int 1)]) b (some (.lst LX,.u)) none none none none) rfl rfl lo)
  .rfl
 .exact oK (m:=1) g h8 rfl rfl λh=>h2 ((cnt1 _ g.pos h8).mp h)
theorem BS:∃ B,rW ps (.dt [([.inl 0,.inl 1],.int 2)]) b B:=by
 by_cases h2:ps.length=2
 .have al:AllP ps.length [(0,1)]:=by
   rw[h2]
   refine #[λp a=>?_,λi j h1 h2=>?_,by decide +kernel]
   .cases Hh.mp a;decide
   .rw[show i=0 by omega,show j=1 by omega];exact Hh.mpr rfl
  exact #[_,uQ (v:=λ_ _=>.int 2) g h8 al λp a=>#[by kernel_rfl,by kernel_rfl]]
 .exact #[false,oK (m:=1) g h8 rfl rfl λh=>h2 ((cnt1 _ g.pos h8).mp h)]
end
def GA (ps:List Pt) (x:L3.D) (b:Bool):Prop:=∃ B,rW ps x b B
theorem Fe {ps:List Pt} (g:GoodSh ps) (h8:ps.length<=8) {b:Bool} {x:L3.D} (h:x∈ov):GA ps x b:=by
 have no:∀ {x:L3.D},i6 "dict" x=#v[.bl false]->GA ps x b:=λh=>#[false,sT g h8 h]
 unfold ov at h
 simp only[GN,List.not_mem_nil,or_false] at h
 rcases h with rfl | rfl | rfl | rfl | rfl | rfl | rfl | rfl | rfl | rfl | rfl | rfl | rfl | rfl | rfl | rfl | rfl | rfl | rfl | rfl
 all_goals first | exact no rfl | exact #[false,Ff g h8] | exact BS g h8
theorem pJ_eq:∀ n:Nat,n<=8->(pJ n).length=(pI n n).length
 | 0,_=>by decide +kernel
 | 1,_=>by decide +kernel
 | 2,_=>by decide +kernel
 | 3,_=>by decide +kernel
 | 4,_=>by decide +kernel
 | 5,_=>by decide +kernel
 | 6,_=>by decide +kernel
 | 7,_=>by decide +kernel
 | 8,_=>by decide +kernel
 | n+9,h=>absurd h (by lia)
theorem rV {n:Nat} (h:n<=8):AllP n (pJ n):=#[λp a=>mem_pJ.mp (show (p.1,p.2)∈_ from a),λi j h1 h2=>mem_pJ.mpr #[h1,h2],pJ_eq n h]
theorem Gz {n:Nat}:AllP n (pI n n):=#[λp a=>(mem_pI.mp (show (p.1,p.2)∈_ from a)).2,λi j h1 h2=>mem_pI.mpr #[by omega,h1,h2],rfl]
theorem jR (x:Int):Vd (.int x):=#[jW x,lL x]
theorem xz (t:Str):Vd (.str t):=#[by kernel_rfl,by kernel_rfl]
theorem C1 (t:Bool):Vd (.bl t):=by cases t <;> exact #[by kernel_rfl,by kernel_rfl]
theorem vd_ov {x:L3.D} (h:x∈ov):Vd x:=by
 unfold ov at h
 simp only[GN,List.not_mem_nil,or_false] at h
 rcases h with rfl | rfl | rfl | rfl | rfl | rfl | rfl | rfl | rfl | rfl | rfl | rfl | rfl | rfl | rfl | rfl | rfl | rfl | rfl | rfl
 all_goals first | exact jR _ | exact xz _ | exact C1 _ | exact #[by kernel_rfl,by kernel_rfl]
section
variable {ps:List Pt} {b:Bool}
theorem CI {x:L3.D} {B:Bool} (h:rW ps x true B):cN [(x,.z),(Shd ps,.z)]=some (.ok (.bl B,.z),[(x,.z),(Shd ps,.z)]):=by
 have h:bj [(x,.z),(Shd ps,.z),(.int 1,.z)]=some (.ok (.bl B,.z),[(x,.z),(Shd ps,.z),(.int 1,.z)]):=h.1
 generalize Shd ps=H at *
 apply aQ (Z:=[#v[x],#v[H]]) (Z1:=[#v[x],#v[H]]) rfl rfl
 .apply bf
  .exact au h (af (ae rfl) (af (ae rfl) (af i_c aq))) rfl rfl rfl
  .rfl
 .rfl
theorem CQ {x:L3.D} {B:Bool} (h:rW ps x false B):cO [(x,.z),(Shd ps,.z)]=some (.ok (.bl B,.z),[(x,.z),(Shd ps,.z)]):=by
 have h:bj [(x,.z),(Shd ps,.z),(.int (-1),.z)]=some (.ok (.bl B,.z),[(x,.z),(Shd ps,.z),(.int (-1),.z)]):=h.1
 generalize Shd ps=H at *
 apply aQ (Z:=[#v[x],#v[H]]) (Z1:=[#v[x],#v[H]]) rfl rfl
 .apply bf
  .exact au h (af (ae rfl) (af (ae rfl) (af i_c aq))) rfl rfl rfl
  .rfl
 .rfl
end
theorem lT {m:Nat}:∀ {ts:List Str},(∀ t∈ts,t.length<=m)->piled ts<=ts.length * (m+2)
 | [],_=>by simp[piled]
 | t::ts,h=>by
  have h1:=h t GG
  have h2:=lT (ts:=ts) λu hu=>h u (GH _ hu)
  rw[piled_cons,Hd,Nat.succ_mul]
  lia
theorem sd {m:Nat} {ts:List Str} (h:∀ t∈ts,t.length<=m):(tupleText ts).length<=ts.length * (m+2)+3:=by
 have a:=lT h
 have c:(Str.join ", " ts).length<=ts.length * (m+2):=by
  by_cases e:ts=[]
  .subst e;exact Nat.zero_le _
  .have:=join_length_add ts e
   lia
 unfold tupleText
 rw[strLen_append,strLen_append]
 have e1:(("(":String):Str).length=1:=rfl
 have b:((if ts.length == 1 then ",)" else ")":String):Str).length<=2:=by
  cases ts.length == 1 <;> decide
 lia
theorem gj {m:Nat}:∀ {ts:List Str} {k:Nat} {acc:Str},(∀ t∈ts,t.length<=m)->(textFrom k acc ts).length<=acc.length+ts.length * (m+2)
 | [],_,_,_=>by simp[textFrom]
 | t::ts,k,acc,h=>by
  have h1:=h t GG
  have h2:=gj (ts:=ts) (k:=k+1) (acc:=acc++(if k > 0 then ", " else "":String)++t) λu hu=>h u (GH _ hu)
  have b:((if k > 0 then ", " else "":String):Str).length<=2:=by
   by_cases a:k > 0
   .rw[if_pos a] <;> decide
   .rw[if_neg a] <;> decide
  rw[strLen_append,strLen_append] at h2
  rw[Hd,Nat.succ_mul]
  show (textFrom (k+1) _ ts).length<=_
  lia
mutual
theorem yO:∀ (d:L3.D) (p:PyData),pyD d=some p->p.hasDict=false
 | .non,p,e=>by unfold pyD at e;cases e;rfl
 | .bl _,p,e=>by unfold pyD at e;cases e;rfl
 | .int _,p,e=>by unfold pyD at e;cases e;rfl
 | .str _,p,e=>by unfold pyD at e;cases e;rfl
 | .tup xs,p,e=>by
  unfold pyD at e
  obtain ⟨ps,e1,rfl⟩:=GJ.mp e
  simpa[PyData.hasDict] using lc xs ps e1
 | .lst xs,p,e=>by
  unfold pyD at e
  obtain ⟨ps,e1,rfl⟩:=GJ.mp e
  simpa[PyData.hasDict] using lc xs ps e1
 | .fls xs,p,e=>by
  unfold pyD at e
  obtain ⟨ps,e1,rfl⟩:=GJ.mp e
  simpa[PyData.hasDict] using lc xs ps e1
 | .dk _,p,e=>by unfold pyD at e;cases e
 | .dt _,p,e=>by unfold pyD at e;cases e
 | .exc _ _,p,e=>by unfold pyD at e;cases e
 | .desk _ _,p,e=>by unfold pyD at e;cases e
theorem lc:∀ (ds:List L3.D) (ps:List PyData),jo ds=some ps->PyData.hasDictAll ps=false
 | [],ps,e=>by unfold jo at e;cases e;rfl
 | d::ds,ps,e=>by
  unfold jo at e
  cases h1:pyD d with
  | none=>rw[h1] at e;cases e
  | some p =>
   cases h2:jo ds with
   | none=>rw[h1,h2] at e;cases e
   | some qs =>
    rw[h1,h2] at e
    cases e
    simp[PyData.hasDictAll,yO d p h1,lc ds qs h2]
end
def sm (f:L3.D->Option PyData) (k m:Nat) (d:L3.D):Bool:=match f d with
 | some p=>p.showable && decide (p.depth<=k) && decide (p.shown.length<=m)
 | none=>false
structure Sml (k m:Nat) (p:PyData):Prop where
 s:p.showable=true
 d:p.depth<=k
 l:p.shown.length<=m
theorem lE {f:L3.D->Option PyData} {k m:Nat} {d:L3.D} (h:sm f k m d=true):∃ p,f d=some p/\Sml k m p:=by
 unfold sm at h
 cases e:f d with
 | none=>rw[e] at h;cases h
 | some p =>
  rw[e] at h
  simp only[Bool.and_eq_true,decide_eq_true_eq] at h
  exact #[p,rfl,h.1.1,h.1.2,h.2]
theorem pR {f:L3.D->Option PyData} {k m:Nat} {d:L3.D} {p:PyData} (e:f d=some p) (h:Sml k m p):sm f k m d=true:=by
 unfold sm
 rw[e]
 simp[h.s,h.d,h.l]
theorem oi {f:L3.D->Option PyData} {k m b a:Nat} {d:L3.D} (h:sm f k m d=true) (c:k<=b) (hm:m<=a):sm f b a d=true:=by
 obtain ⟨p,e,q⟩:=lE h
 exact pR e #[q.s,Ho q.d c,Ho q.l hm]
structure Rdg (f:L3.D->Option PyData) (fs:List L3.D->Option (List PyData)):Prop where
 n:fs []=some []
 c:∀ d ds p ps,f d=some p->fs ds=some ps->fs (d::ds)=some (p::ps)
 t:∀ xs ps,fs xs=some ps->f (.tup xs)=some (.tuple ps)
theorem rdD:Rdg pyD jo:=#[rfl,λd ds p ps h1 h2=>by unfold jo;rw[h1,h2],λxs ps h=>by unfold pyD;rw[h];rfl]
theorem rdN:Rdg pyN iS:=#[rfl,λd ds p ps h1 h2=>by unfold iS;rw[h1,h2],λxs ps h=>by unfold pyN;rw[h];rfl]
theorem oj {f:L3.D->Option PyData} {fs:List L3.D->Option (List PyData)} (R:Rdg f fs) {k m:Nat}:∀ {xs:List L3.D},(∀ x∈xs,sm f k m x=true)->∃ ps,fs xs=some ps/\PyData.showableAll ps=true/\PyData.depthAll ps<=k/\(∀ t∈PyData.shownAll ps,t.length<=m)/\(PyData.shownAll ps).length=xs.length
 | [],_=>#[[],R.n,rfl,Nat.zero_le _,(λt F=>by cases F),rfl]
 | x::xs,h=>by
  obtain ⟨p,a1,a2⟩:=lE (h x GG)
  obtain ⟨ps,b1,b2,g,e,a⟩:=oj R (xs:=xs) λy b=>h y (GH _ b)
  refine #[p::ps,R.c _ _ _ _ a1 b1,by simp[PyData.showableAll,a2.s,b2],by have:=a2.d;simp only[PyData.depthAll];lia,λt F=>?_,by simp[PyData.shownAll,a]]
  rcases GN.mp (show t∈p.shown::PyData.shownAll ps from F) with rfl | F
  .exact a2.l
  .exact e t F
theorem Ef {f:L3.D->Option PyData} {fs:List L3.D->Option (List PyData)} (R:Rdg f fs) {k m:Nat} {xs:List L3.D} (h:∀ x∈xs,sm f k m x=true):sm f (k+1) (xs.length * (m+2)+3) (.tup xs)=true:=by
 obtain ⟨ps,b1,b2,c,a,b⟩:=oj R h
 have:=sd a
 rw[b] at this
 exact pR (R.t xs ps b1) #[by simpa[PyData.showable] using b2,by simp only[PyData.depth];lia,by simpa only [PyData.shown] using this]
theorem Eh {k m:Nat} {xs:List L3.D} (h:∀ x∈xs,sm pyD k m x=true):sm pyD (k+1) (xs.length * (m+2)+3) (.lst xs)=true:=by
 obtain ⟨ps,b1,b2,d,a,c⟩:=oj rdD h
 have h1:=gj (k:=0) (acc:="[") a
 rw[c] at h1
 have e1:(("[":String):Str).length=1:=rfl
 have e:(("]":String):Str).length=1:=rfl
 have:(listText (PyData.shownAll ps)).length<=xs.length * (m+2)+3:=by
  unfold listText
  rw[strLen_append]
  lia
 have b:pyD (.lst xs)=some (.list ps):=by unfold pyD;rw[b1];rfl
 exact pR b #[by simpa[PyData.showable] using b2,by simp only[PyData.depth];lia,by simpa only [PyData.shown] using this]
def Sh' (d:L3.D):Prop:=∃ t,jZ d=#v[.str t]
theorem C9 {d:L3.D} {p:PyData} (e:jZ d=shA d) (h:pyA d=some p) (q:Sml 16 16777216 p):Sh' d:=⟨p.shown,by
 have a:lG p=true:=by unfold lG;simp[q.s,q.d,q.l]
 rw[e]
 unfold shA
 rw[h]
 show (if lG p=true then _ else _)=_
 rw[if_pos a]⟩
theorem sh_D {d:L3.D} (e:jZ d=shA d) (h:sm pyD 16 16777216 d=true):Sh' d:=by
 obtain ⟨p,h1,q⟩:=lE h
 refine C9 e ?_ q
 unfold pyA
 rw[h1]
 show (if p.hasDict then none else some p)=_
 rw[yO d p h1]
 rfl
theorem sh_N {d:L3.D} (e:jZ d=shA d) (h0:pyD d=none) (h:sm pyN 16 16777216 d=true):Sh' d:=by
 obtain ⟨p,h1,q⟩:=lE h
 refine C9 e ?_ q
 unfold pyA
 rw[h0]
 exact h1
structure EntS (e:PyData×PyData):Prop where
 a:e.1.showable=true
 b:e.2.showable=true
 c:e.1.depth<=2
 d:e.2.depth<=2
 l:(e.1.shown++": "++e.2.shown).length<=2100
theorem zC:∀ {l:List (PyData×PyData)},(∀ e∈l,EntS e)->PyData.showableKv l=true/\PyData.depthKv l<=2/\(∀ t∈PyData.shownKv l,t.length<=2100)/\(PyData.shownKv l).length=l.length
 | [],_=>#[rfl,Nat.zero_le _,(λt D=>by cases D),rfl]
 | e::l,h=>by
  have q:=h e GG
  obtain ⟨h1,h2,h3,g⟩:=zC (l:=l) λx f=>h x (GH _ f)
  obtain ⟨k,v⟩:=e
  refine #[by simp[PyData.showableKv,q.a,q.b,h1],by have i:k.depth<=2:=q.c;have j:v.depth<=2:=q.d;simp only[PyData.depthKv];lia,λt D=>?_,by simp[PyData.shownKv,g]]
  rcases GN.mp (show t∈(k.shown++": "++v.shown)::PyData.shownKv l from D) with rfl | D
  .exact q.l
  .exact h3 t D
theorem Cu:((List.range 8).all λi=>(List.range 8).all λj=>(PyData.tuple ((k2 i j).map kP)).showable && decide ((PyData.tuple ((k2 i j).map kP)).depth<=2) && decide ((PyData.tuple ((k2 i j).map kP)).shown.length<=20))=true:=by kernel_rfl
def Ent (e:List Key×L3.D):Prop:=(∃ i j,i < 8/\j < 8/\e.1=k2 i j)/\sm pyN 2 2000 e.2=true
theorem ents:∀ {kvs:List (List Key×L3.D)},(∀ e∈kvs,Ent e)->∃ qs,qc kvs=some qs/\((kvs.map λp=>PyData.tuple (p.1.map kP)).zip qs).length=kvs.length/\∀ e∈(kvs.map λp=>PyData.tuple (p.1.map kP)).zip qs,EntS e
 | [],_=>#[[],by unfold qc;rfl,rfl,λe he=>by cases he]
 | (k,d)::kvs,h=>by
  obtain ⟨qs,h1,h2,h3⟩:=ents (kvs:=kvs) λe he=>h e (GH _ he)
  obtain ⟨⟨i,j,hi,f,e⟩,s⟩:=h _ GG
  obtain ⟨q,g,b⟩:=lE s
  refine #[q::qs,by unfold qc;rw[g,h1],?_,λx a=>?_]
  .rw[G6,List.zip_cons_cons,Hd,Hd,h2]
  .rw[G6,List.zip_cons_cons] at a
   rcases GN.mp a with rfl | a
   .have e:k=k2 i j:=e
    subst e
    have:=List.all_eq_true.mp (List.all_eq_true.mp Cu i (List.mem_range.mpr hi)) j (List.mem_range.mpr f)
    simp only[Bool.and_eq_true,decide_eq_true_eq] at this
    refine #[this.1.1,b.s,this.1.2,b.d,?_]
    have c:=b.l
    have m:=this.2
    rw[strLen_append,strLen_append]
    have e1:((": ":String):Str).length=2:=rfl
    dsimp only at m c ⊢
    lia
   .exact h3 x a
theorem C8 {kvs:List (List Key×L3.D)} (f:kvs.length<=64) (h:∀ e∈kvs,Ent e):sm pyN 3 200000 (.dt kvs)=true:=by
 obtain ⟨qs,a1,a2,b⟩:=ents h
 have e:pyN (.dt kvs)=some (.dict ((kvs.map λp=>PyData.tuple (p.1.map kP)).zip qs)):=by
  unfold pyN
  rw[a1]
  rfl
 obtain ⟨h1,h2,h3,a⟩:=zC b
 rw[a2] at a
 refine pR e #[by simpa only [PyData.showable] using h1,by simp only[PyData.depth];lia,?_]
 have c:=lT h3
 rw[a] at c
 simp only[PyData.shown]
 generalize PyData.shownKv ((kvs.map λp=>PyData.tuple (p.1.map kP)).zip qs)=ts at *
 have d:(Str.join ", " ts).length<=ts.length * 2102:=by
  by_cases z:ts=[]
  .subst z;exact Nat.zero_le _
  .have:=join_length_add ts z
   lia
 unfold dictText
 rw[strLen_append,strLen_append]
 have e1:(("{":String):Str).length=1:=rfl
 have g:(("}":String):Str).length=1:=rfl
 lia
theorem AY {k m:Nat} {xs:List L3.D} (h:∀ x∈xs,sm pyN k m x=true):sm pyN (k+1) (xs.length * (m+2)+3) (.lst xs)=true:=by
 obtain ⟨ps,b1,b2,d,a,c⟩:=oj rdN h
 have h1:=gj (k:=0) (acc:="[") a
 rw[c] at h1
 have e1:(("[":String):Str).length=1:=rfl
 have e:(("]":String):Str).length=1:=rfl
 have:(listText (PyData.shownAll ps)).length<=xs.length * (m+2)+3:=by
  unfold listText
  rw[strLen_append]
  lia
 have b:pyN (.lst xs)=some (.list ps):=by unfold pyN;rw[b1];rfl
 exact pR b #[by simpa[PyData.showable] using b2,by simp only[PyData.depth];lia,by simpa only [PyData.shown] using this]
theorem Da {kvs:List (List Key×L3.D)} (a:kvs.length<=64) (h:∀ e∈kvs,Ent e):Sh' (.dt kvs):=sh_N rfl rfl (oi (C8 a h) (by lia) (by lia))
theorem Ek {kvs:List (List Key×L3.D)} (a:kvs.length<=64) (h:∀ e∈kvs,Ent e):Sh' (.lst [.dt kvs]):=by
 have q:=AY (k:=3) (m:=200000) (xs:=[.dt kvs]) λd hd=>by cases Hh.mp hd;exact C8 a h
 rw[List.length_singleton] at q
 exact sh_N rfl rfl (oi q (by lia) (by lia))
def shB (d:L3.D):Bool:=match jZ d with
 | #v[.str _]=>true
 | _=>false
set_option tactic.hygienic true in
theorem sh_b {d:L3.D} (h:shB d=true):Sh' d:=by
 unfold shB at h
 split at h
 .rename_i t e;exact #[t,e]
 .cases h
theorem ov_sh:(ov.all λd=>shB d && sm pyN 2 2000 d)=true:=by kernel_rfl
theorem Eg:((List.range 20).all λx=>sm pyN 2 2000 (.int ((x:Int) - 1)) && sm pyN 2 2000 (.str (iV ((x:Int) - 1))) && sm pyD 2 2000 (.int ((x:Int) - 1)))=true:=by kernel_rfl
theorem jU {x:Int} (h1:-1<=x) (h2:x < 19):sm pyN 2 2000 (.int x)=true/\sm pyN 2 2000 (.str (iV x))=true/\sm pyD 2 2000 (.int x)=true:=by
 have:=List.all_eq_true.mp Eg (x+1).toNat (List.mem_range.mpr (by lia))
 rw[show (((x+1).toNat:Nat):Int) - 1=x by lia] at this
 simp only[Bool.and_eq_true] at this
 exact #[this.1.1,this.1.2,this.2]
theorem sm_kp:((List.range 8).all λi=>(List.range 8).all λj=>sm pyD 2 2000 (Kp (i,j)))=true:=by kernel_rfl
theorem xX {l:List (Nat×Nat)} {f:Nat->Nat->Int} (i:l.length<=64) (h:∀ p∈l,p.1 < 8/\p.2 < 8/\-1<=f p.1 p.2/\f p.1 p.2 < 19):Sh' (.lst (l.map λp=>.tup [Kp p,.int (f p.1 p.2)])):=by
 have q:=Eh (k:=3) (m:=2 * (2000+2)+3) (xs:=l.map λp=>.tup [Kp p,.int (f p.1 p.2)]) λd hd=>by
  obtain ⟨p,g,rfl⟩:=GX.mp hd
  obtain ⟨a,b,c,e⟩:=h p g
  exact Ef rdD (k:=2) (m:=2000) (xs:=[Kp p,.int (f p.1 p.2)]) λd hd=>by
   rcases GN.mp hd with rfl | hd
   .exact List.all_eq_true.mp (List.all_eq_true.mp sm_kp p.1 (List.mem_range.mpr a)) p.2 (List.mem_range.mpr b)
   .cases Hh.mp hd;exact (jU c e).2.2
 rw[GS] at q
 exact sh_D rfl (oi q (by decide) (by lia))
theorem iZ (f:Nat->Nat->Int):∀ l:List (Nat×Nat),bC ((tbl f l).map (·.1))=some (l.map λp=>[(p.1:Int),(p.2:Int)])
 | []=>rfl
 | p::l=>by
  have D:=iZ f l
  unfold tbl at D ⊢
  rw[G6,G6,G6]
  show (some [(p.1:Int),(p.2:Int)]).bind (λn=>(bC _).map (n::·))=_
  rw[D];rfl
theorem tL:∀ n:Nat,n<=7->(((pJ n).map λp=>[(p.1:Int),(p.2:Int)]).map dj).Nodup
 | 0,_=>by decide +kernel
 | 1,_=>by decide +kernel
 | 2,_=>by decide +kernel
 | 3,_=>by decide +kernel
 | 4,_=>by decide +kernel
 | 5,_=>by decide +kernel
 | 6,_=>by decide +kernel
 | 7,_=>by decide +kernel
 | n+8,h=>absurd h (by lia)
theorem Ad (f:Nat->Nat->Int) {n:Nat} (h:n<=7):Ae [.dt (tbl f (pJ n))]=some (.dt (tbl f (pJ n)),.u):=by
 show (bC ((tbl f (pJ n)).map (·.1))).bind _=_
 rw[iZ]
 exact if_pos (tL n h)
def skq (ns:List (List Int)):Option (L3.D×Fl):=if (Cw ns && decide (ns.length<=16777216))=true then (bh ns).bind λis=>if (decide (is.length<=16777216) && is.all λi=>decide (i < ns.length))=true then some (.lst (is.map λi=>ntD (ns.getD i [])),.u) else none else none
theorem sk_is:∀ n:Nat,n<=7->skq ((pJ n).map λp=>[(p.1:Int),(p.2:Int)])=some (.lst ((pI n n).map Kp),.u)
 | 0,_=>by kernel_rfl
 | 1,_=>by kernel_rfl
 | 2,_=>by kernel_rfl
 | 3,_=>by kernel_rfl
 | 4,_=>by kernel_rfl
 | 5,_=>by kernel_rfl
 | 6,_=>by kernel_rfl
 | 7,_=>by kernel_rfl
 | n+8,h=>absurd h (by lia)
theorem lB (f:Nat->Nat->Int) {n:Nat} (h:n<=7):dF [.dt (tbl f (pJ n))]=some (.lst ((pI n n).map Kp),.u):=by
 show (bC ((tbl f (pJ n)).map (·.1))).bind skq=_
 rw[iZ]
 exact sk_is n h
theorem sC (f:Nat->Nat->Int):∀ n:Nat,n<=7->jT [.dt (tbl f (pJ n))]=some (.lst ((pI n n).map λp=>.tup [Kp p,.int (f p.1 p.2)]),.u)
 | 0,_=>by kernel_rfl
 | 1,_=>by kernel_rfl
 | 2,_=>by kernel_rfl
 | 3,_=>by kernel_rfl
 | 4,_=>by kernel_rfl
 | 5,_=>by kernel_rfl
 | 6,_=>by kernel_rfl
 | 7,_=>by kernel_rfl
 | n+8,h=>absurd h (by lia)
theorem nd_pI:∀ n:Nat,n<=7->((pI n n).map λp=>[(p.1:Int),(p.2:Int)]).Nodup
 | 0,_=>by decide +kernel
 | 1,_=>by decide +kernel
 | 2,_=>by decide +kernel
 | 3,_=>by decide +kernel
 | 4,_=>by decide +kernel
 | 5,_=>by decide +kernel
 | 6,_=>by decide +kernel
 | 7,_=>by decide +kernel
 | n+8,h=>absurd h (by lia)
theorem yT (v:Nat->Nat->L3.D):∀ l:List (Nat×Nat),iL (l.map λp=>.tup [Kp p,v p.1 p.2])=some (l.map λp=>([(p.1:Int),(p.2:Int)],v p.1 p.2))
 | []=>rfl
 | p::l=>by
  show (some [(p.1:Int),(p.2:Int)]).bind (λn=>(iL (l.map λp=>.tup [Kp p,v p.1 p.2])).map ((n,v p.1 p.2)::·))=_
  rw[yT v l];rfl
theorem pe (v:Nat->Nat->L3.D) {n:Nat} (h:n<=7):i9 [.lst ((pI n n).map λp=>.tup [Kp p,v p.1 p.2])]=some (.dt (tbD v (pI n n)),.u):=by
 show (iL ((pI n n).map λp=>.tup [Kp p,v p.1 p.2])).bind _=_
 rw[yT]
 show (if _ then _ else _)=_
 have a:=gv n (by lia)
 rw[if_pos #[by rw[Hs];exact nd_pI n h,by rw[GS];lia],Hs]
 rfl
def xB (v:Nat->Nat->L3.D) (a b:Nat) (w:L3.D) (i j:Nat):L3.D:=if i=a/\j=b then w else v i j
theorem BC {v:Nat->Nat->L3.D} {l:List (Nat×Nat)} {a b:Nat} {w:L3.D} (h:(a,b)∈l):dL (tbD v l) (k2 a b) w=tbD (xB v a b w) l:=by
 have c:((tbD v l).any λf=>decide (f.1=k2 a b))=true:=List.any_eq_true.mpr #[_,GX.mpr #[_,h,rfl],G7 rfl]
 unfold dL
 rw[if_pos c]
 unfold tbD
 rw[Hs]
 refine Ht λp _=>?_
 show (if k2 p.1 p.2=k2 a b then (k2 p.1 p.2,w) else (k2 p.1 p.2,v p.1 p.2))=_
 by_cases e:k2 p.1 p.2=k2 a b
 .obtain ⟨e1,d⟩:=mf e
  rw[if_pos e]
  unfold xB
  rw[if_pos #[e1,d]]
 .rw[if_neg e]
  unfold xB
  rw[if_neg λz=>e (by rw[z.1,z.2])]
theorem uW {v:Nat->Nat->L3.D} {l:List (Nat×Nat)} {a b:Nat} (h:(a,b) ∉ l):¬ ((tbD v l).any λF=>decide (F.1=k2 a b))=true:=by
 intro f
 obtain ⟨x,c,e⟩:=List.any_eq_true.mp f
 obtain ⟨u,hu,rfl⟩:=GX.mp c
 obtain ⟨e1,d⟩:=mf (of_decide_eq_true e)
 exact h (by rw[<- e1,<- d];exact hu)
theorem uM {v:Nat->Nat->L3.D} {l:List (Nat×Nat)} {a b:Nat} {w:L3.D} (h:(a,b) ∉ l):dL (tbD v l) (k2 a b) w=tbD v l++[(k2 a b,w)]:=by
 unfold dL
 rw[if_neg (uW h)]
theorem zO {v:Nat->Nat->L3.D} {l:List (Nat×Nat)} {a b:Nat} (h:(a,b) ∉ l):b8 (tbD v l) (k2 a b)=none:=by
 have:=uW (v:=v) h
 unfold b8
 rw[List.find?_eq_none.mpr]
 .rfl
 .intro x c e
  exact this (List.any_eq_true.mpr #[x,c,e])
theorem z6 {v:Nat->Nat->L3.D} {l:List (Nat×Nat)} {a b:Nat} (h:(a,b)∈l):(dB (tbD v l) (k2 a b)).length < l.length:=by
 have h1:(dB (tbD v l) (k2 a b)).length < (tbD v l).length:=by
  unfold dB
  refine List.length_filter_lt_length_iff_exists.mpr #[_,GX.mpr #[_,h,rfl],?_]
  simp
 rwa [dD] at h1
theorem E2 {f:Nat->Nat->Int} {l:List (Nat×Nat)} {a b:Nat} (h:(a,b)∈l):jp (.dt (tbl f l)) [Kp (a,b),.non]=some (.dt (dB (tbl f l) (k2 a b)),.int (f a b)):=by
 have g:=jF (f:=f) h
 show (match b8 (tbl f l) (k2 a b) with
  | none=>_
  | some (.int v)=>_
  | _=>_)=_
 rw[g]
theorem E1 {f:Nat->Nat->Int} {l:List (Nat×Nat)} {a b:Nat} (h:(a,b) ∉ l):jp (.dt (tbl f l)) [Kp (a,b),.non]=some (.dt (tbl f l),.non):=by
 have g:=zO (v:=λi j=>.int (f i j)) h
 show (match b8 (tbl f l) (k2 a b) with
  | none=>_
  | some (.int v)=>_
  | _=>_)=_
 rw[show b8 (tbl f l) (k2 a b)=none from g]
def Gd (ps:List Pt) (d:L3.D):Prop:=(∀ b,GA ps d b)/\Sh' d
abbrev sB (B H T O:L3.D) (v4 v5 v6 v7 v8:Option (L3.D×Fl)):Sto:=[some (B,.u),#v[H],#v[T],#v[O],v4,v5,v6,v7,v8]
def Fw (n:Nat) (f:Nat->Nat->Int):Prop:=∀ i j,i < j->j < n->0<=f i j/\f i j < 18
theorem jc (f:Nat->Nat->Int) (l:List (Nat×Nat)):tbl f l=tbD (λi j=>.int (f i j)) l:=rfl
section
variable {ps:List Pt} (g:GoodSh ps) (h7:ps.length<=7)
include g h7
theorem mB {v:Nat->Nat->L3.D} {l:List (Nat×Nat)} (al:AllP ps.length l) (h:∀ i j,i < j->j < ps.length->sm pyN 2 2000 (v i j)=true):∀ e∈tbD v l,Ent e:=λe he=>by
 obtain ⟨p,a,rfl⟩:=GX.mp he
 obtain ⟨c,b⟩:=al.m p a
 exact #[#[p.1,p.2,by lia,by lia,rfl],h _ _ c b]
theorem kg {l:List (Nat×Nat)} (al:AllP ps.length l):l.length<=28:=by rw[al.c];exact gv _ (by lia)
theorem zP {v:Nat->Nat->L3.D} {l:List (Nat×Nat)} (al:AllP ps.length l) (h1:∀ i j,i < j->j < ps.length->sm pyN 2 2000 (v i j)=true) (h2:∀ i j,i < j->j < ps.length->Vd (v i j)):Gd ps (.dt (tbD v l)) :=
 #[λb=>#[_,uQ g (by lia) al λp a=>h2 _ _ (al.m p a).1 (al.m p a).2],Da (by rw[dD];have:=kg g h7 al;lia) (mB g h7 al h1)]
theorem o6 {kvs:List (List Key×L3.D)} (c:kvs.length≠(pI ps.length ps.length).length) (a:kvs.length<=64) (h:∀ e∈kvs,Ent e):Gd ps (.dt kvs) :=
 #[λb=>#[false,oK (m:=(kvs.length:Int)) g (by lia) rfl rfl (by lia)],Da a h]
theorem Dt {d:L3.D} (h:d∈ov):Gd ps d/\sm pyN 2 2000 d=true/\Vd d:=by
 have:=List.all_eq_true.mp ov_sh d h
 simp only[Bool.and_eq_true] at this
 exact #[#[λb=>Fe g (by lia) h,sh_b this.1],this.2,vd_ov h]
theorem vV {f:Nat->Nat->Int} (hf:Fw ps.length f):∀ i j,i < j->j < ps.length->sm pyN 2 2000 (.int (f i j))=true:=λi j a b=>(jU (by have:=hf i j a b;lia) (by have:=hf i j a b;lia)).1
theorem mm {f:Nat->Nat->Int} {l:List (Nat×Nat)} (al:AllP ps.length l) (hf:Fw ps.length f):Gd ps (.dt (tbD (λi j=>.int (f i j)) l)):=zP g h7 al (vV g h7 hf) λi j _ _=>jR _
end
section
variable {ps:List Pt} (g:GoodSh ps) (h7:ps.length<=7) {f:Nat->Nat->Int} (hf:Fw ps.length f) {B H O:L3.D} {v4 v5 v6 v8:Option (L3.D×Fl)} {a b:Nat}
include g h7 hf
theorem oW (d:(a,b)∈pI ps.length ps.length++[(0,1)]):a < b/\b < 8/\((a,b) ∉ pJ ps.length->(pI ps.length ps.length).length=0):=by
 rcases GQ.mp d with h | h
 .obtain ⟨_,c,e⟩:=mem_pI.mp h
  exact #[c,by lia,λz=>absurd (mem_pJ.mpr #[c,e]) z]
 .cases Hh.mp h
  refine #[by decide,by decide,λz=>?_]
  have:¬ 1 < ps.length:=λq=>z (mem_pJ.mpr #[by decide,q])
  have:ps.length=1:=by have:=g.pos;lia
  rw[this];rfl
theorem F6 (l:(a,b)∈pI ps.length ps.length++[(0,1)]) {w:L3.D} (h1:sm pyN 2 2000 w=true) (h2:Vd w):Gd ps (.dt (dL (tbl f (pJ ps.length)) (k2 a b) w)):=by
 obtain ⟨m,d,k3⟩:=oW g h7 hf l
 have al:=rV (n:=ps.length) (by lia)
 rw[jc]
 by_cases hm:(a,b)∈pJ ps.length
 .rw[BC hm]
  refine zP g h7 al (λi j k h=>?_) λi j k h=>?_
  .unfold xB;split
   .exact h1
   .exact vV g h7 hf i j k h
  .unfold xB;split
   .exact h2
   .exact jR _
 .rw[uM hm]
  have z:=k3 hm
  have c:=al.c
  rw[z] at c
  refine o6 g h7 (by rw[Hc,dD,c,z] <;> simp) (by rw[Hc,dD,c] <;> simp) λe he=>?_
  rcases GQ.mp he with he | he
  .exact mB g h7 al (vV g h7 hf) e he
  .cases Hh.mp he
   exact #[#[a,b,by lia,d,rfl],h1]
theorem CB (h:(a,b)∈pI ps.length ps.length++[(0,1)]):Gd ps (.dt (dL (tbl f (pJ ps.length)) (k2 b a) (.int 2))):=by
 obtain ⟨j,d,k3⟩:=oW g h7 hf h
 have al:=rV (n:=ps.length) (by lia)
 rw[jc,uM λz=>by have:=mem_pJ.mp z;lia]
 have i:=kg g h7 al
 refine o6 g h7 (by rw[Hc,dD,al.c];simp) (by rw[Hc,dD];simp;lia) λe he=>?_
 rcases GQ.mp he with he | he
 .exact mB g h7 al (vV g h7 hf) e he
 .cases Hh.mp he
  exact #[#[b,a,d,by lia,rfl],(jU (by decide) (by decide)).1]
theorem F7 (k:(a,b)∈pI ps.length ps.length++[(0,1)]):∃ kvs d,jp (.dt (tbl f (pJ ps.length))) [Kp (a,b),.non]=some (.dt kvs,d)/\Gd ps (.dt kvs):=by
 have al:=rV (n:=ps.length) (by lia)
 by_cases hm:(a,b)∈pJ ps.length
 .have dl:=z6 (v:=λi j=>.int (f i j)) hm
  have h:=kg g h7 al
  refine #[_,_,E2 hm,o6 g h7 ?_ ?_ λe he=>?_]
  .rw[jc,<- al.c];exact G4 dl
  .rw[jc];exact Ho (Nat.le_of_lt dl) (by lia)
  .exact mB g h7 al (vV g h7 hf) e (Hj.mp he).1
 .exact #[_,_,E1 hm,mm g h7 al hf]
end
section
variable {B H O T K:L3.D} {L:List L3.D} {n:Nat} {v5 v6 v7 v8:Option (L3.D×Fl)}
theorem CV (p:Nat×Nat):∀ a:Option (L3.D×Fl),eT [#v[Kp p]]=some (.ok (.val (.tup [Kp p,.int (2+(p.2:Int))]) .z),[#v[Kp p]]):=λa=>by
 have s:aA (Kp p) (.int 1)=#v[.int (p.2:Int)]:=ee rfl
 have ad:bu (.int 2) (.int (p.2:Int))=#v[.int (2+(p.2:Int))]:=rfl
 generalize Kp p=KP at *
 unfold eT
 exact bN (af (ae rfl) (af (am i_c (am (ae rfl) i_c rfl rfl s) rfl rfl ad) aq)) rfl (Nat.le_of_ble_eq_true rfl)
theorem CU (h7:n<=7) (d:dF [T]=some (.lst ((pI n n).map Kp),.u)):hU (sB B H T O (some (K,.u)) v5 v6 v7 v8)=some (.ok (.val (.lst ((pI n n).map λp=>.tup [Kp p,.int (2+(p.2:Int))])) .u),sB B H T O (some (K,.u)) v5 v6 v7 v8):=by
 obtain ⟨τ,e,a,rfl⟩:=cM (bnd:=ao 0) (c:=b9) (elt:=eT) (λτ=>∃ a,τ=[a]) Kp (λ_=>true) (λp=>.tup [Kp p,.int (2+(p.2:Int))]) (xs:=pI n n) (τ:=[none]) #[none,rfl] (by
  rintro p g τ ⟨a,rfl⟩
  exact #[_,_,rfl,rfl,(λh=>by cases h),λ_=>#[_,_,_,_,CV p none,rfl,rfl,_,rfl]])
 rw[Hq.mpr (λ_ _=>rfl)] at e
 have b:=gv n (by lia)
 have f:((pI n n).map Kp).length < 16777216:=by rw[GS];lia
 generalize (pI n n).map Kp=XS at *
 exact bp (rs:=[.val (.lst XS) .u]) (Z1:=sB B H T O (some (K,.u)) v5 v6 v7 v8) (dW (aB (af (ae rfl) aq) rfl d) rfl rfl) e f rfl
theorem CT (h7:n<=7) (d:dF [T]=some (.lst ((pI n n).map Kp),.u)):hJ (sB B H T O (some (K,.u)) v5 v6 v7 v8)=some (.ok (.val (.lst ((pI n n).map λp=>.tup [Kp p,.int 2])) .u),sB B H T O (some (K,.u)) v5 v6 v7 v8):=by
 obtain ⟨τ,e,a,rfl⟩:=cM (bnd:=ao 0) (c:=b9) (elt:=eS) (λτ=>∃ a,τ=[a]) Kp (λ_=>true) (λp=>.tup [Kp p,.int 2]) (xs:=pI n n) (τ:=[none]) #[none,rfl] (by
  rintro p g τ ⟨a,rfl⟩
  have el:eS [#v[Kp p]]=some (.ok (.val (.tup [Kp p,.int 2]) .z),[#v[Kp p]]):=by
   generalize Kp p=KP
   unfold eS
   exact bN (af (ae rfl) (af i_c aq)) rfl (Nat.le_of_ble_eq_true rfl)
  exact #[_,_,rfl,rfl,(λh=>by cases h),λ_=>#[_,_,_,_,el,rfl,rfl,_,rfl]])
 rw[Hq.mpr (λ_ _=>rfl)] at e
 have b:=gv n (by lia)
 have f:((pI n n).map Kp).length < 16777216:=by rw[GS];lia
 generalize (pI n n).map Kp=XS at *
 exact bp (rs:=[.val (.lst XS) .u]) (Z1:=sB B H T O (some (K,.u)) v5 v6 v7 v8) (dW (aB (af (ae rfl) aq) rfl d) rfl rfl) e f rfl
theorem six {h:Int} (i:Nat) (hi:i < 6):∃ w,L2.atI [L3.D.int (h - 1),.int (h+1),.bl true,.str (iV h),O,.int 1] (i:Int)=some w/\(w=.int (h - 1)\/w=.int (h+1)\/w=.bl true\/w=.str (iV h)\/w=O\/w=.int 1):=by
 have a:i < [L3.D.int (h - 1),.int (h+1),.bl true,.str (iV h),O,.int 1].length:=hi
 refine #[_,ug (GO a),?_]
 have:=List.getElem_mem a
 simpa only [GN,List.not_mem_nil,or_false] using this
end
section
variable {ps:List Pt} (g:GoodSh ps) (h7:ps.length<=7) {f:Nat->Nat->Int} (hf:Fw ps.length f) {B H O KK:L3.D} {a b:Nat}
include g h7 hf
theorem Av (q:O∈ov) (m:(a,b)∈pI ps.length ps.length++[(0,1)]) {i:Nat} (hi:i < 6) {x:Int} (x1:0<=x) (s:x < 18) (c:Option (L3.D×Fl)):∃ w,Gd ps (.dt (dL (tbl f (pJ ps.length)) (k2 a b) w)) /\
  kO jV 6 (ac 5) (ah aA (cX (aa (ah dE (ac 8) (mC (.int 1))) (aa (ah bu (ac 8) (mC (.int 1))) (aa (mC (.bl true)) (aa (av vT (aa (ac 8) ai)) (aa (ac 3) (aa (mC (.int 1)) ai))))))) (ac 7)) (sB B H (.dt (tbl f (pJ ps.length))) O c #v[Kp (a,b)] (some (.dt (tbl f (pJ ps.length)),.u)) #v[.int (i:Int)] #v[.int x])=some (.ok .nx,sB B H (.dt (tbl f (pJ ps.length))) O c #v[Kp (a,b)] (some (.dt (dL (tbl f (pJ ps.length)) (k2 a b) w),.u)) #v[.int (i:Int)] #v[.int x]):=by
 obtain ⟨w,p,o⟩:=six (O:=O) (h:=x) i hi
 have al:=rV (n:=ps.length) (by lia)
 have k:=kg g h7 al
 have e:sm pyN 2 2000 w=true/\Vd w:=by
  rcases o with rfl | rfl | rfl | rfl | rfl | rfl
  .exact #[(jU (by lia) (by lia)).1,jR _]
  .exact #[(jU (by lia) (by lia)).1,jR _]
  .exact #[by kernel_rfl,C1 _]
  .exact #[(jU (by lia) (by lia)).2.1,xz _]
  .exact (Dt g h7 q).2
  .exact #[by kernel_rfl,jR _]
 refine #[w,F6 g h7 hf m e.1 e.2,?_]
 have l:x.natAbs.log2 < 1920:=by
  have:x.natAbs < 18:=by lia
  have:x.natAbs.log2<=x.natAbs:=Nat.log2_le_self _
  lia
 have st:vT [.int x]=#v[.str (iV x)]:=if_pos l
 have sb:dE (.int x) (.int 1)=#v[.int (x - 1)]:=rfl
 have ad:bu (.int x) (.int 1)=#v[.int (x+1)]:=rfl
 have s1:=eL p
 have pt:jV (.dt (tbl f (pJ ps.length))) [Kp (a,b),w]=_:=Em (i:=a) (j:=b) (d:=w) (kvs:=tbl f (pJ ps.length)) (by rw[kY];lia)
 clear al k e p o hf m l
 generalize dL (tbl f (pJ ps.length)) (k2 a b) w=φ at *
 generalize tbl f (pJ ps.length)=T at *
 generalize L3.D.int (x - 1)=X1 at *
 generalize L3.D.int (x+1)=X2 at *
 generalize L3.D.str (iV x)=X3 at *
 generalize L3.D.int x=X at *
 generalize L3.D.int (i:Int)=I at *
 generalize Kp (a,b)=KP at *
 have r:ah aA (cX (aa (ah dE (ac 8) (mC (.int 1))) (aa (ah bu (ac 8) (mC (.int 1))) (aa (mC (.bl true)) (aa (av vT (aa (ac 8) ai)) (aa (ac 3) (aa (mC (.int 1)) ai))))))) (ac 7) (sB B H (.dt T) O c #v[KP] (some (.dt T,.u)) #v[I] #v[X])=some (.ok (.val w .z),sB B H (.dt T) O c #v[KP] (some (.dt T,.u)) #v[I] #v[X]) :=
  am (bN (af (am (ae rfl) i_c rfl rfl sb) (af (am (ae rfl) i_c rfl rfl ad) (af i_c (af (aB (af (ae rfl) aq) rfl st) (af (ae rfl) (af i_c aq)))))) rfl (Nat.le_of_ble_eq_true rfl)) (ae rfl) rfl rfl s1
 exact qS (i:=6) (Z1:=sB B H (.dt T) O c #v[KP] (some (.dt T,.u)) #v[I] #v[X]) (Z2:=sB B H (.dt T) O c #v[KP] (some (.dt T,.u)) #v[I] #v[X]) (Z3:=sB B H (.dt T) O c #v[KP] (some (.dt T,.u)) #v[I] #v[X]) r rfl (ae rfl) rfl rfl pt
end
theorem oQ (n:Int) {m:Nat} (h:0 < m):∃ x:Nat,x < m/\n % (m:Int)=(x:Int) :=
 #[(n % (m:Int)).toNat,by have:=Int.emod_lt_of_pos n (b:=(m:Int)) (by lia);have:=Int.emod_nonneg n (b:=(m:Int)) (by lia);lia,by have:=Int.emod_nonneg n (b:=(m:Int)) (by lia);lia]
def Ax:SM:=(sIf (cB (ah ltI (ac 7) (mC (.int 6)))) (kO jV 6 (ac 5) (ah aA (cX (aa (ah dE (ac 8) (mC (.int 1))) (aa (ah bu (ac 8) (mC (.int 1))) (aa (mC (.bl true)) (aa (av vT (aa (ac 8) ai)) (aa (ac 3) (aa (mC (.int 1)) ai))))))) (ac 7))) (sIf (cB (ah eqX (ac 7) (mC (.int 6)))) (jj (qC wP jp 6 (aa (ac 5) (aa (mC .non) ai)))) (sIf (cB (ah eqX (ac 7) (mC (.int 7)))) (kO jV 6 (bM (aa (ah aA (ac 5) (mC (.int 1))) (aa (ah aA (ac 5) (mC (.int 0))) ai))) (mC (.int 2))) (sIf (cB (ah eqX (ac 7) (mC (.int 8)))) (aN 4 (av jT (aa (ac 2) ai))) (sIf (cB (ah eqX (ac 7) (mC (.int 9)))) (aN 4 (av i9 (aa hU ai))) (aN 4 (av i9 (aa hJ ai))))))))
theorem ow {x y:Nat}:eqX (.int (x:Int)) (.int (y:Int))=#v[.bl (decide (x=y))]:=by
 rw[vm,show decide ((x:Int)=(y:Int))=decide (x=y) by rw[decide_eq_decide];lia]
section
variable {ps:List Pt} (g:GoodSh ps) (h7:ps.length<=7) {f:Nat->Nat->Int} (hf:Fw ps.length f) {H O KK:L3.D} {a b:Nat}
include g h7 hf
theorem xt (G:O∈ov) (k:(a,b)∈pI ps.length ps.length++[(0,1)]) {i:Nat} (hi:i < 11) {x m:Int} (x1:0<=x) (Q:x < 18):∃ X Z1,Gd ps X/\fS Z1 0 [(L3.D.lst [.int m],Fl.u),(H,.z),(.dt (tbl f (pJ ps.length)),.z),(O,.z)]=some [(.lst [.int m],.u),(H,.z),(.dt (tbl f (pJ ps.length)),.z),(O,.z)] /\
  aE Ax (aN 4 (ac 6)) (sB (.lst [.int m]) H (.dt (tbl f (pJ ps.length))) O (some (KK,.u)) #v[Kp (a,b)] (some (.dt (tbl f (pJ ps.length)),.u)) #v[.int (i:Int)] #v[.int x])=some (.ok (.rt X .u),Z1):=by
 unfold Ax
 have fin:∀ {X:L3.D} {Z1:Sto} {r:Option (Except L3.D Flw×Sto)},Gd ps X->r=some (.ok (.rt X .u),Z1)->fS Z1 0 [(L3.D.lst [.int m],Fl.u),(H,.z),(.dt (tbl f (pJ ps.length)),.z),(O,.z)]=some [(.lst [.int m],.u),(H,.z),(.dt (tbl f (pJ ps.length)),.z),(O,.z)]->∃ X Z1,Gd ps X/\fS Z1 0 [(L3.D.lst [.int m],Fl.u),(H,.z),(.dt (tbl f (pJ ps.length)),.z),(O,.z)]=some [(.lst [.int m],.u),(H,.z),(.dt (tbl f (pJ ps.length)),.z),(O,.z)]/\r=some (.ok (.rt X .u),Z1):=λa b c=>#[_,_,a,c,b]
 have al:=rV (n:=ps.length) (by lia)
 have s:=lB f h7
 by_cases S:i < 6
 .obtain ⟨w,M,R⟩:=Av g h7 hf G k S x1 Q (some (KK,.u)) (B:=.lst [.int m]) (H:=H)
  have lt:ltI (.int (i:Int)) (.int 6)=#v[.bl true]:=by
   show some (L3.D.bl (decide ((i:Int) < 6)),Fl.z)=_
   rw[G7 (by lia)]
  clear s al hf
  generalize dL (tbl f (pJ ps.length)) (k2 a b) w=φ at *
  generalize tbl f (pJ ps.length)=T at *
  generalize L3.D.int (i:Int)=I at *
  exact fin M (ak (b7 (b:=true) (aO (am (ae rfl) i_c rfl rfl lt) rfl) rfl R) (bf (ae rfl) rfl)) rfl
 have lt:ltI (.int (i:Int)) (.int 6)=#v[.bl false]:=by
  show some (L3.D.bl (decide ((i:Int) < 6)),Fl.z)=_
  rw[G8 (by lia)]
 have e:eqX (.int (i:Int)) (.int 6)=#v[.bl (decide (i=6))]:=ow
 have h:eqX (.int (i:Int)) (.int 7)=#v[.bl (decide (i=7))]:=ow
 have o:eqX (.int (i:Int)) (.int 8)=#v[.bl (decide (i=8))]:=ow
 have t:eqX (.int (i:Int)) (.int 9)=#v[.bl (decide (i=9))]:=ow
 have L:i=6\/i=7\/i=8\/i=9\/i=10:=by lia
 rcases L with q | q | q | q | q
 .obtain ⟨kvs,d,J,p2⟩:=F7 g h7 hf k
  rw[show decide (i=6)=true from G7 q] at e
  clear s al hf h o t k
  generalize tbl f (pJ ps.length)=T at *
  generalize L3.D.int (i:Int)=I at *
  generalize Kp (a,b)=KP at *
  exact fin p2 (ak (aU (b:=false) (aO (am (ae rfl) i_c rfl rfl lt) rfl) rfl (b7 (b:=true) (aO (am (ae rfl) i_c rfl rfl e) rfl) rfl (tK (Do rfl rfl (af (ae rfl) (af i_c aq)) rfl rfl J rfl)))) (bf (ae rfl) rfl)) rfl
 .have gt:=CB g h7 hf k
  have v:=kg g h7 al
  have pt:jV (.dt (tbl f (pJ ps.length))) [.tup [.int (b:Int),.int (a:Int)],.int 2]=_:=Em (i:=b) (j:=a) (d:=.int 2) (kvs:=tbl f (pJ ps.length)) (by rw[kY];lia)
  have s0:aA (Kp (a,b)) (.int 0)=#v[.int (a:Int)]:=ee rfl
  have s1:aA (Kp (a,b)) (.int 1)=#v[.int (b:Int)]:=ee rfl
  rw[show decide (i=6)=false from G8 (by lia)] at e
  rw[show decide (i=7)=true from G7 q] at h
  clear s al hf o t k v
  generalize dL (tbl f (pJ ps.length)) (k2 b a) (.int 2)=φ at *
  generalize tbl f (pJ ps.length)=T at *
  generalize L3.D.int (i:Int)=I at *
  generalize Kp (a,b)=KP at *
  generalize L3.D.int (a:Int)=A at *
  generalize L3.D.int (b:Int)=B at *
  exact fin gt (ak (aU (b:=false) (aO (am (ae rfl) i_c rfl rfl lt) rfl) rfl (aU (b:=false) (aO (am (ae rfl) i_c rfl rfl e) rfl) rfl (b7 (b:=true) (aO (am (ae rfl) i_c rfl rfl h) rfl) rfl
     (qS (i:=6) (Z1:=sB (.lst [.int m]) H (.dt T) O (some (KK,.u)) #v[KP] (some (.dt T,.u)) #v[I] #v[.int x]) (Z2:=sB (.lst [.int m]) H (.dt T) O (some (KK,.u)) #v[KP] (some (.dt T,.u)) #v[I] #v[.int x]) (Z3:=sB (.lst [.int m]) H (.dt T) O (some (KK,.u)) #v[KP] (some (.dt T,.u)) #v[I] #v[.int x]) i_c rfl (bN (af (am (ae rfl) i_c rfl rfl s1) (af (am (ae rfl) i_c rfl rfl s0) aq)) rfl (Nat.le_of_ble_eq_true rfl)) rfl rfl pt)))) (bf (ae rfl) rfl)) rfl
 .have N:=sC f ps.length h7
  have F:Gd ps (.lst ((pI ps.length ps.length).map λp=>.tup [Kp p,.int (f p.1 p.2)])):=⟨λb=>⟨false,sT g (by lia) rfl⟩,xX (by have:=gv ps.length (by lia);lia) λp P=>by
   obtain ⟨_,E,C⟩:=mem_pI.mp (show (p.1,p.2)∈_ from P)
   have:=hf p.1 p.2 E C
   lia⟩
  rw[show decide (i=6)=false from G8 (by lia)] at e
  rw[show decide (i=7)=false from G8 (by lia)] at h
  rw[show decide (i=8)=true from G7 q] at o
  clear s al hf t k
  generalize (pI ps.length ps.length).map (λp=>L3.D.tup [Kp p,.int (f p.1 p.2)])=XS at *
  generalize tbl f (pJ ps.length)=T at *
  generalize L3.D.int (i:Int)=I at *
  exact fin F (bU (aU (b:=false) (aO (am (ae rfl) i_c rfl rfl lt) rfl) rfl (aU (b:=false) (aO (am (ae rfl) i_c rfl rfl e) rfl) rfl (aU (b:=false) (aO (am (ae rfl) i_c rfl rfl h) rfl) rfl (b7 (b:=true) (aO (am (ae rfl) i_c rfl rfl o) rfl) rfl (bf (aB (af (ae rfl) aq) rfl N) rfl)))))) rfl
 .have dl:=pe (λ_ j=>.int (2+(j:Int))) h7
  have gd:=mm g h7 (f:=λ_ j=>2+(j:Int)) (l:=pI ps.length ps.length) Gz λi j E C=>by dsimp only;lia
  have y:=CU (B:=.lst [.int m]) (H:=H) (O:=O) (K:=KK) (v5:=#v[Kp (a,b)]) (v6:=some (.dt (tbl f (pJ ps.length)),.u)) (v7:=#v[.int (i:Int)]) (v8:=#v[.int x]) h7 s
  rw[show decide (i=6)=false from G8 (by lia)] at e
  rw[show decide (i=7)=false from G8 (by lia)] at h
  rw[show decide (i=8)=false from G8 (by lia)] at o
  rw[show decide (i=9)=true from G7 q] at t
  clear s al hf k
  generalize (pI ps.length ps.length).map (λp=>L3.D.tup [Kp p,.int (2+(p.2:Int))])=XS at *
  generalize tbD (λ_ j=>L3.D.int (2+(j:Int))) (pI ps.length ps.length)=φ at *
  generalize tbl f (pJ ps.length)=T at *
  generalize L3.D.int (i:Int)=I at *
  exact fin gd (bU (aU (b:=false) (aO (am (ae rfl) i_c rfl rfl lt) rfl) rfl (aU (b:=false) (aO (am (ae rfl) i_c rfl rfl e) rfl) rfl (aU (b:=false) (aO (am (ae rfl) i_c rfl rfl h) rfl) rfl (aU (b:=false) (aO (am (ae rfl) i_c rfl rfl o) rfl) rfl (b7 (b:=true) (aO (am (ae rfl) i_c rfl rfl t) rfl) rfl (bf (aB (af y aq) rfl dl) rfl))))))) rfl
 .have dl:=pe (λ_ _=>.int 2) h7
  have gd:=mm g h7 (f:=λ_ _=>2) (l:=pI ps.length ps.length) Gz λi j E C=>by dsimp only;lia
  have y:=CT (B:=.lst [.int m]) (H:=H) (O:=O) (K:=KK) (v5:=#v[Kp (a,b)]) (v6:=some (.dt (tbl f (pJ ps.length)),.u)) (v7:=#v[.int (i:Int)]) (v8:=#v[.int x]) h7 s
  rw[show decide (i=6)=false from G8 (by lia)] at e
  rw[show decide (i=7)=false from G8 (by lia)] at h
  rw[show decide (i=8)=false from G8 (by lia)] at o
  rw[show decide (i=9)=false from G8 (by lia)] at t
  clear s al hf k
  generalize (pI ps.length ps.length).map (λp=>L3.D.tup [Kp p,.int 2])=XS at *
  generalize tbD (λ_ _=>L3.D.int 2) (pI ps.length ps.length)=φ at *
  generalize tbl f (pJ ps.length)=T at *
  generalize L3.D.int (i:Int)=I at *
  exact fin gd (bU (aU (b:=false) (aO (am (ae rfl) i_c rfl rfl lt) rfl) rfl (aU (b:=false) (aO (am (ae rfl) i_c rfl rfl e) rfl) rfl (aU (b:=false) (aO (am (ae rfl) i_c rfl rfl h) rfl) rfl (aU (b:=false) (aO (am (ae rfl) i_c rfl rfl o) rfl) rfl (aU (b:=false) (aO (am (ae rfl) i_c rfl rfl t) rfl) rfl (bf (aB (af y aq) rfl dl) rfl))))))) rfl
end
section
variable {ps:List Pt} (g:GoodSh ps) (h7:ps.length<=7) {f:Nat->Nat->Int} (hf:Fw ps.length f) {H O:L3.D}
include g h7 hf
theorem F5 {a b:Nat} (c:(a,b)∈pI ps.length ps.length++[(0,1)]):∃ x:Int,vg [.dt (tbl f (pJ ps.length)),Kp (a,b),.int 2]=#v[.int x]/\0<=x/\x < 18:=by
 obtain ⟨i,_,_⟩:=oW g h7 hf c
 have e:vg [.dt (tbl f (pJ ps.length)),Kp (a,b),.int 2]=#v[(b8 (tbl f (pJ ps.length)) (k2 a b)).getD (.int 2)]:=rfl
 rw[e]
 by_cases hm:(a,b)∈pJ ps.length
 .rw[jF hm]
  obtain ⟨h,d⟩:=mem_pJ.mp hm
  have:=hf a b h d
  exact #[_,rfl,this.1,this.2]
 .rw[jc,zO hm]
  exact #[2,rfl,by decide,by decide]
theorem yl (o:O∈ov) (N:Int):∃ m X,ir [(.lst [.int N],.u),(H,.z),(.dt (tbl f (pJ ps.length)),.z),(O,.z)]=some (.ok (X,.u),[(.lst [.int m],.u),(H,.z),(.dt (tbl f (pJ ps.length)),.z),(O,.z)])/\Gd ps X:=by
 have v:=lB f h7
 have t:=Ad f h7
 have d:=gv ps.length (by lia)
 obtain ⟨y,s,k⟩:=oQ N (m:=(pI ps.length ps.length).length+1) (by lia)
 have t1:=gq N (((pI ps.length ps.length).length+1:Nat):Int) (by lia)
 rw[k] at t1
 generalize N / (((pI ps.length ps.length).length+1:Nat):Int)=N1 at *
 obtain ⟨i,n,h⟩:=oQ N1 (m:=11) (by decide)
 have j:=gq N1 11 (by decide)
 rw[show N1 % 11=(i:Int) from h] at j
 generalize N1 / 11=N2 at *
 have cat:bu (.lst ((pI ps.length ps.length).map Kp)) (.lst [.tup [.int 0,.int 1]])=some (.lst ((pI ps.length ps.length++[(0,1)]).map Kp),.u):=by
  rw[List.map_append]
  exact pj (by rw[GS];simp;lia)
 have ln:eF [.lst ((pI ps.length ps.length++[(0,1)]).map Kp)]=#v[.int (((pI ps.length ps.length).length+1:Nat):Int)]:=by simp[qH,c1]
 have c:y < (pI ps.length ps.length++[(0,1)]).length:=by rw[Hc];exact s
 have q:aA (.lst ((pI ps.length ps.length++[(0,1)]).map Kp)) (.int (y:Int))=#v[Kp (pI ps.length ps.length++[(0,1)])[y]]:=eL (ug (by rw[GY,GO c];rfl))
 have e:=List.getElem_mem c
 generalize (pI ps.length ps.length++[(0,1)])[y]=p at *
 obtain ⟨a,b⟩:=p
 obtain ⟨x,x0,x1,r⟩:=F5 g h7 hf e
 obtain ⟨X,Z1,gX,l,run⟩:=xt g h7 hf (H:=H) (KK:=.lst ((pI ps.length ps.length++[(0,1)]).map Kp)) (m:=N2) o e n x1 r
 unfold Ax at run
 refine #[N2,X,aQ (Z:=sB (.lst [.int N]) H (.dt (tbl f (pJ ps.length))) O none none none none none) rfl rfl ?_ l,gX]
 clear l gX e hf d c k h
 generalize (pI ps.length ps.length++[(0,1)]).map Kp=KL at *
 generalize (pI ps.length ps.length).map Kp=KS at *
 generalize tbl f (pJ ps.length)=T at *
 generalize L3.D.int (((pI ps.length ps.length).length+1:Nat):Int)=LN at *
 generalize Kp (a,b)=KP at *
 generalize L3.D.int (y:Int)=σ at *
 generalize L3.D.int (i:Int)=I at *
 generalize L3.D.int x=XX at *
 unfold qA
 apply ak (Z1:=sB (.lst [.int N]) H (.dt T) O (some (.lst KL,.u)) none none none none)
 .exact cK (am (aB (af (ae rfl) aq) rfl v) (bN (af (bN (af i_c (af i_c aq)) rfl (Nat.le_of_ble_eq_true rfl)) aq) rfl (Nat.le_of_ble_eq_true rfl)) rfl rfl cat) rfl (Nat.le_of_ble_eq_true rfl) rfl
 apply ak (Z1:=sB (.lst [.int N1]) H (.dt T) O (some (.lst KL,.u)) #v[KP] none none none)
 .exact cK (am (ae rfl) (au (Z2:=sB (.lst [.int N1]) H (.dt T) O (some (.lst KL,.u)) none none none none) t1 (af (ae rfl) (af (aB (af (ae rfl) aq) rfl ln) aq)) rfl rfl rfl) rfl rfl q) rfl (Nat.le_of_ble_eq_true rfl) rfl
 apply ak (Z1:=sB (.lst [.int N1]) H (.dt T) O (some (.lst KL,.u)) #v[KP] (some (.dt T,.u)) none none)
 .exact cK (aB (af (ae rfl) aq) rfl t) rfl (Nat.le_of_ble_eq_true rfl) rfl
 apply ak (Z1:=sB (.lst [.int N2]) H (.dt T) O (some (.lst KL,.u)) #v[KP] (some (.dt T,.u)) #v[I] none)
 .exact cK (au (Z2:=sB (.lst [.int N2]) H (.dt T) O (some (.lst KL,.u)) #v[KP] (some (.dt T,.u)) none none) j (af (ae rfl) (af i_c aq)) rfl rfl rfl) rfl (Nat.le_of_ble_eq_true rfl) rfl
 apply ak (Z1:=sB (.lst [.int N2]) H (.dt T) O (some (.lst KL,.u)) #v[KP] (some (.dt T,.u)) #v[I] #v[XX])
 .exact cK (FZ (ae rfl) rfl rfl (af (ae rfl) (af i_c aq)) rfl x0) rfl (Nat.le_of_ble_eq_true rfl) rfl
 exact run
end
abbrev sQ (S KK B H O Ts:L3.D) (v6 v7 v8 v9 v10 v11:Option (L3.D×Fl)):Sto:=[#v[S],#v[KK],some (B,.u),#v[H],#v[O],some (Ts,.u),v6,v7,v8,v9,v10,v11]
abbrev cE (ps:List Pt) (b:Bool):Nat->Nat->Int:=cQ (wv (sgn ps) (way b))
abbrev cT (ps:List Pt) (b:Bool):L3.D:=.dt (tbl (cE ps b) (pJ ps.length))
theorem vA (w:Nat->Nat->Nat->Bool):∀ m i j:Nat,i < m->cQ w i j<=(i:Int)+2
 | 0,_,_,h=>absurd h (Nat.not_lt_zero _)
 | m+1,i,j,h=>by
  rw[vB]
  by_cases e:(((List.range i).filter λh=>w h i j).map λh=>cQ w h i)=[]
  .rw[e]
   have:mx1 []=1:=rfl
   lia
  .obtain ⟨x,a,q⟩:=GX.mp (uX e)
   have a:=List.mem_range.mp (Hj.mp a).1
   have:=vA w m x i (by lia)
   rw[<- q]
   lia
section
variable {ps:List Pt} (g:GoodSh ps) (h7:ps.length<=7) {b:Bool}
include g h7
theorem Au (i j:Nat) (h1:i < j) (h2:j < ps.length):2<=cE ps b i j/\cE ps b i j < 9:=by
 have:2<=cE ps b i j:=rh (wv (sgn ps) (way b)) i j
 have:cE ps b i j<=(i:Int)+2:=vA (wv (sgn ps) (way b)) (i+1) i j (by lia)
 lia
theorem zQ:Fw ps.length (cE ps b):=λi j h1 h2=>by have:=Au g h7 (b:=b) i j h1 h2;lia
theorem CD:Fw ps.length (λi j=>cE ps b i j+(j:Int)):=λi j h1 h2=>by have:=Au g h7 (b:=b) i j h1 h2;dsimp only;lia
theorem Du:Gd ps (cT ps b):=mm g h7 (rV (by lia)) (zQ g h7)
theorem F8:Gd ps (.lst [cT ps b]):=#[λc=>#[false,sT g (by lia) rfl],Ek (by rw[kY];have:=kg g h7 (rV (n:=ps.length) (by lia));lia) (mB g h7 (v:=λi j=>.int (cE ps b i j)) (rV (by lia)) (vV g h7 (zQ g h7)))]
theorem F9:Gd ps (.dt []):=by
 by_cases h:ps.length=1
 .exact zP g h7 (v:=λ_ _=>.non) (l:=[]) (by rw[h];exact #[λp a=>(by cases a),λi j h1 h2=>(by lia),by decide +kernel]) (λi j h1 h2=>by lia) λi j h1 h2=>by lia
 .refine o6 g h7 (λz=>?_) (by decide) λe he=>by cases he
  have m:(0,1)∈pI ps.length ps.length:=mem_pI.mpr #[g.pos,by decide,by have:=g.pos;lia]
  rw[Hv.mp z.symm] at m
  cases m
variable {S KK O B T2:L3.D} {v6 v7 v8 v9 v10 v11:Option (L3.D×Fl)}
theorem FP (H:L3.D):qz (sQ S KK B H O (.lst [cT ps true,T2]) v6 v7 v8 v9 v10 v11)=some (.ok (.val (.lst ((pI ps.length ps.length).map λp=>.tup [Kp p,.int (cE ps true p.1 p.2+(p.2:Int))])) .u),sQ S KK B H O (.lst [cT ps true,T2]) v6 v7 v8 v9 v10 v11):=by
 have d:dF [cT ps true]=some (.lst ((pI ps.length ps.length).map Kp),.u):=lB (cE ps true) h7
 obtain ⟨τ,e,a,rfl⟩:=cM (bnd:=ao 0) (c:=b9) (elt:=jv) (λτ=>∃ a,τ=[a,some (.lst [cT ps true,T2],.u)]) Kp (λ_=>true) (λp=>.tup [Kp p,.int (cE ps true p.1 p.2+(p.2:Int))]) (xs:=pI ps.length ps.length) (τ:=[none,some (.lst [cT ps true,T2],.u)]) #[none,rfl] (by
  rintro p i τ ⟨a,rfl⟩
  obtain ⟨_,f,k⟩:=mem_pI.mp (show (p.1,p.2)∈_ from i)
  have s0:aA (.lst [cT ps true,T2]) (.int 0)=#v[cT ps true]:=eL rfl
  have s1:aA (cT ps true) (Kp p)=#v[.int (cE ps true p.1 p.2)]:=vS (jF (mem_pJ.mpr #[f,k]))
  have s2:aA (Kp p) (.int 1)=#v[.int (p.2:Int)]:=ee rfl
  have ad:bu (.int (cE ps true p.1 p.2)) (.int (p.2:Int))=#v[.int (cE ps true p.1 p.2+(p.2:Int))]:=rfl
  have el:jv [#v[Kp p],some (.lst [cT ps true,T2],.u)]=some (.ok (.val (.tup [Kp p,.int (cE ps true p.1 p.2+(p.2:Int))]) .z),[#v[Kp p],some (.lst [cT ps true,T2],.u)]):=by
   clear d
   generalize L3.D.int (cE ps true p.1 p.2+(p.2:Int))=R at *
   generalize L3.D.int (cE ps true p.1 p.2)=C at *
   generalize L3.D.int (p.2:Int)=J at *
   generalize cT ps true=T1 at *
   generalize Kp p=KP at *
   unfold jv
   exact bN (af (ae rfl) (af (am (am (am (ae rfl) i_c rfl rfl s0) (ae rfl) rfl rfl s1) (am (ae rfl) i_c rfl rfl s2) rfl rfl ad) aq)) rfl (Nat.le_of_ble_eq_true rfl)
  exact #[_,_,rfl,rfl,(λh=>by cases h),λ_=>#[_,_,_,_,el,rfl,rfl,_,rfl]])
 rw[Hq.mpr (λ_ _=>rfl)] at e
 have b:=gv ps.length (by lia)
 have j:((pI ps.length ps.length).map Kp).length < 16777216:=by rw[GS];lia
 have s0:aA (.lst [cT ps true,T2]) (.int 0)=#v[cT ps true]:=eL rfl
 clear g h7 b
 generalize (pI ps.length ps.length).map (λp=>L3.D.tup [Kp p,.int (cE ps true p.1 p.2+(p.2:Int))])=YS at *
 generalize (pI ps.length ps.length).map Kp=XS at *
 generalize cT ps true=T1 at *
 exact bp (rs:=[.val (.lst XS) .u]) (Z1:=sQ S KK B H O (.lst [T1,T2]) v6 v7 v8 v9 v10 v11) (dW (aB (af (am (ae rfl) i_c rfl rfl s0) aq) rfl d) rfl rfl) e j rfl
theorem Aw (a:O∈ov) (N:Int) (H:L3.D) (b:Bool):∃ m X,ju [#v[cT ps b],some (.lst [.int N],.u),#v[H],#v[O]]=some (.ok (.val X .u),[#v[cT ps b],some (.lst [.int m],.u),#v[H],#v[O]])/\Gd ps X:=by
 obtain ⟨m,X,r,gX⟩:=yl g h7 (zQ g h7 (b:=b)) (H:=H) a N
 refine #[m,X,?_,gX]
 have r:ir [(.lst [.int N],.u),(H,.z),(cT ps b,.z),(O,.z)]=some (.ok (X,.u),[(.lst [.int m],.u),(H,.z),(cT ps b,.z),(O,.z)]):=r
 clear g h7 a gX
 generalize cT ps b=T at *
 unfold ju
 exact au (Z2:=[#v[T],some (.lst [.int m],.u),#v[H],#v[O]]) r (af (ae rfl) (af (ae rfl) (af (ae rfl) (af (ae rfl) aq)))) rfl rfl rfl
theorem FR (b:O∈ov) (N:Int) (H:L3.D) {E:List L3.D} (h:E.length<=100):∃ m X σ,Gd ps X/\Gd ps σ/\jy (sQ S KK (.lst [.int N]) H O (.lst [cT ps true,cT ps false]) v6 (some (.lst E,.u)) v8 v9 v10 v11)=some (.ok .nx,sQ S KK (.lst [.int m]) H O (.lst [cT ps true,cT ps false]) v6 (some (.lst (E++[X,σ]),.u)) v8 v9 v10 v11):=by
 obtain ⟨e,X,f,gX⟩:=Aw g h7 b N H true
 obtain ⟨a,σ,d,gY⟩:=Aw g h7 b e H false
 refine #[a,X,σ,gX,gY,?_]
 have cat:bu (.lst E) (.lst [X,σ])=some (.lst (E++[X,σ]),.u):=pj (by simp;lia)
 clear g h7 gX gY b
 generalize cT ps true=T1 at *
 generalize cT ps false=T2 at *
 have cl:bG (ao 0) b9 ju [T1,T2] [none,some (.lst [.int N],.u),#v[H],#v[O]]=some (.ok [X,σ],[#v[T2],some (.lst [.int a],.u),#v[H],#v[O]]) :=
  cZ (p:=(X,.u)) rfl rfl f rfl (cZ (p:=(σ,.u)) rfl rfl d rfl rfl)
 have c:qy (sQ S KK (.lst [.int N]) H O (.lst [T1,T2]) v6 (some (.lst E,.u)) v8 v9 v10 v11)=some (.ok (.val (.lst [X,σ]) .u),sQ S KK (.lst [.int a]) H O (.lst [T1,T2]) v6 (some (.lst E,.u)) v8 v9 v10 v11):=bp (ix:=[none,some 2,some 3,some 4]) (rs:=[.pl 5]) (Z1:=sQ S KK (.lst [.int N]) H O (.lst [T1,T2]) v6 (some (.lst E,.u)) v8 v9 v10 v11) (Z2:=[#v[S],#v[KK],some (.lst [.int a],.u),#v[H],#v[O],some (.lst [T1,T2],.l),v6,some (.lst E,.u),v8,v9,v10,v11]) (dW (ae rfl) rfl rfl) cl (Nat.le_of_ble_eq_true rfl) rfl
 unfold jy
 exact cK (am (ae rfl) c rfl rfl cat) rfl (Nat.le_of_ble_eq_true rfl) rfl
end
section
variable {ps:List Pt} {S KK B O Ts Th:L3.D} {v6 v8 v10 v11:Option (L3.D×Fl)}
theorem FQ {d:L3.D} (hd:Gd ps d):∃ I F,jx (sQ S KK B (Shd ps) O Ts v6 (some (Th,.l)) v8 #v[d] v10 v11)=some (.ok .nx,sQ S KK B (Shd ps) O Ts v6 (some (Th,.l)) v8 #v[d] I F):=by
 obtain ⟨e,f⟩:=hd.1 true
 obtain ⟨a,i⟩:=hd.1 false
 obtain ⟨t,m⟩:=hd.2
 have n:oB [d]=#v[.str t]:=m
 have ne:=FD t
 have s:=CI f
 have ca:=CQ i
 have r:=f.2
 have o:=i.2
 have j:=nh e
 have g:=nh a
 clear hd m f i
 generalize Shd ps=H at *
 have q:aA (.lst [.bl e,.bl a]) (.int 0)=#v[.bl e]:=eL rfl
 have d1:aA (.lst [.bl e,.bl a]) (.int 1)=#v[.bl a]:=eL rfl
 refine #[#v[.str t],some (.lst [.bl e,.bl a],.u),?_]
 have k:∀ {c C:Bool},d9 [(H,.z),(d,.z),(.bl c,.z)]=some (.ok (.bl C,.z),[(H,.z),(d,.z),(.bl c,.z)])->jt [#v[.bl c],#v[H],#v[d]]=some (.ok (.val (.bl C) .z),[#v[.bl c],#v[H],#v[d]]):=λh=>by
  unfold jt
  exact au h (af (ae rfl) (af (ae rfl) (af (ae rfl) aq))) rfl rfl rfl
 have cl:bG (ao 0) b9 jt [.bl true,.bl false] [none,#v[H],#v[d]]=some (.ok [.bl e,.bl a],[#v[.bl false],#v[H],#v[d]]) :=
  cZ (p:=(.bl e,.z)) rfl rfl (k r) rfl (cZ (p:=(.bl a,.z)) rfl rfl (k o) rfl rfl)
 have v:qx (sQ S KK B H O Ts v6 (some (Th,.l)) v8 #v[d] #v[.str t] v11)=some (.ok (.val (.lst [.bl e,.bl a]) .u),sQ S KK B H O Ts v6 (some (Th,.l)) v8 #v[d] #v[.str t] v11):=bp (rs:=[.val (.tup [.bl true,.bl false]) .z]) (Z1:=sQ S KK B H O Ts v6 (some (Th,.l)) v8 #v[d] #v[.str t] v11) (dW (bN (af i_c (af i_c aq)) rfl (Nat.le_of_ble_eq_true rfl)) rfl rfl) cl (Nat.le_of_ble_eq_true rfl) rfl
 unfold jx
 apply ak (Z1:=sQ S KK B H O Ts v6 (some (Th,.l)) v8 #v[d] #v[.str t] v11)
 .exact cK (aB (af (ae rfl) aq) rfl n) rfl (Nat.le_of_ble_eq_true rfl) rfl
 apply ak (Z1:=sQ S KK B H O Ts v6 (some (Th,.l)) v8 #v[d] #v[.str t] (some (.lst [.bl e,.bl a],.u)))
 .exact cK v rfl (Nat.le_of_ble_eq_true rfl) rfl
 apply ak (Z1:=sQ S KK B H O Ts v6 (some (Th,.l)) v8 #v[d] #v[.str t] (some (.lst [.bl e,.bl a],.u)))
 .exact aU (b:=false) (bo (b:=true) (aO (au j (af (au s (af (ae rfl) (af (ae rfl) aq)) rfl rfl rfl) (af (am (ae rfl) i_c rfl rfl q) aq)) rfl rfl rfl) rfl)) rfl rfl
 exact aU (b:=false) (fv (b:=false) (bo (b:=true) (aO (au g (af (au ca (af (ae rfl) (af (ae rfl) aq)) rfl rfl rfl) (af (am (ae rfl) i_c rfl rfl d1) aq)) rfl rfl rfl) rfl)) rfl (aO (am (aB (af (ae rfl) aq) rfl n) (ae rfl) rfl rfl ne) rfl)) rfl rfl
end
abbrev sR (S KK:L3.D) (v2 a v4 v5 v6 v7 v8 v9 v10 v11:Option (L3.D×Fl)):Sto:=[#v[S],#v[KK],v2,a,v4,v5,v6,v7,v8,v9,v10,v11]
theorem zB {ns:List Int} (i:Nat) (v2 v v4 v5 v6 v7 v8 v9 v10 v11:Option (L3.D×Fl)):∃ w2 w3 φ ρ w6 Q J N I F,jw (sR (.fls (ns.map .int)) (.int (i:Int)) v2 v v4 v5 v6 v7 v8 v9 v10 v11)=some (.ok .nx,sR (.fls (ns.map .int)) (.int (i:Int)) w2 w3 φ ρ w6 Q J N I F):=by
 obtain ⟨h,y⟩:=Bf ns i
 obtain ⟨c,ps,es,g,hl⟩:=wc h 7 (by decide) (by decide)
 have h7:ps.length<=7:=by lia
 have es:fD [(.lst [.int h],.u),(.int 7,.z)]=some (.ok (Shd ps,.z),[(.lst [.int c],.u),(.int 7,.z)]):=es
 have t1:c6 [(Shd ps,.z),(.bl true,.z)]=some (.ok (cT ps true,.u),[(Shd ps,.z),(.bl true,.z)]):=yh g (by lia)
 have G:c6 [(Shd ps,.z),(.bl false,.z)]=some (.ok (cT ps false,.u),[(Shd ps,.z),(.bl false,.z)]):=yh g (by lia)
 obtain ⟨x,x1,w⟩:=oQ c (m:=20) (by decide)
 obtain ⟨V,t,q⟩:=ov_at x x1
 have t3:=gq c 20 (by decide)
 rw[show c % 20=(x:Int) from w] at t3
 have C:=A9 t3 t
 generalize c / 20=n2 at *
 have R:=FP g h7 (S:=.fls (ns.map .int)) (KK:=.int (i:Int)) (B:=.lst [.int n2]) (O:=V) (T2:=cT ps false) (v6:=v6) (v7:=v7) (v8:=v8) (v9:=v9) (v10:=v10) (v11:=v11) (Shd ps)
 have dl:=pe (λi j=>.int (cE ps true i j+(j:Int))) h7
 have o:=mm g h7 (l:=pI ps.length ps.length) Gz (CD g h7 (b:=true))
 obtain ⟨M,r⟩:∃ M:L3.D,M=.dt (tbD (λi j=>.int (cE ps true i j+(j:Int))) (pI ps.length ps.length)):=#[_,rfl]
 rw[<- r] at dl o
 have s:∀ d∈[cT ps true,cT ps false,M,V,.dt [],.lst [cT ps true]],Gd ps d:=λd hd=>by
  simp only[GN,List.not_mem_nil,or_false] at hd
  rcases hd with rfl | rfl | rfl | rfl | rfl | rfl
  .exact Du g h7
  .exact Du g h7
  .exact o
  .exact (Dt g h7 q).1
  .exact F9 g h7
  .exact F8 g h7
 obtain ⟨Z1,e1,f,E,J,rfl,A,gE⟩:=bD (bnd:=ao 8) (b:=jy) (λW Z=>∃ n E J,Z=sQ (.fls (ns.map .int)) (.int (i:Int)) (.lst [.int n]) (Shd ps) V (.lst [cT ps true,cT ps false]) #v[M] (some (.lst E,.u)) J v9 v10 v11/\E.length<=6+2 * W/\∀ d∈E,Gd ps d) (ds:=bm 0 3) (Z:=sQ (.fls (ns.map .int)) (.int (i:Int)) (.lst [.int n2]) (Shd ps) V (.lst [cT ps true,cT ps false]) #v[M] (some (.lst [cT ps true,cT ps false,M,V,.dt [],.lst [cT ps true]],.u)) v8 v9 v10 v11) (k:=0) #[n2,_,v8,rfl,Nat.le_of_ble_eq_true rfl,s] (by
  rintro m d Z hd ⟨n,E,J,rfl,A,gE⟩
  obtain ⟨hm,rfl⟩:=bX hd
  obtain ⟨P,X,σ,gX,gY,e⟩:=FR g h7 (S:=.fls (ns.map .int)) (KK:=.int (i:Int)) (v6:=#v[M]) (v8:=#v[.int (0+(m:Int))]) (v9:=v9) (v10:=v10) (v11:=v11) q n (Shd ps) (E:=E) (by lia)
  refine #[_,_,rfl,.inl e,P,_,_,rfl,by rw[Hc];simp;lia,λd hd=>?_]
  rcases GQ.mp hd with hd | hd
  .exact gE d hd
  .simp only[GN,List.not_mem_nil,or_false] at hd
   rcases hd with rfl | rfl
   .exact gX
   .exact gY)
 obtain ⟨Z2,T,N,I,F,rfl⟩:=bD (bnd:=ao 9) (b:=jx) (λ_ Z=>∃ N I F,Z=sQ (.fls (ns.map .int)) (.int (i:Int)) (.lst [.int f]) (Shd ps) V (.lst [cT ps true,cT ps false]) #v[M] (some (.lst E,.l)) J N I F) (ds:=E) (Z:=sQ (.fls (ns.map .int)) (.int (i:Int)) (.lst [.int f]) (Shd ps) V (.lst [cT ps true,cT ps false]) #v[M] (some (.lst E,.l)) J v9 v10 v11) (k:=0) #[v9,v10,v11,rfl] (by
  rintro m d Z hd ⟨N,I,F,rfl⟩
  obtain ⟨a,b,e⟩:=FQ (S:=.fls (ns.map .int)) (KK:=.int (i:Int)) (B:=.lst [.int f]) (O:=V) (Ts:=.lst [cT ps true,cT ps false]) (Th:=.lst E) (v6:=#v[M]) (v8:=J) (v10:=I) (v11:=F) (gE d (GV hd))
  exact #[_,_,rfl,.inl e,_,a,b,rfl])
 have K:dn [.int 3]=some (bm 0 3):=c8 (by decide) (by decide)
 have s0:aA (.lst [cT ps true,cT ps false]) (.int 0)=#v[cT ps true]:=eL rfl
 refine #[some (.lst [.int f],.u),#v[Shd ps],#v[V],some (.lst [cT ps true,cT ps false],.u),#v[M],some (.lst E,.u),J,N,I,F,?_]
 clear gE s o g t q r t3 x1 w
 generalize (pI ps.length ps.length).map (λp=>L3.D.tup [Kp p,.int (cE ps true p.1 p.2+(p.2:Int))])=YS at *
 generalize cT ps true=T1 at *
 generalize cT ps false=T2 at *
 generalize Shd ps=H at *
 generalize L3.D.fls (ns.map .int)=S at *
 generalize L3.D.int (i:Int)=KK at *
 have cat:bu (.lst [T1,T2]) (.lst [M,V,.dt [],.lst [T1]])=some (.lst [T1,T2,M,V,.dt [],.lst [T1]],.u):=pj (Nat.le_of_ble_eq_true rfl)
 unfold jw
 apply ak (Z1:=sR S KK (some (.lst [.int h],.u)) v v4 v5 v6 v7 v8 v9 v10 v11)
 .nomatch [y]
 apply ak (Z1:=sR S KK (some (.lst [.int c],.u)) #v[H] v4 v5 v6 v7 v8 v9 v10 v11)
 .nomatch [es]
 apply ak (Z1:=sR S KK (some (.lst [.int n2],.u)) #v[H] #v[V] v5 v6 v7 v8 v9 v10 v11)
 .nomatch [C]
 apply ak (Z1:=sQ S KK (.lst [.int n2]) H V (.lst [T1,T2]) v6 v7 v8 v9 v10 v11)
 .exact cK (bN (af (au t1 (af (ae rfl) (af i_c aq)) rfl rfl rfl) (af (au G (af (ae rfl) (af i_c aq)) rfl rfl rfl) aq)) rfl (Nat.le_of_ble_eq_true rfl)) rfl (Nat.le_of_ble_eq_true rfl) rfl
 apply ak (Z1:=sQ S KK (.lst [.int n2]) H V (.lst [T1,T2]) (some (M,.u)) v7 v8 v9 v10 v11)
 .exact cK (aB (af R aq) rfl dl) rfl (Nat.le_of_ble_eq_true rfl) rfl
 apply ak (Z1:=sQ S KK (.lst [.int n2]) H V (.lst [T1,T2]) #v[M] (some (.lst [T1,T2,M,V,.dt [],.lst [T1]],.u)) v8 v9 v10 v11)
 .have d1:cX (aa (ah aA (ac 5) (mC (.int 0))) ai) (sQ S KK (.lst [.int n2]) H V (.lst [T1,T2]) (some (M,.u)) v7 v8 v9 v10 v11)=some (.ok (.val (.lst [T1]) .u),sQ S KK (.lst [.int n2]) H V (.lst [T1,T2]) (some (M,.u)) v7 v8 v9 v10 v11):=bN (af (am (ae rfl) i_c rfl rfl s0) aq) rfl (Nat.le_of_ble_eq_true rfl)
  have L:l8 (sQ S KK (.lst [.int n2]) H V (.lst [T1,T2]) (some (M,.u)) v7 v8 v9 v10 v11)=some (.ok (.val (.dt []) .u),sQ S KK (.lst [.int n2]) H V (.lst [T1,T2]) (some (M,.u)) v7 v8 v9 v10 v11):=rfl
  exact cK (am (Z2:=sQ S KK (.lst [.int n2]) H V (.lst [T1,T2]) #v[M] v7 v8 v9 v10 v11) (ae rfl) (bN (Z2:=sQ S KK (.lst [.int n2]) H V (.lst [T1,T2]) #v[M] v7 v8 v9 v10 v11) (af (ae rfl) (af (ae rfl) (af L (af d1 aq)))) rfl (Nat.le_of_ble_eq_true rfl)) rfl rfl cat) rfl (Nat.le_of_ble_eq_true rfl) rfl
 apply ak (cS (eV (af i_c aq) rfl K) rfl e1)
 exact i7 (rs:=[.pl 7]) (is:=[7]) (Z1:=sQ S KK (.lst [.int f]) H V (.lst [T1,T2]) #v[M] (some (.lst E,.u)) J v9 v10 v11) (dW (ae rfl) rfl rfl) rfl T
set_option tactic.hygienic true in
theorem Bb (ns:List Int) (l:ns.length<=63):DC [(.fls (ns.map .int),.z)]=some (.ok (.bl true,.z),[(.fls (ns.map .int),.z)]):=by
 have c:∃ m:Nat,(if (if ((4:Int) < ((ns.map L3.D.int).length:Int)) then (4:Int) else ((ns.map L3.D.int).length:Int)) > 1 then (if ((4:Int) < ((ns.map L3.D.int).length:Int)) then (4:Int) else ((ns.map L3.D.int).length:Int)) else (1:Int))=(m:Int)/\m<=4:=by
  refine #[max 1 (min ns.length 4),?_,by lia]
  simp only[GS]
  split <;> split <;> lia
 obtain ⟨m,hm,g⟩:=c
 obtain ⟨Z',e,v1,v2,a,v4,v5,v6,v7,v8,v9,v10,v11,rfl⟩:=bD (bnd:=ao 1) (b:=jw) (λ_ Z=>∃ v1 v2 a v4 v5 v6 v7 v8 v9 v10 v11,Z=[#v[.fls (ns.map .int)],v1,v2,a,v4,v5,v6,v7,v8,v9,v10,v11]) (ds:=bm 0 m) (Z:=[#v[.fls (ns.map .int)],none,none,none,none,none,none,none,none,none,none,none]) (k:=0) #[_,_,_,_,_,_,_,_,_,_,_,rfl] (by
  rintro i d Z hd ⟨v1,v2,a,v4,v5,v6,v7,v8,v9,v10,v11,rfl⟩
  obtain ⟨hi,rfl⟩:=bX hd
  rw[Int.zero_add]
  obtain ⟨u,p,s,o,t,n,r,q,j,f,e⟩:=zB (ns:=ns) i v2 a v4 v5 v6 v7 v8 v9 v10 v11
  exact #[_,_,rfl,.inl e,_,_,_,_,_,_,_,_,_,_,_,rfl])
 have h:dn [.int (if (if ((4:Int) < ((ns.map L3.D.int).length:Int)) then (4:Int) else ((ns.map L3.D.int).length:Int)) > 1 then (if ((4:Int) < ((ns.map L3.D.int).length:Int)) then (4:Int) else ((ns.map L3.D.int).length:Int)) else (1:Int))]=some (bm 0 m):=by
  rw[hm]
  exact c8 (by lia) (by lia)
 apply aQ (Z:=[#v[.fls (ns.map .int)],none,none,none,none,none,none,none,none,none,none,none]) rfl rfl
 .apply ak
  .apply cS
   ·(repeat' (first | with_reducible apply eV (h3:=h) | infer_instance | eq_refl))
   .rfl
   .exact e
  .apply bf
   .exact i_c
   .rfl
 .rfl
end Bn
end
namespace Bn
open PySem L2 L3
theorem Gx {l:PySem.W.OpenLaw} {w:World} {K:FG} {h:Heap} {mg:Str -> Option Value} {fa:Addr} (X:K.In h) (G:h.Ns mainGlobals mg) (cm:mg "law"=some (.ref fa)) (e:A6 K=vf) :
  ∃ fd:FuncData,(∀ (s:Shared) (v:Value),BindsTo s fd #[[v],[]] [("_law_script",v)]) /\ ∀ base:Heap,K.In base -> base.Ns mainGlobals mg -> FnOk l.prog w K mg base CX0 9 fa fd ["_law_script"] (xQ K):=by
 have d:dsL.map (λp=>qX K p.1)=dsL.map (λp=>mw p.1 p.2):=congrArg (λx=>x.1) e
 have e1:blL.map (PySem.W.nsIn K mainGlobals)=blL.map (λ_=>some none):=congrArg (λx=>x.2.1) e
 have e2:ciL.map (λp=>oZ K p.1)=ciL.map (λp=>some p.2):=congrArg (λx=>x.2.2.1) e
 have e3:csL.map (λp=>xP K p.1)=csL.map (λp=>some p.2):=congrArg (λx=>x.2.2.2.1) e
 have e4:oe K=true:=congrArg (λx=>x.2.2.2.2) e
 have B:Bl mg:=#[bY X G e1 0 rfl,bY X G e1 1 rfl,bY X G e1 2 rfl,bY X G e1 3 rfl,bY X G e1 4 rfl,bY X G e1 5 rfl,bY X G e1 6 rfl,bY X G e1 7 rfl,bY X G e1 8 rfl,bY X G e1 9 rfl,bY X G e1 10 rfl,bY X G e1 11 rfl,bY X G e1 12 rfl,bY X G e1 13 rfl,bY X G e1 14 rfl,bY X G e1 15 rfl,bY X G e1 16 rfl,bY X G e1 17 rfl,bY X G e1 18 rfl,bY X G e1 19 rfl,bY X G e1 20 rfl]
 have D0:Def K mg "is_whole" fH:=aK X G d 0 rfl
 have D1:Def K mg "is_point" fJ:=aK X G d 1 rfl
 have D2:Def K mg "is_place" fK:=aK X G d 2 rfl
 have D3:Def K mg "are_rising_places" bz:=aK X G d 3 rfl
 have D4:Def K mg "are_points" dG:=aK X G d 4 rfl
 have D5:Def K mg "has_rising_x" cv:=aK X G d 5 rfl
 have D6:Def K mg "bend" oq:=aK X G d 6 rfl
 have D7:Def K mg "threes" jd:=aK X G d 7 rfl
 have D8:Def K mg "first_on_line" ce:=aK X G d 8 rfl
 have D9:Def K mg "is_sheet" fI:=aK X G d 9 rfl
 have cu:Def K mg "check_sheet" c7:=aK X G d 10 rfl
 have b5:Def K mg "turn_at" iy:=aK X G d 11 rfl
 have dd:Def K mg "all_turns" eM:=aK X G d 12 rfl
 have c5:Def K mg "has_paper_form" bO:=aK X G d 13 rfl
 have ck:Def K mg "is_paper" fL:=aK X G d 14 rfl
 have bb:Def K mg "is_cup_paper" cq:=aK X G d 15 rfl
 have b4:Def K mg "is_cap_paper" cr:=aK X G d 16 rfl
 have a0:Def K mg "_law_cell" jg:=aK X G d 17 rfl
 have b6:Def K mg "_law_mix" k4:=aK X G d 18 rfl
 have be:Def K mg "_law_box" k9:=aK X G d 19 rfl
 have c0:Def K mg "_law_take" je:=aK X G d 20 rfl
 have a3:Def K mg "_law_whole" iz:=aK X G d 21 rfl
 have a5:Def K mg "_law_truth" iA:=aK X G d 22 rfl
 have dc:Def K mg "_law_bend" ji:=aK X G d 23 rfl
 have c4:Def K mg "_law_free" jf:=aK X G d 24 rfl
 have ax:Def K mg "_law_sheet" iC:=aK X G d 25 rfl
 have a6:Def K mg "_law_odd" kZ:=aK X G d 26 rfl
 have c3:Def K mg "_law_up" om:=aK X G d 27 rfl
 have bq:Def K mg "_law_pairs" iE:=aK X G d 28 rfl
 have b3:Def K mg "_law_table" iB:=aK X G d 29 rfl
 have b0:Def K mg "_law_paper" iD:=aK X G d 30 rfl
 have az:Def K mg "_law_bent" jh:=aK X G d 31 rfl
 obtain ⟨f,fd,F0,hf⟩:Def K mg "law" gl:=aK X G d 32 rfl
 cases cm.symm.trans hf
 have F:=F0
 obtain ⟨oc,od,kV,doc,pm,an,cp,ct,dI,ef,lk,d0⟩:=F0.ex
 subst ef
 obtain ⟨dr,Q0⟩:=tF X G e2 0 (n:="MOST_POINTS") (v:=24) rfl
 obtain ⟨dV,Q1⟩:=tF X G e2 1 (n:="UP") (v:=1) rfl
 obtain ⟨dx,Q2⟩:=tF X G e2 2 (n:="DOWN") (v := -1) rfl
 have ar:ul K:=Ec e4
 refine #[PySem.W.fnOf "law" "law" (aX gl) (aR gl) (aj gl) .none kV doc pm an cp ct,λs v=>.of_eq rfl,λbase _ _=>?_]
 have c:=pq (P:=l.prog) (w:=w) (base:=base) B D0
 have φ:=pA (P:=l.prog) (w:=w) (base:=base) B D1 c
 have S:=pB (P:=l.prog) (w:=w) (base:=base) B D2 c
 have b:=gc (P:=l.prog) (w:=w) (base:=base) B D3 S
 have u:=mI (P:=l.prog) (w:=w) (base:=base) B D4 φ Q0
 have o:=ku (P:=l.prog) (w:=w) (base:=base) B D5
 have ab:=At (P:=l.prog) (w:=w) (base:=base) B D6
 have J:=tZ (P:=l.prog) (w:=w) (base:=base) B D7
 have j:=jN (P:=l.prog) (w:=w) (base:=base) B D8 ab J
 have σ:=pv (P:=l.prog) (w:=w) (base:=base) B D9 u j o
 have t:=kU (P:=l.prog) (w:=w) (base:=base) B cu σ
 have ρ:=rF (P:=l.prog) (w:=w) (base:=base) B b5 ab
 have N:=mV (P:=l.prog) (w:=w) (base:=base) B dd t J ρ
 have i:=ja (P:=l.prog) (w:=w) (base:=base) B c5 b c
 have k:=pC (P:=l.prog) (w:=w) (base:=base) B ck N i
 have m:=ko (P:=l.prog) (w:=w) (base:=base) B bb k Q1
 have q:=kr (P:=l.prog) (w:=w) (base:=base) B b4 k Q2
 have M:=t6 (P:=l.prog) (w:=w) (base:=base) B a0
 have R:=xp (P:=l.prog) (w:=w) (base:=base) B b6
 have V:=xq (P:=l.prog) (w:=w) (base:=base) B be M R
 have a:=t0 (P:=l.prog) (w:=w) (base:=base) B c0
 have A:=rG (P:=l.prog) (w:=w) (base:=base) B a3
 have I:=rH (P:=l.prog) (w:=w) (base:=base) B a5
 have g:=t9 (P:=l.prog) (w:=w) (base:=base) B dc
 have L:=t5 (P:=l.prog) (w:=w) (base:=base) B c4 g
 have z:=rL (P:=l.prog) (w:=w) (base:=base) B ax L a
 have T:=xo (P:=l.prog) (w:=w) (base:=base) B a6 a
 have r:=As (P:=l.prog) (w:=w) (base:=base) B c3 g
 have y:=rN (P:=l.prog) (w:=w) (base:=base) B bq
 have C:=rK (P:=l.prog) (w:=w) (base:=base) B b3 r
 have D:=rM (P:=l.prog) (w:=w) (base:=base) B b0 y r A
 have O:=t7 (P:=l.prog) (w:=w) (base:=base) B az a
 exact FnOk.imp (CF (P:=l.prog) (w:=w) (base:=base) B F O V T D z C I q m ar) λvs H Q E h=>Cq (λns hn=>#[_,Bb ns hn]) h
theorem walkL:PySem.W.WalkO viL loL (λ_ _=>True) (λ_ h=>∃ K:FG,K.In h /\ A6 K=vf) PySem.Challenge.rw_bentrows_k11_papers_looked_at.row.toRowW ⟨"law",aX gl,aR gl,aj gl,stPos gl⟩ [] (λf D=>PySem.call f D) :=
 L2.walk_ofS (l:=PySem.Challenge.rw_bentrows_k11_papers_looked_at) (n:=63) (k:=9) (x:="_law_script") (S:=λK=>A6 K=vf) (CX:=CX0) (sp:=xQ) rfl (by decide) rfl ⟨rfl,by decide,by decide,rfl⟩ (λ_ _ z=>z) (λ_ _ _ _ _ e X G hm=>Gx X G hm e) (λ_ _ a ns c b d=>⟨a,ns,rfl,d,b,c,λ_=>rfl⟩) λ_ _ _ _ z=>z
end Bn
set_option tactic.hygienic true
open PySem PySem.W PyProof.Rows
set_option maxRecDepth 100000 in
set_option maxHeartbeats 0 in
theorem PySem.Challenge.cw_bentrows_k11_papers_looked_at_holds : PySem.Challenge.rw_bentrows_k11_papers_looked_at.Holds :=
 holds_law Bn.okL λsaid=>holds_open (r:=PySem.Challenge.rw_bentrows_k11_papers_looked_at.row) Bn.leftL (λ_ _ e=>⟨_,L2.fragAt_in _,e⟩) (λ_ _ _ ⟨K,X,e⟩ k=>⟨K,X.keeps k,e⟩) (λ_ _=>trivial) (λ_ _ _ _ _=>trivial) (by kernel_rfl) (by kernel_rfl) (by kernel_rfl) (λs e=>recFacts_of e) (by rfl) said (by kernel_rfl) ⟨rfl,rfl,rfl,rfl,rfl,by decide +kernel⟩ ⟨[.list []],by decide +kernel,by decide +kernel⟩ Bn.walkL
