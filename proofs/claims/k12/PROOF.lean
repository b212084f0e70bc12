import PyProof.Rows.All
import Wide.All
import OpenK.AllK
import Wide.FinOn
import Lean
import PyProof.EqAt
import PyProof.EqKinds
import PyProof.TupleCall
import PyProof.P3Eq
import PyProof.NeData
import PyProof.ListRange
import PyProof.Rows.CallKwBuiltin
import PyProof.Rows.Range3
import PyProof.DictWalks
import PyProof.MinMaxWalk
import PyProof.WalkInts
import PyProof.Walk
import PyProof.WalkLemmas
import PyProof.RulesTry
import PyProof.Rows.SortShell
import PyProof.Rows.SortWalk
import PyProof.Rows.SortRuns
import PyProof.Rows.SetFrom
import PyProof.SetKind
import PyProof.SetScanFacts
import PyProof.FactsAll.subtypes_4
import PyProof.FactsAll.set_1
import PyProof.DictDisplay
import KE.KRevIter
import PyProof.DictUpdate
import KE.KDictOf
import KE.KEqDict
import PyProof.DictFindH
import PySem.Challenge.RW_bentrows_k12_whole_threes_of_rows
set_option genSizeOf false
set_option compiler.extract_closed false
set_option Elab.async false
noncomputable section
local macro_rules|`(#[$a,*])=>`(⟨$a,*⟩)
local macro_rules|`(#v[$a])=>`(some ($a,.z))
set_option linter.all false
set_option maxRecDepth 100000
set_option maxHeartbeats 4000000
section
abbrev FG:=PySem.W.Frag
open PySem PySem.Spec PyProof.Rows
abbrev Fb:=@wpAny_bind
abbrev Fc:=@wpAny_pure
abbrev Fd:=@wpAny_holding
abbrev Fe:=@List.mem_cons_self
abbrev Ff:=@List.mem_cons_of_mem
abbrev Fg:=@Heap.get?_push_of_some
abbrev Fh:=@Option.map_eq_some_iff
abbrev Fi:=@List.mem_append_left
abbrev Fj:=@List.mem_append_right
abbrev Fm:=@List.mem_cons
abbrev Fo:=@List.getElem?_eq_getElem
abbrev Fp:=@Heap.lt_size
abbrev Fq:=@List.mem_append
abbrev Fs:=@Heap.get?_push_size
abbrev Ft:=@List.length_map
abbrev Fu:=@List.getElem?_eq_some_iff
abbrev Fv:=@List.mem_of_getElem?
abbrev Fw:=@List.sublist_append_right
abbrev Fy:=@List.mem_map
abbrev Fz:=@List.getElem?_map
abbrev FA:=@Nat.le_refl
abbrev FC:=@Bool.false_ne_true
abbrev FD:=@Nat.ne_of_lt
abbrev FE:=@List.size_toArray
abbrev FF:=@List.map_cons
abbrev FH:=@decide_eq_true
abbrev FI:=@decide_eq_false
abbrev FJ:=@Nat.lt_of_lt_of_le
abbrev FK:=@Nat.zero_add
abbrev FL:=@Heap.get?_update_self
abbrev FN:=@List.length_append
abbrev FO:=@List.length_cons
abbrev FP:=@List.length_take
abbrev FQ:=@Option.map_some
abbrev FR:=@Option.bind_eq_some_iff
abbrev FT:=@List.mem_singleton
abbrev FU:=@Bool.false_eq_true
abbrev FV:=@List.mem_filter
abbrev FW:=@Heap.get?_update_other
abbrev FX:=@Heap.size_push
abbrev FY:=@wpAny_truthy_bool
abbrev FZ:=@Nat.le_trans
abbrev F1:=@List.take_of_length_le
abbrev F2:=@List.filter_eq_self
abbrev F3:=@List.mem_flatMap
abbrev F4:=@List.map_map
abbrev F5:=@List.map_congr_left
abbrev F6:=@Option.some.inj
abbrev F7:=@List.length_eq_zero_iff
end
section
namespace L2
open PySem
def aV (s:Stmt):Arguments:=match s with
 | .FunctionDef _ a _ _ _ _ _ _ _ _=>a
 | _=>{ posonlyargs:=[],args:=[],vararg:=none,kwonlyargs:=[],kw_defaults:=[],kwarg:=none,defaults:=[] }
def aO (s:Stmt):List Stmt:=match s with
 | .FunctionDef _ _ b _ _ _ _ _ _ _=>b
 | _=>[]
def ae (s:Stmt):Scope:=match s with
 | .FunctionDef _ _ _ _ _ _ sc _ _ _=>sc
 | _=>{ kind:=.function,names:=[],isGenerator:=false,isCoroutine:=false }
def qh (p:Nat×Obj):Option (Nat×Obj):=match p.2 with
 | #[_,_,.freed,_]=>none
 | o=>some (p.1,o)
def yO (h:Heap):FG:=((List.range h.objs.size).zip h.objs.toList).filterMap qh
def refIn (K:FG) (n:Str):Addr:=match PySem.W.nsIn K mainGlobals n with
 | some (some (.ref f))=>f
 | _=>0
abbrev pc:=Str×Str×Arguments×FuncBody×Scope×Addr×List (Str×Addr)×Value×Addr×Bool
def qr (K:FG) (n:Str):Option pc:=match PySem.W.nsIn K mainGlobals n with
 | some (some (.ref f))=>(match K.lookup f with
  | some #[_,_,.func fd,_]=>some (fd.name,fd.qualname,fd.params,fd.body,fd.scope,fd.globals,fd.closure,fd.defaults,fd.builtins,PySem.W.codeIn K fd.code n)
  | _=>none)
 | _=>none
def mh (n:Str) (st:Stmt):Option pc:=some (n,n,aV st,.stmts (aO st),ae st,mainGlobals,[],.none,builtinsNs,true)
def oQ (K:FG) (n:Str):Option Int:=match PySem.W.nsIn K mainGlobals n with
 | some (some (.int v _))=>some v
 | _=>none
def wD (K:FG) (n:Str):Option Str:=match PySem.W.nsIn K mainGlobals n with
 | some (some (.str v _))=>some v
 | _=>none
open PySem.W PyProof.Rows in
theorem vt {p q:Program} {loose:List Str} {g:Shared → Bool} {α:Type} {c:Shared → α} {d:World → α} {N m:Nat} {ann:Option Value}
  (e:opening p=plainProg p.main.scope.names) (l:Nat.ble 600 N=true) (f:∀ s,fenceModules? p s=some s)
  (sz:∀ w:World,((boot_heap w.params).isNs mainGlobals && (Array.mk []:Array GenState).size == 0,(boot_heap w.params).objs.size,(boot_heap w.params).nsMap mainGlobals "__annotations__")=(true,m,ann))
  (go:∀ (w:World) (os:OsState),(PySem.W.Fast.tw14082659384304107361 PySem.W.Fast.tw14364793385576792824 p w m ann N #[boot_heap w.params,Array.mk [],boot_drawn,boot_toks,os] (topStub p)).map (λs=>((staticsOk (importedModules p.main.body) (boot_heap w.params) s.heap && namesBound p s.heap && gensDone s && laidKept (boot_heap w.params) s.heap),PySem.W.Fast.tw4187177175401517315 q loose (importedModules p.main.body) g true s,c s))=some (true,openGood q loose,d w)):LeftO p q loose g c d N:=λw=>by
 obtain ⟨⟨k,o,i,tk,os⟩,j,h⟩:=Fh.mp (boot_open e l f w)
 obtain ⟨rfl,rfl,rfl,rfl⟩:k=boot_heap w.params ∧ o=Array.mk [] ∧ i=boot_drawn ∧ tk=boot_toks:=by simpa using h
 have sw:=sz w
 have a:=go w os
 rw[← PySem.W.Fast.te14082659384304107361,← PySem.W.Fast.te14364793385576792824,← PySem.W.Fast.te4187177175401517315] at a
 simp only[Prod.mk.injEq] at sw
 obtain ⟨s,n,b⟩:=Fh.mp a
 simp only[Prod.mk.injEq] at b
 have tt:topFrom treeTable p w N #[boot_heap w.params,Array.mk [],boot_drawn,boot_toks,os]=some s:=by
  unfold topFrom
  dsimp only
  rw[sw.1,sw.2.1,sw.2.2,n]
  change (match staticsOk (importedModules p.main.body) (boot_heap w.params) s.heap && namesBound p s.heap && gensDone s && laidKept (boot_heap w.params) s.heap with | true=>some s | false=>none)=some s
  rw[b.1]
 unfold openEnds
 rw[j]
 change Option.map _ (topFrom treeTable p w N _)=_
 rw[tt]
 exact congrArg some (Prod.ext b.2.1 b.2.2)
theorem uP (h:PySem.W.Fast.tw9446332074065402090 l=true):l.wellSaid=true:=by rw[← PySem.W.Fast.te9446332074065402090] at h; exact h
end L2
namespace Bn
open PySem L2
def top (i:Nat):Stmt:=PySem.Challenge.pw_bentrows_k12_whole_threes_of_rows.main.body.getD i (.Pass ⟨0,0,0,0⟩)
abbrev fL:Stmt:=top 6
abbrev fN:Stmt:=top 7
abbrev fO:Stmt:=top 8
abbrev bu:Stmt:=top 9
abbrev dw:Stmt:=top 10
abbrev dU:Stmt:=top 13
abbrev cx:Stmt:=top 14
abbrev og:Stmt:=top 15
abbrev jj:Stmt:=top 16
abbrev cb:Stmt:=top 17
abbrev fM:Stmt:=top 18
abbrev dy:Stmt:=top 19
abbrev iw:Stmt:=top 20
abbrev oe:Stmt:=top 21
abbrev eK:Stmt:=top 22
abbrev dl:Stmt:=top 23
abbrev du:Stmt:=top 24
abbrev iz:Stmt:=top 25
abbrev eG:Stmt:=top 29
abbrev k4:Stmt:=top 30
abbrev jp:Stmt:=top 31
abbrev jq:Stmt:=top 32
abbrev eF:Stmt:=top 33
abbrev eI:Stmt:=top 34
abbrev eJ:Stmt:=top 35
abbrev cq:Stmt:=top 36
abbrev dm:Stmt:=top 37
abbrev dn:Stmt:=top 38
abbrev dq:Stmt:=top 39
abbrev bV:Stmt:=top 40
abbrev fP:Stmt:=top 41
abbrev cr:Stmt:=top 42
abbrev cv:Stmt:=top 43
abbrev jn:Stmt:=top 45
abbrev kY:Stmt:=top 46
abbrev kZ:Stmt:=top 47
abbrev jl:Stmt:=top 48
abbrev jo:Stmt:=top 49
abbrev jm:Stmt:=top 50
abbrev iA:Stmt:=top 51
abbrev iB:Stmt:=top 52
abbrev gr:Stmt:=top 53
abbrev dsL:List (Str×Stmt):=[(("is_whole":Str),fL),(("is_point":Str),fN),(("is_place":Str),fO),(("are_rising_places":Str),bu),(("check_whole":Str),dw),(("are_points":Str),dU),(("has_rising_x":Str),cx),(("bend":Str),og),(("threes":Str),jj),(("first_on_line":Str),cb),(("is_sheet":Str),fM),(("check_sheet":Str),dy),(("turn_at":Str),iw),(("turn":Str),oe),(("all_turns":Str),eK),(("turned_over":Str),dl),(("from_behind":Str),du),(("sheared":Str),iz),(("row_bends":Str),eG),(("bends":Str),k4),(("is_cup":Str),jp),(("is_cap":Str),jq),(("row_table":Str),eF),(("cup_table":Str),eI),(("cap_table":Str),eJ),(("onward_table":Str),cq),(("longest_row":Str),dm),(("longest_cup":Str),dn),(("longest_cap":Str),dq),(("has_paper_form":Str),bV),(("is_paper":Str),fP),(("is_cup_paper":Str),cr),(("is_cap_paper":Str),cv),(("_law_cell":Str),jn),(("_law_mix":Str),kY),(("_law_box":Str),kZ),(("_law_take":Str),jl),(("_law_bend":Str),jo),(("_law_free":Str),jm),(("_law_sheet":Str),iA),(("_law_right":Str),iB),(("law":Str),gr)]
abbrev blL:List Str:=[("len":Str),("range":Str),("abs":Str),("divmod":Str),("enumerate":Str),("tuple":Str),("isinstance":Str),("int":Str),("bool":Str),("all":Str),("str":Str),("max":Str),("min":Str),("list":Str),("dict":Str),("repr":Str),("sorted":Str),("set":Str),("zip":Str),("reversed":Str)]
abbrev ciL:List (Str×Int):=[(("MOST_POINTS":Str),(24:Int)),(("UP":Str),(1:Int)),(("DOWN":Str),(-1:Int))]
abbrev csL:List (Str×Str):=[]
def zZ (K:FG):List (Option pc)×List (Option (Option Value))×List (Option Int)×List (Option Str):=(dsL.map (λp=>qr K p.1),blL.map (PySem.W.nsIn K mainGlobals),ciL.map (λp=>oQ K p.1),csL.map (λp=>wD K p.1))
def t7:List (Option pc)×List (Option (Option Value))×List (Option Int)×List (Option Str):=(dsL.map (λp=>mh p.1 p.2),blL.map (λ_=>some none),ciL.map (λp=>some p.2),csL.map (λp=>some p.2))
theorem okL:PySem.Challenge.rw_bentrows_k12_whole_threes_of_rows.wellSaid=true:=uP (by kernel_rfl)
abbrev loL:List Str:=[("BentError":Str),("NoSheet":Str),("NoPlace":Str),("NoNumber":Str),("is_whole":Str),("is_point":Str),("is_place":Str),("are_rising_places":Str),("check_whole":Str),("MOST_POINTS":Str),("are_points":Str),("has_rising_x":Str),("bend":Str),("threes":Str),("first_on_line":Str),("is_sheet":Str),("check_sheet":Str),("turn_at":Str),("turn":Str),("all_turns":Str),("turned_over":Str),("from_behind":Str),("sheared":Str),("UP":Str),("DOWN":Str),("row_bends":Str),("bends":Str),("is_cup":Str),("is_cap":Str),("row_table":Str),("cup_table":Str),("cap_table":Str),("onward_table":Str),("longest_row":Str),("longest_cup":Str),("longest_cap":Str),("has_paper_form":Str),("is_paper":Str),("is_cup_paper":Str),("is_cap_paper":Str),("_law_cell":Str),("_law_mix":Str),("_law_box":Str),("_law_take":Str),("_law_bend":Str),("_law_free":Str),("_law_sheet":Str),("_law_right":Str)]
abbrev viL:Program:=PySem.W.view PySem.Challenge.rw_bentrows_k12_whole_threes_of_rows.row.prog [53]
theorem leftL:PySem.W.LeftO PySem.Challenge.rw_bentrows_k12_whole_threes_of_rows.row.prog viL loL (λs=>PySem.W.recOk (PySem.W.RowW.records PySem.Challenge.rw_bentrows_k12_whole_threes_of_rows.row.toRowW) s) (λs=>zZ (yO s.heap)) (λ_=>t7) 40000 :=
 vt (m:=11) (ann:=some (.ref 6)) (by kernel_rfl) rfl (λ_=>rfl) (λw=>by kernel_rfl) (λw os=>by kernel_rfl)
end Bn
end
section
namespace L2
open PySem PySem.Spec PyProof.Rows
abbrev Key:=Sum Int Str
def nI:Key->Value->Bool
 | .inl k,v=>Value.isInt k v
 | .inr x,v=>Value.isStrOf x v
def keyH (w:World):Key->Int
 | .inl k=>hashInt k
 | .inr x=>hashStr w x
theorem bo:∀ {k:Key} {v:Value},nI k v=true->(∃ i t,k=Sum.inl i/\v=Value.int i t)\/(∃ x t,k=Sum.inr x/\v=Value.str x t)
 | .inl i,v,h=>by
  obtain ⟨t,e⟩:=Value.isInt_shape (k:=i) (v:=v) h
  exact .inl #[i,t,rfl,e]
 | .inr x,v,h=>by
  obtain ⟨t,e⟩:=Value.isStrOf_shape (x:=x) (v:=v) h
  exact .inr #[x,t,rfl,e]
theorem vz (i:Int) (t:Tok):nI (.inl i) (.int i t)=true:=by simp[nI,Value.isInt]
theorem vy (x:Str) (t:Tok):nI (.inr x) (.str x t)=true:=by simp[nI,Value.isStrOf]
theorem EA (a b:Int):decide ((Sum.inl a:Key)=Sum.inl b)=(a == b):=by
 by_cases e:a=b
 .subst e;simp
 .have h:¬ (Sum.inl a:Key)=Sum.inl b:=λq=>e (Sum.inl.inj q)
  rw[FI h]
  exact (beq_eq_false_iff_ne.mpr e).symm
theorem Ex (a b:Str):decide ((Sum.inr a:Key)=Sum.inr b)=decide (a=b):=by
 by_cases e:a=b
 .subst e;simp
 .have h:¬ (Sum.inr a:Key)=Sum.inr b:=λq=>e (Sum.inr.inj q)
  rw[FI h,FI e]
theorem Ez (a:Int) (b:Str):decide ((Sum.inl a:Key)=Sum.inr b)=false:=FI (λq=>nomatch q)
theorem Ey (a:Str) (b:Int):decide ((Sum.inr a:Key)=Sum.inl b)=false:=FI (λq=>nomatch q)
def aU (prog:Program) (w:World):PySem.KeyKind prog w Key where
 is:=nI
 hash:=keyH w
 inj:=λv a b f d=>by
  rcases bo f with ⟨i,t,rfl,rfl⟩ | ⟨x,t,rfl,rfl⟩
  .rcases bo d with ⟨j,u,rfl,e⟩ | ⟨y,u,rfl,e⟩
   .injection e with e1 _;rw[e1]
   .exact nomatch e
  .rcases bo d with ⟨j,u,rfl,e⟩ | ⟨y,u,rfl,e⟩
   .exact nomatch e
   .injection e with e1 _;rw[e1]
 byValue:=λk v h=>by
  rcases bo h with ⟨i,t,rfl,rfl⟩ | ⟨x,t,rfl,rfl⟩ <;> rfl
 pyHash:=λc h=>by
  rcases bo c with ⟨i,t,rfl,rfl⟩ | ⟨x,t,rfl,rfl⟩
  .exact wpAny_pyHash_int h
  .exact wpAny_pyHash_str h
 eqBool:=λhu c h=>by
  rcases bo hu with ⟨i,t,rfl,rfl⟩ | ⟨x,t,rfl,rfl⟩
  .rcases bo c with ⟨j,u,rfl,rfl⟩ | ⟨y,u,rfl,rfl⟩
   .rw[EA] at h;exact wpAny_eqBool_int h
   .rw[Ez] at h;exact SeqAt.EqAt.int_str i t y u _ _ _ _ h
  .rcases bo c with ⟨j,u,rfl,rfl⟩ | ⟨y,u,rfl,rfl⟩
   .rw[Ey] at h;exact SeqAt.EqAt.str_int x t j u _ _ _ _ h
   .rw[Ex] at h;exact wpAny_eqBool_str h
 «strs»:=λk x t v h=>by
  rcases bo h with ⟨i,u,rfl,e⟩ | ⟨y,u,rfl,e⟩
  .exact nomatch e
  .injection e with e1 _
   subst e1
   cases v <;> rfl
theorem pY (prog:Program) (w:World) (i:Int) (t:Tok):(aU prog w).is (.inl i) (.int i t)=true:=vz i t
theorem pX (prog:Program) (w:World) (x:Str) (t:Tok):(aU prog w).is (.inr x) (.str x t)=true:=vy x t
end L2
namespace L2
open PySem PySem.Spec PyProof.Rows
inductive V where
 | non | bl (b:Bool) | int (i:Int) | str (x:Str) | byt (b:Array UInt8) | flt (b:UInt64) | ref (a:Addr) | ty (n:String)
 deriving DecidableEq
def RelV:V->Value->Prop
 | .non,u=>u=Value.none
 | .bl b,u=>u=Value.bool b
 | .int i,u=>∃ t,u=Value.int i t
 | .str x,u=>∃ t,u=Value.str x t
 | .byt b,u=>∃ t,u=Value.bytes b t
 | .flt b,u=>∃ t,u=Value.float b t
 | .ref a,u=>u=Value.ref a
 | .ty n,u=>u=Value.type n
abbrev Vals:List V->List Value->Prop:=Paired RelV
theorem Vals.length (r:Vals xs us):xs.length=us.length:=Paired.length r
theorem Vals.get:∀ {xs:List V} {us:List Value} {i:Nat} {x:V},Vals xs us->xs[i]?=some x->∃ u,us[i]?=some u/\RelV x u
 | _,_,_,_,.nil,e=>by simp at e
 | _,_,0,_,.cons r _,e=>by simp at e;subst e;exact #[_,rfl,r]
 | _,_,i+1,x,.cons _ t,e=>by
  obtain ⟨u,h1,h2⟩:=Vals.get (i:=i) (x:=x) t (by simpa using e)
  exact #[u,by simpa using h1,h2]
theorem Vals.set (r:RelV x u):∀ {xs:List V} {us:List Value} (i:Nat),Vals xs us->Vals (xs.set i x) (us.set i u)
 | _,_,_,.nil=>.nil
 | _,_,0,.cons _ t=>.cons r t
 | _,_,i+1,.cons q t=>.cons q (Vals.set r i t)
theorem Vals.append:∀ {xs ys:List V} {us ws:List Value},Vals xs us->Vals ys ws->Vals (xs++ys) (us++ws)
 | _,_,_,_,.nil,s=>s
 | _,_,_,_,.cons r t,s=>.cons r (Vals.append t s)
theorem Vals.take:∀ {xs:List V} {us:List Value} (n:Nat),Vals xs us->Vals (xs.take n) (us.take n)
 | _,_,0,_=>.nil
 | _,_,_+1,.nil=>.nil
 | _,_,n+1,.cons r t=>.cons r (Vals.take n t)
theorem Vals.drop:∀ {xs:List V} {us:List Value} (n:Nat),Vals xs us->Vals (xs.drop n) (us.drop n)
 | _,_,0,r=>r
 | _,_,_+1,.nil=>.nil
 | _,_,n+1,.cons _ t=>Vals.drop n t
def RelO:Option V->Option Value->Prop
 | some v,some u=>RelV v u
 | none,none=>True
 | _,_=>False
def KV {κ:Type}:List (κ×V)->List (κ×Value)->Prop:=Paired λ(p:κ×V) (q:κ×Value)=>p.1=q.1/\RelV p.2 q.2
def kV:Key->V
 | .inl i=>.int i
 | .inr x=>.str x
inductive HO where
 | lst (xs:List V)
 | tup (xs:List V)
 | dK (kvs:List (Key×V)) | dT (kvs:List (List Key×V)) (n:Nat)
 | set (S:Int->Bool) (n:Nat)
 | ins (C dx:Addr) (fs:List (Str×V))
 | own (x:Addr)
 | xd (fs:List (Str×V))
 | met (f x:Addr)
 | rng (lo hi:Int)
 | frz (o:Obj) (u:HO)
 | tbl (ps:Array Value)
 | ext (φ:Heap->Prop)
abbrev Hp:=Addr->Option HO
def upd (H:Hp) (a:Addr) (o:HO):Hp:=λb=>if b=a then some o else H b
theorem a8:upd H a o a=some o:=by unfold upd;rw[if_pos rfl]
theorem aD (h:b≠a):upd H a o b=H b:=by unfold upd;rw[if_neg h]
theorem ne_of {H:Hp} (h:H a=some o) (h':H b=some u) (d:o≠u):a≠b:=by
 intro e;subst e;rw[h] at h';exact d (F6 h')
theorem aQ {H:Hp} (h:H a=some o) (h':H b=none):a≠b:=by
 intro e;subst e;rw[h] at h';cases h'
def DictOfE {prog:Program} {w:World} {κ:Type} [DecidableEq κ] (knd:KeyKind prog w κ) (h:Heap) (a:Addr) (kvs:List (κ×Value)):Prop :=
 ∃ o es ep,h.get? a=some o/\o.ExactDict/\o.data=.dict es ep/\KeysOf knd es/\Pairs knd es.toList kvs/\(kvs.map (·.1)).Nodup/\ep=es.size
theorem DictOfE.of [DecidableEq κ] {knd:KeyKind prog w κ} {kvs:List (κ×Value)} (x:DictOfE knd h a kvs):h.DictOf knd a kvs:=let #[o,es,ep,h1,h2,h3,d,c,b,_]:=x;#[o,es,ep,h1,h2,h3,d,c,b]
def IsTupD (h:Heap) (a:Addr) (items:Array Value):Prop:=∃ o,h.get? a=some o/\o.cls=.type "tuple"/\∃ n,(o.data,o.dict)=(Data.seq items n,none)
theorem IsTupD.tup {h:Heap} {a:Addr} {items:Array Value} (x:IsTupD h a items):IsTup h a items:=let #[o,e,c,n,d]:=x;#[o,e,c,n,congrArg Prod.fst d]
theorem IsTupD.lt (x:IsTupD h a items):a < h.objs.size:=x.tup.lt
theorem IsTupD.new (h:Heap) (items:Array Value):IsTupD (h.push { cls:=.type "tuple",data:=.seq items }) h.objs.size items:=#[_,Fs h rfl,rfl,_,rfl]
section
variable (P:Program) (w:World)
def ObjOk (H:Hp) (h:Heap) (a:Addr):HO->Prop
 | .lst xs=>xs.length<=sizeLine/\∃ (its:List Value) (n:Nat),Vals xs its/\h.get? a=some { cls:=.type "list",data:=.seq its.toArray n }
 | .tup xs=>xs.length<=sizeLine/\∃ its:List Value,Vals xs its/\IsTupD h a its.toArray
 | .dK kvs=>kvs.length<=sizeLine/\(a == sysModules)=false/\∃ c,KV kvs c/\DictOfE (aU P w) h a c
 | .dT kvs n=>kvs.length<=sizeLine/\(a == sysModules)=false/\∃ xs:List (List Key×Addr×Value),
   Paired (λ(p:List Key×V) (q:List Key×Addr×Value)=>p.1=q.1/\H q.2.1=some (.tup (p.1.map kV))/\RelV p.2 q.2.2) kvs xs /\
   ∃ o es ep,h.get? a=some o/\o.ExactDict/\o.data=.dict es ep/\es.toList=xs.map (entryOfKey (tupleKind (aU P w)))/\(xs.map (·.1)).Nodup/\es.size=ep+n
 | .set S n=>h.SetOf (intKind P w) a S n
 | .ins C dx fs=>H dx=some (.own a)/\fs.length<=1000/\dx≠a/\h.get? a=some (PySem.W.instObj C dx) /\
   ∃ b,h.Ns1 dx b/\(∀ f,RelO (fs.lookup f) (b f))/\PySem.Within b (fs.map (·.1))
 | .own _=>∃ o,h.get? a=some o
 | .xd fs=>∃ b,h.Ns1 a b/\∀ f,RelO (fs.lookup f) (b f)
 | .rng lo hi=>∃ t u v,h.get? a=some { cls:=.type "range",data:=.fields (List.toArray [.int lo t,.int hi u,.int 1 v]) }
 | .frz o u=>h.get? a=some o/\ObjOk H h a u
 | .tbl ps=>h.get? a=some { cls:=.none,data:=.fields ps }
 | .met f x=>h.get? a=some (PySem.W.methodObj (.ref f) (.ref x))
 | .ext φ=>φ h/\(∃ o,h.get? a=some o)/\∀ h1 h2:Heap,φ h1->(∀ o,h1.get? a=some o->h2.get? a=some o)->φ h2
def HOk (H:Hp) (h:Heap):Prop:=∀ a o,H a=some o->ObjOk P w H h a o
end
section
variable {P:Program} {w:World} {H H':Hp} {h h':Heap} {a:Addr} {o:HO}
theorem ObjOk.lt (x:ObjOk P w H h a o):a < h.objs.size:=by
 cases o with
 | lst xs=>obtain ⟨_,_,_,_,e⟩:=x;exact Fp e
 | tup xs=>obtain ⟨_,_,_,p⟩:=x;exact p.lt
 | dK kvs=>obtain ⟨_,_,_,_,o,_,_,e,_⟩:=x;exact Fp e
 | dT kvs n=>obtain ⟨_,_,_,_,o,_,_,e,_⟩:=x;exact Fp e
 | set S n=>obtain ⟨o,_,_,_,e,_⟩:=x;exact Fp e
 | ins C dx fs=>obtain ⟨_,_,_,e,_⟩:=x;exact Fp e
 | own y=>obtain ⟨_,e⟩:=x;exact Fp e
 | xd fs=>obtain ⟨_,⟨_,_,_,e,_⟩,_⟩:=x;exact Fp e
 | rng lo hi=>obtain ⟨_,_,_,e⟩:=x;exact Fp e
 | frz ob u=>obtain ⟨e,_⟩:=x;exact Fp e
 | tbl ps=>exact Fp (show h.get? a=some _ from x)
 | met f y=>exact Fp (show h.get? a=some _ from x)
 | ext φ=>obtain ⟨_,⟨_,e⟩,_⟩:=x;exact Fp e
theorem Paired.mapP:∀ {d:List α} {c:List β},Paired F d c->(∀ a b,F a b->G a b)->Paired G d c
 | _,_,.nil,_=>.nil
 | _,_,.cons r t,f=>.cons (f _ _ r) (Paired.mapP t f)
theorem ObjOk.stay (x:ObjOk P w H h a o) (k:∀ b u,(b=a\/H b=some (.own a))->h.get? b=some u->h'.get? b=some u)
  (m:∀ b,H b=some (.own a)->H' b=some (.own a)) (s:∀ b xs,H b=some (.tup xs)->H' b=some (.tup xs)):ObjOk P w H' h' a o:=by
 induction o with
 | lst xs=>obtain ⟨z,its,n,r,e⟩:=x;exact #[z,its,n,r,k _ _ (.inl rfl) e]
 | tup xs=>obtain ⟨z,its,r,ob,e,c⟩:=x;exact #[z,its,r,ob,k _ _ (.inl rfl) e,c]
 | dK kvs=>obtain ⟨z,y,l,r,ob,es,ep,e,c⟩:=x;exact #[z,y,l,r,ob,es,ep,k _ _ (.inl rfl) e,c]
 | dT kvs n =>
  obtain ⟨z,y,xs,r,ob,es,ep,e,c⟩:=x
  exact #[z,y,xs,Paired.mapP r λp q z=>#[z.1,s _ _ z.2.1,z.2.2],ob,es,ep,k _ _ (.inl rfl) e,c]
 | set S n=>obtain ⟨ob,es,ep,t,e,c⟩:=x;exact #[ob,es,ep,t,k _ _ (.inl rfl) e,c]
 | ins C dx fs =>
  obtain ⟨d,z,ne,e,i,⟨g,es,ep,j,c⟩,r⟩:=x
  exact #[m _ d,z,ne,k _ _ (.inl rfl) e,i,#[g,es,ep,k _ _ (.inr d) j,c],r]
 | own y=>obtain ⟨ob,e⟩:=x;exact #[ob,k _ _ (.inl rfl) e]
 | xd fs=>obtain ⟨i,⟨g,es,ep,e,c⟩,r⟩:=x;exact #[i,#[g,es,ep,k _ _ (.inl rfl) e,c],r]
 | rng lo hi=>obtain ⟨t,u,v,e⟩:=x;exact #[t,u,v,k _ _ (.inl rfl) e]
 | frz ob u ih=>obtain ⟨e,q⟩:=x;exact #[k _ _ (.inl rfl) e,ih q]
 | tbl ps =>
  have e:h.get? a=some { cls:=.none,data:=.fields ps }:=x
  show h'.get? a=some { cls:=.none,data:=.fields ps }
  exact k a _ (.inl rfl) e
 | met f y =>
  have e:h.get? a=some (PySem.W.methodObj (.ref f) (.ref y)):=x
  show h'.get? a=some (PySem.W.methodObj (.ref f) (.ref y))
  exact k a _ (.inl rfl) e
 | ext φ=>obtain ⟨p,⟨o,e⟩,st⟩:=x;exact #[st _ _ p λo q=>k _ _ (.inl rfl) q,#[o,k _ _ (.inl rfl) e],st]
theorem HOk.lt (x:HOk P w H h) (e:H a=some o):a < h.objs.size:=(x a o e).lt
theorem HOk.fresh (x:HOk P w H h) (e:h.objs.size<=a):H a=none:=by
 cases q:H a with
 | none=>rfl
 | some u=>exact absurd (FJ (x.lt q) e) (Nat.lt_irrefl _)
theorem HOk.kept (x:HOk P w H h) (k:∀ b u,h.get? b=some u->h'.get? b=some u):HOk P w H h':=λa o e =>
 (x a o e).stay (λb u _ q=>k b u q) (λ_ q=>q) λ_ _ q=>q
theorem HOk.laid (x:HOk P w H h) (k:∀ b u,h.get? b=some u->h'.get? b=some u) (g:h.objs.size<=a) (new:ObjOk P w (upd H a o) h' a o):HOk P w (upd H a o) h':=λb u e=>by
 have d:=x.fresh g
 by_cases f:b=a
 .subst f;rw[a8] at e;cases e;exact new
 .rw[aD f] at e
  exact (x b u e).stay (λc v _ q=>k c v q) (λc q=>by rw[aD (aQ q d)];exact q) λc xs q=>by rw[aD (aQ q d)];exact q
end
def Rd (H:Hp) (a:Addr) (u:HO):Prop:=H a=some u\/∃ o,H a=some (.frz o u)
theorem Rd.ok (r:Rd H a u) (x:HOk P w H h):ObjOk P w H h a u:=by
 rcases r with r | ⟨o,r⟩
 .exact x a u r
 .obtain ⟨_,q⟩:=x a _ r
  exact q
def Mut:Option HO->Prop
 | some (.lst _)=>True
 | some (.dK _)=>True
 | some (.dT _ _)=>True
 | some (.set _ _)=>True
 | some (.ins _ _ _)=>True
 | some (.ext _)=>True
 | _=>False
section
variable {P:Program} {w:World} {H:Hp} {h h':Heap} {x e:Addr} {o':HO}
theorem HOk.write (ok:HOk P w H h) (i:Mut (H x)) (he:e=x\/H e=some (.own x)) (k:∀ b u,b≠e->h.get? b=some u->h'.get? b=some u) (l:∃ u,h'.get? e=some u)
  (new:ObjOk P w (upd H x o') h' x o'):HOk P w (upd H x o') h':=λb u q=>by
 have d:∀ c y,H c=some (.own y)->c≠x:=λc y r z=>by subst z;rw[r] at i;exact i
 have f:∀ c xs,H c=some (.tup xs)->c≠x:=λc xs r z=>by subst z;rw[r] at i;exact i
 by_cases j:b=x
 .subst j;rw[a8] at q;cases q;exact new
 .rw[aD j] at q
  by_cases a:b=e
  .have m:H b=some (.own x):=by
    rcases he with z | z
    .exact absurd (a.trans z) j
    .rw[a];exact z
   rw[q] at m;cases m
   obtain ⟨v,n⟩:=l
   exact #[v,by rw[a];exact n]
  .refine (ok b u q).stay (λc v g r=>k c v ?_ r) (λc r=>by rw[aD (d c b r)];exact r) λc xs r=>by rw[aD (f c xs r)];exact r
   rcases g with rfl | g
   .exact a
   .rintro rfl
    rcases he with z | z
    .exact d c b g z
    .rw[g] at z;cases z;exact j rfl
end
structure Un (fs ex:List Addr) (H H':Hp) (h h':Heap):Prop where
 keep:∀ b o,h.get? b=some o->H b=none->b ∉ fs->b ∉ ex->h'.get? b=some o
 slot:∀ b o,h.get? b=some o->H b=none->b∈fs->b ∉ ex->∃ sl,h'.get? b=some { o with slots:=sl }
 free:∀ b o,h.get? b=some o->H b=none->b ∉ ex->H' b=none
 there:∀ b o,h.get? b=some o->b ∉ ex->∃ o',h'.get? b=some o'
 tups:∀ b xs,H b=some (.tup xs)->H' b=some (.tup xs)
 frzs:∀ b o u,H b=some (.frz o u)->H' b=some (.frz o u)
 tbls:∀ b ps,H b=some (.tbl ps)->∃ more,H' b=some (.tbl (ps++more))
section
variable {fs fs' ex ex':List Addr} {H H1 H2:Hp} {h h1 h2 h':Heap} {a x e:Addr} {o:HO}
theorem Un.any (u:Un fs ex H H1 h h1) (q:h.get? b=some ob) (n:H b=none) (c:b ∉ ex):∃ sl,h1.get? b=some { ob with slots:=sl }:=by
 by_cases a:b∈fs
 .exact u.slot b ob q n a c
 .exact #[ob.slots,u.keep b ob q n a c]
theorem Un.trans (a:Un fs ex H H1 h h1) (b:Un fs ex H1 H2 h1 h2):Un fs ex H H2 h h2 where
 keep:=λc ob q n e d=>b.keep c ob (a.keep c ob q n e d) (a.free c ob q n d) e d
 slot:=λc ob q n e d=>by
  obtain ⟨sl,e1⟩:=a.slot c ob q n e d
  obtain ⟨g,f⟩:=b.slot c _ e1 (a.free c ob q n d) e d
  exact #[g,f]
 free:=λc ob q n d=>by
  obtain ⟨o',e1⟩:=a.there c ob q d
  exact b.free c o' e1 (a.free c ob q n d) d
 there:=λc ob q d=>by
  obtain ⟨o',e1⟩:=a.there c ob q d
  exact b.there c o' e1 d
 tups:=λc xs q=>b.tups c xs (a.tups c xs q)
 frzs:=λc ob xs q=>b.frzs c ob xs (a.frzs c ob xs q)
 tbls:=λc ps q=>by
  obtain ⟨j,e1⟩:=a.tbls c ps q
  obtain ⟨i,f⟩:=b.tbls c _ e1
  exact #[j++i,by rw[f,Array.append_assoc]]
theorem Un.kept (k:∀ b u,h.get? b=some u->h'.get? b=some u):Un fs ex H H h h' :=
 #[λb ob q _ _ _=>k b ob q,λb ob q _ _ _=>#[ob.slots,k b ob q],λ_ _ _ n _=>n,λb ob q _=>#[ob,k b ob q],λ_ _ q=>q,λ_ _ _ q=>q,λ_ ps q=>#[(List.toArray []),by rw[q];simp]]
theorem Un.refl:Un fs ex H H h h:=Un.kept λ_ _ q=>q
theorem Un.laid (k:∀ b u,h.get? b=some u->h'.get? b=some u) (d:h.objs.size<=a) (c:H a=none):Un fs ex H (upd H a o) h h' where
 keep:=λb u q _ _ _=>k b u q
 slot:=λb u q _ _ _=>#[u.slots,k b u q]
 free:=λb u q n _=>by rw[aD (FD (FJ (Fp q) d))];exact n
 there:=λb u q _=>#[u,k b u q]
 tups:=λb xs q=>by rw[aD (aQ q c)];exact q
 frzs:=λb u xs q=>by rw[aD (aQ q c)];exact q
 tbls:=λb ps q=>#[(List.toArray []),by rw[aD (aQ q c),q];simp]
theorem Un.write (c:Mut (H x)) (he:e=x\/H e=some (.own x)) (k:∀ b u,b≠e->h.get? b=some u->h'.get? b=some u) (d:∃ u,h'.get? e=some u):Un fs ex H (upd H x o) h h':=by
 have g:∀ b,H b=none->b≠x:=λb n z=>by subst z;rw[n] at c;exact c
 have f:∀ b,H b=none->b≠e:=λb n z=>by
  subst z
  rcases he with r | r
  .exact g b n r
  .rw[n] at r;cases r
 have hm:∀ b u,H b=some u->¬ Mut (some u)->b≠x:=λb u q nm z=>by subst z;rw[q] at c;exact nm c
 refine ⟨λb u q n _ _=>k b u (f b n) q,λb u q n _ _=>⟨u.slots,k b u (f b n) q⟩,λb u q n _=>by rw[aD (g b n)];exact n,λb u q _=>?_,
  λb xs q=>by rw[aD (hm b _ q λz=>z)];exact q,λb u xs q=>by rw[aD (hm b _ q λz=>z)];exact q,λb ps q=>⟨(List.toArray []),by rw[aD (hm b _ q λz=>z),q];simp⟩⟩
 by_cases a:b=e
 .subst a;exact d
 .exact #[u,k b u a q]
end
def trk (h:Heap) (H:Hp):List Addr:=(List.range h.objs.size).filter λa=>(H a).isSome
def oU (h:Heap) (H:Hp):Heap:=PySem.W.hideAll h (trk h H)
theorem vD (h:Heap) (H:Hp):(oU h H).objs.size=h.objs.size:=PySem.W.hideAll_size _ _
theorem yK (e:h.get? b=some o) (n:H b=none):(oU h H).get? b=some o :=
 PySem.W.hideAll_get _ e λhm=>by
  have q:(H b).isSome=true:=(FV.mp hm).2
  rw[n] at q;simp at q
theorem A5 (e:(oU h H).get? b=some o):h.get? b=some o/\H b=none:=by
 have a:h.get? b=some o:=PySem.W.of_hideAll (trk h H) e
 refine #[a,?_]
 cases q:H b with
 | none=>rfl
 | some x =>
  have hm:b∈trk h H:=FV.mpr #[List.mem_range.mpr (Fp a),by simp[q]]
  have z:(oU h H).get? b=none:=PySem.W.hideAll_none (trk h H) hm
  rw[z] at e;cases e
def BU (g h:Heap) (L:Addr):List (Addr×Obj):=(List.range h.objs.size).filterMap λa=>if a=L\/(g.get? a).isSome=true then none else (h.get? a).map λo=>(a,o)
def de (g h:Heap) (L d:Addr):List (Addr×Obj):=(BU g h L).filter λp=>decide (p.1≠d)
end L2
namespace L2
open PySem PySem.Spec PyProof.Rows
structure Mod (K:FG) (mg:Str->Option Value) (base:Heap):Prop where
 kin:K.In base
 glob:base.Ns mainGlobals mg
 blt:∃ mb,base.Ns builtinsNs mb/\∀ x:Str,x≠"__name__"->mb x=bootBuiltins x
 nolimit:base.NoLimit
structure Cx where
 prog:Program
 w:World
 K:FG
 mg:Str->Option Value
 base:Heap
 A:Around
 N:List Str
 s₀:Shared
 H₀:Hp
 env:Env
 outer:List Env
 stack:List Env
 ex:List Addr
 fn:Str->Bool
 calm:Bool
 pn:List (Addr×Obj)
 xe:Value->Shared->Prop
def frs (l:List Env):List Addr:=l.filterMap (·.frame)
abbrev Cx.fs (X:Cx):List Addr:=frs X.outer
def Vis (sc:Scope) (x:Str):Prop:=sc.names.lookup x=some .local\/sc.names.lookup x=some .cell\/sc.names.lookup x=some .free
def Loc (sc:Scope) (x:Str):Prop:=sc.names.lookup x=some .local\/sc.names.lookup x=some .cell
def Look (env:Env) (h:Heap) (m:Str->Option Value) (x:Str) (u:Value):Prop :=
 (env.kindOf x=some .local/\m x=some u)\/((env.kindOf x=some .cell\/env.kindOf x=some .free)/\∃ c,env.cells.lookup x=some c/\h.IsCell c (some u))
structure Cx.Ok (X:Cx):Prop where
 mod:Mod X.K X.mg X.base
 kind:X.env.scope.kind=.function
 glob:X.env.globals=mainGlobals
 blt:X.env.builtins=builtinsNs
 above:X.s₀.heap.objs.size<=X.env.locals
 inj:∀ x y c,X.env.cells.lookup x=some c->X.env.cells.lookup y=some c->x=y
 has:∀ x,(X.env.kindOf x=some .cell\/X.env.kindOf x=some .free)->∃ c,X.env.cells.lookup x=some c
 cab:∀ x c,X.fn x=true->X.env.cells.lookup x=some c->X.s₀.heap.objs.size<=c
 hd:X.calm=true->X.A.handled=none
 frames:X.A.frames=some X.stack
 stk:X.stack=X.outer\/(X.stack=X.env::X.outer/\X.env.frame=some X.env.locals)
 exf:∀ b∈X.ex,b≠X.env.locals/\∀ x c,X.env.cells.lookup x=some c->c≠b
 bs:∀ b o,X.base.get? b=some o->X.s₀.heap.get? b=some o/\X.H₀ b=none
 bsz:X.base.objs.size<=X.s₀.heap.objs.size
 noex:∀ b o,X.base.get? b=some o->b ∉ X.ex
 exfs:∀ b∈X.ex,b ∉ X.fs
 funs:X.s₀.heap.FunFrames X.base X.outer
 frf:∀ b∈X.fs,X.H₀ b=none
structure Inv (X:Cx) (pins:List (Addr×Obj)) (Y:List (Option V)) (H:Hp) (s:Shared):Prop where
 ok:X.Ok
 os:s.os=X.s₀.os
 bare:AllBare s.gens
 base:Un X.fs X.ex X.H₀ H X.s₀.heap s.heap
 loc:∃ m,s.heap.Ns X.env.locals m/\∀ (i:Nat) (x:Str) (v:V),X.N[i]?=some x->Y[i]?=some (some v)->Vis X.env.scope x->∃ u,RelV v u/\Look X.env s.heap m x u
 cell:∀ x c,X.env.cells.lookup x=some c->∃ v,s.heap.IsCell c v
 free:H X.env.locals=none
 freeC:∀ x c,X.env.cells.lookup x=some c->H c=none
 pin:∀ p∈X.pn++pins,s.heap.get? p.1=some p.2/\H p.1=none/\p.1≠X.env.locals/\p.1 ∉ X.fs/\∀ v,p.2.data≠.cell v
 hok:HOk X.prog X.w H s.heap
 len:Y.length=X.N.length
section
variable {X:Cx} {pins:List (Addr×Obj)} {Y:List (Option V)} {H H':Hp} {s:Shared} {h':Heap}
theorem Cx.Ok.nofr (ok:X.Ok) (e:X.base.get? b=some o):b ∉ X.fs:=λa=>by
 have:=(ok.funs.mem a).1
 rw[e] at this;cases this
theorem Inv.bs (I:Inv X pins Y H s):∀ b o,X.base.get? b=some o->s.heap.get? b=some o/\H b=none:=λb o e =>
 #[I.base.keep b o (I.ok.bs b o e).1 (I.ok.bs b o e).2 (I.ok.nofr e) (I.ok.noex b o e),I.base.free b o (I.ok.bs b o e).1 (I.ok.bs b o e).2 (I.ok.noex b o e)]
theorem Inv.bk (I:Inv X pins Y H s):∀ b o,X.base.get? b=some o->s.heap.get? b=some o:=λb o e=>(I.bs b o e).1
theorem Inv.mod (I:Inv X pins Y H s):Mod X.K X.mg X.base:=I.ok.mod
theorem Inv.kIn (I:Inv X pins Y H s):X.K.In s.heap:=I.ok.mod.kin.keeps I.bk
theorem Inv.lt (I:Inv X pins Y H s):X.env.locals < s.heap.objs.size:=let #[_,a,_]:=I.loc;a.lt
theorem Inv.sz (I:Inv X pins Y H s):X.s₀.heap.objs.size<=s.heap.objs.size:=FZ I.ok.above (Nat.le_of_lt I.lt)
theorem Inv.nofs (I:Inv X pins Y H s) (h:s.heap.objs.size<=a):a ∉ X.fs:=λc=>by
 obtain ⟨_,o,b,_⟩:=I.ok.funs.mem c
 exact absurd (FJ (Fp b) (FZ I.sz h)) (Nat.lt_irrefl _)
theorem Inv.cne (I:Inv X pins Y H s):∀ x c,X.env.cells.lookup x=some c->c≠X.env.locals:=λx c e z=>by
 obtain ⟨v,o,d,hd⟩:=I.cell x c e
 obtain ⟨m,⟨o',es,ep,a,b,_⟩,_⟩:=I.loc
 rw[z,a] at d;cases d;rw[b] at hd;cases hd
theorem Inv.funs (I:Inv X pins Y H s):s.heap.FunFrames X.base X.outer:=by
 have all:∀ (l:List Env),(∀ b∈frs l,b∈X.fs)->X.s₀.heap.FunFrames X.base l->s.heap.FunFrames X.base l:=by
  intro l
  induction l with
  | nil=>intro _ _;trivial
  | cons env r ih =>
   intro d h
   obtain ⟨j,⟨L,o,hf,f,i,hd⟩,g⟩:=h
   have a:L∈X.fs:=d L (by unfold frs;rw[List.filterMap_cons,hf];exact Fe)
   obtain ⟨sl,e⟩:=I.base.slot L o i (I.ok.frf L a) a λz=>I.ok.exfs L z a
   exact #[j,#[L,_,hf,f,e,hd],ih (λb c=>d b (by unfold frs;rw[List.filterMap_cons,hf];exact Ff _ c)) g]
 exact all X.outer (λ_ c=>c) I.ok.funs
theorem Inv.stack (I:Inv X pins Y H s):s.heap.FunFrames X.base X.stack:=by
 rcases I.ok.stk with e | ⟨e,hf⟩
 .rw[e];exact I.funs
 .rw[e]
  obtain ⟨m,a,_⟩:=I.loc
  refine .cons (by rw[I.ok.kind];decide) hf a ?_ I.funs
  exact Heap.get?_none_of_le (FZ I.ok.bsz I.ok.above)
theorem Inv.stkSub (I:Inv X pins Y H s):∀ b∈frs X.stack,b∈X.env.locals::X.fs:=λb a=>by
 rcases I.ok.stk with e | ⟨e,hf⟩
 .rw[e] at a;exact Ff _ a
 .rw[e] at a
  unfold frs at a
  rw[List.filterMap_cons,hf] at a
  exact a
theorem Inv.stkFree (I:Inv X pins Y H s):∀ b∈frs X.stack,H b=none:=λb a=>by
 rcases Fm.mp (I.stkSub b a) with e | a
 .rw[e];exact I.free
 .obtain ⟨_,o,c,_⟩:=I.ok.funs.mem a
  exact I.base.free b o c (I.ok.frf b a) λz=>I.ok.exfs b z a
theorem Inv.step {t':Nat} {ch:List Addr} (I:Inv X pins Y H s) (g:∀ b∈ch,(b∈X.ex\/X.s₀.heap.objs.size<=b)/\b≠X.env.locals/\(∀ x c,X.env.cells.lookup x=some c->c≠b)/\∀ p∈X.pn++pins,p.1≠b) (keep:∀ b o,b≠X.env.locals->b ∉ X.fs->b ∉ ch->s.heap.get? b=some o->H b=none->h'.get? b=some o) (slot:∀ b o,b≠X.env.locals->b∈X.fs->b ∉ ch->s.heap.get? b=some o->H b=none->∃ sl,h'.get? b=some { o with slots:=sl }) (free:∀ b o,b ∉ ch->s.heap.get? b=some o->H b=none->H' b=none) (there:∀ b o,b ∉ ch->s.heap.get? b=some o->∃ o',h'.get? b=some o') (tups:∀ b xs,H b=some (.tup xs)->H' b=some (.tup xs)) (frzs:∀ b o u,H b=some (.frz o u)->H' b=some (.frz o u)) (tbls:∀ b ps,H b=some (.tbl ps)->∃ more,H' b=some (.tbl (ps++more))) (ns:∀ m,s.heap.Ns X.env.locals m->h'.Ns X.env.locals m) (hok:HOk X.prog X.w H' h') (M:AllBare g') :
  Inv X pins Y H' { s with heap:=h',gens:=g',drawn:=d',toks:=t' }:=by
 have A:∀ b o,X.s₀.heap.get? b=some o->b≠X.env.locals:=λb o e=>FD (FJ (Fp e) I.ok.above)
 have h:∀ b o,X.s₀.heap.get? b=some o->b ∉ X.ex->b ∉ ch:=λb o e a j=>by
  rcases (g b j).1 with z | z
  .exact a z
  .exact absurd (FJ (Fp e) z) (Nat.lt_irrefl _)
 have cellK:∀ x c,X.env.cells.lookup x=some c->∀ v,s.heap.IsCell c v->h'.IsCell c v:=λx c e v #[o,t,hd]=>by
  have f:c ∉ ch:=λz=>(g c z).2.2.1 x c e rfl
  by_cases E:c∈X.fs
  .obtain ⟨sl,q⟩:=slot c o (I.cne x c e) E f t (I.freeC x c e)
   exact #[_,q,hd]
  .exact #[o,keep c o (I.cne x c e) E f t (I.freeC x c e),hd]
 refine #[I.ok,I.os,M,#[λb o e n j a=>?_,λb o e n j a=>?_,λb o e n a=>?_,λb o e a=>?_,λb xs e=>tups b xs (I.base.tups b xs e),λb o xs e=>frzs b o xs (I.base.frzs b o xs e),λb ps e=>?_],?_,λx c e=>?_,?_,λx c e=>?_,λp C=>?_,hok,I.len]
 .exact keep b o (A b o e) j (h b o e a) (I.base.keep b o e n j a) (I.base.free b o e n a)
 .obtain ⟨sl,e1⟩:=I.base.slot b o e n j a
  obtain ⟨B,y⟩:=slot b _ (A b o e) j (h b o e a) e1 (I.base.free b o e n a)
  exact #[B,y]
 .obtain ⟨o',e1⟩:=I.base.there b o e a
  exact free b o' (h b o e a) e1 (I.base.free b o e n a)
 .obtain ⟨o',e1⟩:=I.base.there b o e a
  exact there b o' (h b o e a) e1
 .obtain ⟨K,e1⟩:=I.base.tbls b ps e
  obtain ⟨F,y⟩:=tbls b _ e1
  exact #[K++F,by rw[y,Array.append_assoc]]
 .obtain ⟨m,J,L⟩:=I.loc
  refine #[m,ns m J,λi x v e1 y G=>?_]
  obtain ⟨u,r,l⟩:=L i x v e1 y G
  refine #[u,r,?_]
  rcases l with l | ⟨k,c,e,z⟩
  .exact .inl l
  .exact .inr #[k,c,e,cellK x c e _ z]
 .obtain ⟨v,z⟩:=I.cell x c e
  exact #[v,cellK x c e v z]
 .obtain ⟨m,⟨o,_,_,t,_⟩,_⟩:=I.loc
  exact free _ o (λz=>(g _ z).2.1 rfl) t I.free
 .obtain ⟨v,o,t,hd⟩:=I.cell x c e
  exact free c o (λz=>(g c z).2.2.1 x c e rfl) t (I.freeC x c e)
 .obtain ⟨e,n,ne,D,d⟩:=I.pin p C
  have f:p.1 ∉ ch:=λz=>(g p.1 z).2.2.2 p C rfl
  exact #[keep p.1 p.2 ne D f e n,free p.1 p.2 f e n,ne,D,d]
theorem Inv.un {t':Nat} (I:Inv X pins Y H s) (u:Un X.fs [] H H' s.heap h') (hok:HOk X.prog X.w H' h'):Inv X pins Y H' { s with heap:=h',toks:=t' }:=by
 obtain ⟨m,⟨o,es,ep,g,r⟩,_⟩:=id I.loc
 obtain ⟨sl,h⟩:=u.any g I.free (by simp)
 exact I.step (g':=s.gens) (d':=s.drawn) (ch:=[]) (λ_ z=>nomatch z) (λb o _ d _ e n=>u.keep b o e n d (by simp)) (λb o _ d _ e n=>u.slot b o e n d (by simp)) (λb o _ e n=>u.free b o e n (by simp)) (λb o _ e=>u.there b o e (by simp)) u.tups u.frzs u.tbls (λj hm=>by
  obtain ⟨o',c,f,a,i⟩:=hm
  rw[g] at a;cases a
  exact #[_,c,f,h,i]) hok I.bare
theorem Inv.call {t':Nat} (I:Inv X pins Y H s) (u:Un (frs X.stack) ch H H' s.heap h') (hok:HOk X.prog X.w H' h') (q:AllBare g') (f:∀ b∈ch,(b∈X.ex\/X.s₀.heap.objs.size<=b)/\b≠X.env.locals/\(∀ x c,X.env.cells.lookup x=some c->c≠b)/\∀ p∈X.pn++pins,p.1≠b) :
  Inv X pins Y H' { s with heap:=h',gens:=g',drawn:=d',toks:=t' }:=by
 obtain ⟨m,⟨o,es,ep,j,r⟩,_⟩:=id I.loc
 obtain ⟨sl,h⟩:=u.any j I.free λz=>(f _ z).2.1 rfl
 exact I.step (ch:=ch) f (λb o h l a e n=>u.keep b o e n (λz=>(Fm.mp (I.stkSub b z)).elim h l) a) (λb o _ _ a e n=>u.any e n a) (λb o a e n=>u.free b o e n a) (λb o a e=>u.there b o e a) u.tups u.frzs u.tbls (λt hm=>by
  obtain ⟨o',g,i,d,k⟩:=hm
  rw[j] at d;cases d
  exact #[_,g,i,h,k]) hok q
theorem Inv.turned {t':Nat} (I:Inv X pins Y H s) (k:∀ b o,b≠it->s.heap.get? b=some o->h'.get? b=some o) (g:H it=none) (f:it≠X.env.locals) (h1:it∈X.ex\/X.s₀.heap.objs.size<=it) (h2:∀ x c,X.env.cells.lookup x=some c->c≠it) (h3:∀ p∈X.pn++pins,p.1≠it):Inv X pins Y H { s with heap:=h',toks:=t' }:=by
 have d:∀ b u,H b=some u->b≠it:=λb u e z=>by rw[z,g] at e;cases e
 refine I.step (g':=s.gens) (d':=s.drawn) (ch:=[it]) (λb h=>?_) (λb o _ _ a e _=>k b o (λz=>a (by simp[z])) e) (λb o _ _ a e _=>#[o.slots,k b o (λz=>a (by simp[z])) e]) (λ_ _ _ _ n=>n)
  (λb o a e=>#[o,k b o (λz=>a (by simp[z])) e]) (λ_ _ e=>e) (λ_ _ _ e=>e) (λb ps e=>#[(List.toArray []),by rw[e];simp]) (λm hm=>?_) (λb u e=>?_) I.bare
 .have e:b=it:=by simpa using h
  subst e
  exact #[h1,f,h2,h3]
 .obtain ⟨o,es,ep,i,r⟩:=hm
  exact #[o,es,ep,k _ o (Ne.symm f) i,r]
 .refine (I.hok b u e).stay (λc v a q=>k c v ?_ q) (λ_ q=>q) λ_ _ q=>q
  rcases a with z | z
  .rw[z];exact d b u e
  .exact d c _ z
theorem Inv.tok (I:Inv X pins Y H s) (t:Nat):Inv X pins Y H { s with toks:=t }:=I.un (h':=s.heap) (t':=t) Un.refl I.hok
theorem Inv.kept {t':Nat} (I:Inv X pins Y H s) (k:∀ b u,s.heap.get? b=some u->h'.get? b=some u):Inv X pins Y H { s with heap:=h',toks:=t' }:=I.un (Un.kept k) (I.hok.kept k)
theorem Inv.laid {t':Nat} (I:Inv X pins Y H s) (k:∀ b u,s.heap.get? b=some u->h'.get? b=some u) (c:s.heap.objs.size<=a) (new:ObjOk X.prog X.w (upd H a o) h' a o) :
  Inv X pins Y (upd H a o) { s with heap:=h',toks:=t' }:=I.un (Un.laid k c (I.hok.fresh c)) (I.hok.laid k c new)
theorem Inv.write {t':Nat} (I:Inv X pins Y H s) (c:Mut (H x)) (he:e=x\/H e=some (.own x)) (k:∀ b u,b≠e->s.heap.get? b=some u->h'.get? b=some u) (a:∃ u,h'.get? e=some u) (new:ObjOk X.prog X.w (upd H x o) h' x o):Inv X pins Y (upd H x o) { s with heap:=h',toks:=t' }:=I.un (Un.write c he k a) (I.hok.write c he k a new)
theorem Inv.pins_of (I:Inv X pins Y H s) (h:∀ p∈pins',s.heap.get? p.1=some p.2/\H p.1=none/\p.1≠X.env.locals/\p.1 ∉ X.fs/\∀ v,p.2.data≠.cell v):Inv X pins' Y H s :=
 #[I.ok,I.os,I.bare,I.base,I.loc,I.cell,I.free,I.freeC,λp a=>(Fq.mp a).elim (λz=>I.pin p (Fi _ z)) (h p),I.hok,I.len]
theorem pU {N:List Str} (d:N.Nodup) {i j:Nat} (a:N[i]?=some x) (b:N[j]?=some x):i=j:=by
 obtain ⟨h1,e1⟩:=Fu.mp a
 obtain ⟨h2,c⟩:=Fu.mp b
 exact (List.getElem_inj d).mp (e1.trans c.symm)
theorem m9 {i:Nat} (I:Inv X pins Y H s) (hN:X.N.Nodup) (hi:X.N[i]?=some x) (t:Loc X.env.scope x) (r:RelV v u) (h:∀ s',Inv X pins (Y.set i (some v)) H s'->(∃ a,Heap.SameBut a s.heap s'.heap/\(a=X.env.locals\/X.env.cells.lookup x=some a))->Q () s') (hf:X.fn x=true\/X.env.scope.names.lookup x=some .local:=by first | exact .inl rfl | exact .inr rfl | assumption):wpAny M A (storeName X.env x u) Q E s:=by
 obtain ⟨m,W,hl⟩:=id I.loc
 have K:(X.env.scope.kind == .class || (X.env.scope.kind == .module && X.env.locals != X.env.globals))=false:=by rw[I.ok.kind];rfl
 have hiσ:i < Y.length:=by rw[I.len];exact (Fu.mp hi).1
 have cne:=I.cne
 have g:∀ {a:Addr} {h':Heap},(∃ o,s.heap.get? a=some o/\H a=none)->Heap.SameBut a s.heap h'->HOk X.prog X.w H h':=λ{a h'} ha f b ob e=>by
  obtain ⟨_,_,B⟩:=ha
  refine (I.hok b ob e).stay (λc S l q=>(f.2 c ?_).trans q) (λ_ q=>q) λ_ _ q=>q
  rintro rfl
  rcases l with rfl | l
  .rw[B] at e;cases e
  .rw[B] at l;cases l
 rcases t with D | D
 .refine wpAny_storeName_local D W (λh' σ f=>?_) K
  obtain ⟨oL,_,_,ar,_⟩:=id W
  refine h _ #[I.ok,I.os,I.bare,#[λb o e n J t=>?_,λb o e n J t=>?_,I.base.free,λb o e t=>?_,I.base.tups,I.base.frzs,I.base.tbls],#[_,σ,λj y ρ e1 C V=>?_],λy c e=>?_,I.free,I.freeC,λp hp=>?_,g #[oL,ar,I.free] f,by simpa using I.len] #[_,f,.inl rfl]
  .exact (f.2 b (FD (FJ (Fp e) I.ok.above))).trans (I.base.keep b o e n J t)
  .obtain ⟨sl,e1⟩:=I.base.slot b o e n J t
   exact #[sl,(f.2 b (FD (FJ (Fp e) I.ok.above))).trans e1]
  .obtain ⟨o',e1⟩:=I.base.there b o e t
   exact #[o',(f.2 b (FD (FJ (Fp e) I.ok.above))).trans e1]
  .by_cases G:j=i
   .subst G
    rw[hi] at e1;cases e1
    rw[List.getElem?_set_self hiσ] at C
    cases C
    exact #[u,r,.inl #[D,by simp]]
   .rw[List.getElem?_set_ne (Ne.symm G)] at C
    obtain ⟨τ,r',q⟩:=hl j y ρ e1 C V
    refine #[τ,r',?_]
    rcases q with ⟨k,e⟩ | ⟨k,c,e,z⟩
    .refine .inl #[k,?_]
     have:y≠x:=λe=>G (pU hN e1 (e ▸ hi))
     simp[this,e]
    .exact .inr #[k,c,e,z.sameBut f (cne y c e)]
  .obtain ⟨S,z⟩:=I.cell y c e
   exact #[S,z.sameBut f (cne y c e)]
  .obtain ⟨e,n,ne,nf,d⟩:=I.pin p hp
   exact #[(f.2 p.1 ne).trans e,n,ne,nf,d]
 .have F:X.fn x=true:=by
   rcases hf with z | z
   .exact z
   .rw[z] at D;cases D
  obtain ⟨c,l⟩:=I.ok.has x (.inl D)
  obtain ⟨S,z⟩:=I.cell x c l
  refine wpAny_storeName_cell I.ok.kind D l z (λh' R f=>?_)
  obtain ⟨oc,O,L⟩:=id z
  refine h { s with heap:=h' } #[I.ok,I.os,I.bare,#[λb o e n J t=>?_,λb o e n J t=>?_,I.base.free,λb o e t=>?_,I.base.tups,I.base.frzs,I.base.tbls],#[m,W.sameBut f (Ne.symm (cne x c l)),λj y ρ e1 C V=>?_],λy T e=>?_,I.free,I.freeC,λp hp=>?_,g #[oc,O,I.freeC x c l] f,by simpa using I.len] #[c,f,.inr l]
  .exact (f.2 b (FD (FJ (Fp e) (I.ok.cab x c F l)))).trans (I.base.keep b o e n J t)
  .obtain ⟨sl,e1⟩:=I.base.slot b o e n J t
   exact #[sl,(f.2 b (FD (FJ (Fp e) (I.ok.cab x c F l)))).trans e1]
  .obtain ⟨o',e1⟩:=I.base.there b o e t
   exact #[o',(f.2 b (FD (FJ (Fp e) (I.ok.cab x c F l)))).trans e1]
  .by_cases G:j=i
   .subst G
    rw[hi] at e1;cases e1
    rw[List.getElem?_set_self hiσ] at C
    cases C
    exact #[u,r,.inr #[.inl D,c,l,R]]
   .rw[List.getElem?_set_ne (Ne.symm G)] at C
    obtain ⟨τ,r',q⟩:=hl j y ρ e1 C V
    refine #[τ,r',?_]
    rcases q with q | ⟨k,T,e,z'⟩
    .exact .inl q
    .refine .inr #[k,T,e,z'.sameBut f ?_]
     rintro rfl
     exact G (pU hN e1 (I.ok.inj _ _ _ e l ▸ hi))
  .by_cases P:T=c
   .subst P;exact #[_,R]
   .obtain ⟨w2,z2⟩:=I.cell y T e
    exact #[w2,z2.sameBut f P]
  .obtain ⟨e,n,ne,nf,d⟩:=I.pin p hp
   refine #[(f.2 p.1 ?_).trans e,n,ne,nf,d]
   intro q
   rw[q,O] at e
   have q':oc=p.2:=F6 e
   exact d S (by rw[<- q'];exact L)
theorem jh {i:Nat} (I:Inv X pins Y H s) (b:X.N.Nodup) (hi:X.N[i]?=some x) (c:Loc X.env.scope x) (r:RelV v u) (h:∀ s',Inv X pins (Y.set i (some v)) H s'->Q () s') (hf:X.fn x=true\/X.env.scope.names.lookup x=some .local:=by first | exact .inl rfl | exact .inr rfl | assumption):wpAny M A (storeName X.env x u) Q E s :=
 m9 I b hi c r (λs' a _=>h s' a) hf
theorem Inv.call' (I:Inv X pins Y H s) (f:s'.os=s.os) (u:Un (frs X.stack) ch H H' s.heap s'.heap) (hok:HOk X.prog X.w H' s'.heap) (d:AllBare s'.gens) (a:∀ b∈ch,(b∈X.ex\/X.s₀.heap.objs.size<=b)/\b≠X.env.locals/\(∀ x c,X.env.cells.lookup x=some c->c≠b)/\∀ p∈X.pn++pins,p.1≠b):Inv X pins Y H' s':=by
 obtain ⟨h',g',d',t',o'⟩:=s'
 have e:o'=s.os:=f
 subst e
 exact I.call (g':=g') (t':=t') (d':=d') u hok d a
end
abbrev XK:=Value->Option Addr->Hp->Prop
abbrev St:=List (Option V)
abbrev VK:=V->Hp->Prop
abbrev TE:=St->Hp->VK->Prop
abbrev TT:=St->Hp->(Bool->Hp->Prop)->Prop
abbrev TA:=St->Hp->(List V->Hp->Prop)->Prop
structure Ends where
 nx:St->Hp->Prop
 rt:VK
 bk:St->Hp->Prop:=λ_ _=>False
 ct:St->Hp->Prop:=λ_ _=>False
abbrev TS:=Ends->St->Hp->Prop
def EP (X:Cx) (pins:List (Addr×Obj)) (Y:St) (Q:VK) (u:Value) (s':Shared):Prop:=∃ v H',Inv X pins Y H' s'/\RelV v u/\Q v H'
def TP (X:Cx) (pins:List (Addr×Obj)) (Y:St) (Q:Bool->Hp->Prop) (b:Bool) (s':Shared):Prop:=∃ H',Inv X pins Y H' s'/\Q b H'
def AP (X:Cx) (pins:List (Addr×Obj)) (Y:St) (Q:List V->Hp->Prop) (us:List Value) (s':Shared):Prop:=∃ a H',Inv X pins Y H' s'/\Vals a us/\Q a H'
def SP (X:Cx) (pins:List (Addr×Obj)) (D:Ends) (f:Flow) (s':Shared):Prop :=
 match f with
 | .next=>∃ Y' H',Inv X pins Y' H' s'/\D.nx Y' H'
 | .brk=>∃ Y' H',Inv X pins Y' H' s'/\D.bk Y' H'
 | .cont=>∃ Y' H',Inv X pins Y' H' s'/\D.ct Y' H'
 | .ret u=>∃ v Y' H',Inv X pins Y' H' s'/\RelV v u/\D.rt v H'
def PE (X:Cx) (e:Expr) (t:TE):Prop :=
 ∀ (pins:List (Addr×Obj)) (s:Shared) (Y:St) (H:Hp) (Q:VK),Inv X pins Y H s->t Y H Q->wpAny (model X.prog X.w) X.A (eval e X.env) (EP X pins Y Q) X.xe s
def PT (X:Cx) (e:Expr) (t:TT):Prop :=
 ∀ (pins:List (Addr×Obj)) (s:Shared) (Y:St) (H:Hp) (Q:Bool->Hp->Prop),Inv X pins Y H s->t Y H Q->wpAny (model X.prog X.w) X.A (isTrue e X.env (eval e X.env)) (TP X pins Y Q) X.xe s
def PW (X:Cx) (e:Expr) (t:TT):Prop :=
 ∀ (whole:Sem Value) (pins:List (Addr×Obj)) (s:Shared) (Y:St) (H:Hp) (Q:Bool->Hp->Prop),Inv X pins Y H s->t Y H Q->wpAny (model X.prog X.w) X.A (isTrue e X.env whole) (TP X pins Y Q) X.xe s
theorem PW.pt (h:PW X e t):PT X e t:=h _
def PA (X:Cx) (es:List Expr) (t:TA):Prop :=
 ∀ (pos:Pos) (pins:List (Addr×Obj)) (s:Shared) (Y:St) (H:Hp) (Q:List V->Hp->Prop),Inv X pins Y H s->t Y H Q->wpAny (model X.prog X.w) X.A (spliced (backTo pos (starEach es X.env))) (AP X pins Y Q) X.xe s
def PS (X:Cx) (st:Stmt) (t:TS):Prop :=
 ∀ (pins:List (Addr×Obj)) (s:Shared) (Y:St) (H:Hp) (D:Ends),Inv X pins Y H s->t D Y H->wpAny (model X.prog X.w) X.A (exec st X.env) (SP X pins D) X.xe s
def PSs (X:Cx) (st:List Stmt) (t:TS):Prop :=
 ∀ (pins:List (Addr×Obj)) (s:Shared) (Y:St) (H:Hp) (D:Ends),Inv X pins Y H s->t D Y H->wpAny (model X.prog X.w) X.A (execs st X.env) (SP X pins D) X.xe s
theorem thn (h:wpAny M A t Q E s) (b:∀ a s,Q a s->Q' a s):wpAny M A t Q' E s:=wpAny_mono h b λ_ _ x=>x
end L2
namespace L2
open PySem PySem.Spec PyProof.Rows
section
variable {X:Cx}
theorem bin (l:PE X a ta) (m:PE X b tb) {R:V->V->Hp->Prop} (I:Inv X pins Y H s) (h:ta Y H λx H1=>tb Y H1 λy H2=>R x y H2) {Q:α->Shared->Prop} {f:Value->Value->Sem α} (hf:∀ v u s2 x y H2,Inv X pins Y H2 s2->RelV x v->RelV y u->R x y H2->wpAny (model X.prog X.w) X.A (f v u) Q X.xe s2) :
  wpAny (model X.prog X.w) X.A (eval a X.env) (λv k=>wpAny (model X.prog X.w) X.A (eval b X.env) (λu n=>wpAny (model X.prog X.w) X.A (f v u) Q X.xe n) X.xe k) X.xe s:=by
 refine thn (l pins s Y H _ I h) λv s1 #[x,H1,g,i,c]=>?_
 refine thn (m pins s1 Y H1 _ g c) λu s2 #[y,H2,e,d,j]=>?_
 exact hf v u s2 x y H2 e i d j
def uM (i:Nat):TE:=λY H Q=>∃ v,Y[i]?=some (some v)/\Q v H
def tC (v:V):TE:=λ_ H Q=>Q v H
theorem lO {i:Nat} (n:X.N[i]?=some x) (g:Vis X.env.scope x) (hd:(x == ("__debug__":Str))=false:=by decide) (d:(x == ("__classdict__":Str))=false:=by decide):PE X (.Name x pos) (uM i):=by
 intro pins s Y H Q I h
 obtain ⟨v,e,h⟩:=h
 obtain ⟨m,j,k⟩:=I.loc
 obtain ⟨u,r,l⟩:=k i x v n e g
 have fin:EP X pins Y Q u s:=#[v,H,I,r,h]
 rcases l with ⟨b,hm⟩ | ⟨b,c,f,a⟩
 .exact wpAny_Name (wpAny_loadName_local I.ok.kind b j hm fin) hd
 .rcases b with b | b
  .exact wpAny_Name (wpAny_loadName_cell I.ok.kind b f a fin) hd
  .exact wpAny_Name (wpAny_loadName_free I.ok.kind b f a fin d) hd
theorem DU:PE X (.Constant (.int i) j pos) (tC (.int i)):=λ_ _ _ H _ I h=>wpAny_Constant_int #[.int i,H,I.tok _,#[_,rfl],h]
theorem pe_bl:PE X (.Constant (.bool b) j pos) (tC (.bl b)):=λ_ _ _ H _ I h=>Constant_bool #[.bl b,H,I,rfl,h]
theorem DR:PE X (.Constant .none j pos) (tC .non):=λ_ _ _ H _ I h=>Constant_none #[.non,H,I,rfl,h]
def Gl (X:Cx) (x:Str):Prop:=X.env.kindOf x=some .globalImplicit
theorem tY (I:Inv X pins Y H s) (a:Gl X x) (hm:X.mg x=some u) (h:Q u s) (hd:(x == ("__debug__":Str))=false:=by decide):wpAny (model X.prog X.w) X.A (eval (.Name x pos) X.env) Q E s :=
 Calls.Name_function_global I.ok.kind a (Calls.loadGlobal_global (by rw[I.ok.glob];exact I.mod.glob.keeps I.bk) hm h) hd
theorem fW (I:Inv X pins Y H s) (a:Gl X x) (hm:X.mg x=none) (b:bootBuiltins x=some u) (h:Q u s) (c:x≠"__name__":=by decide) (hd:(x == ("__debug__":Str))=false:=by decide):wpAny (model X.prog X.w) X.A (eval (.Name x pos) X.env) Q E s:=by
 obtain ⟨mb,h1,h2⟩:=I.mod.blt
 exact Calls.Name_function_global I.ok.kind a (Calls.loadGlobal_builtin (by rw[I.ok.glob];exact I.mod.glob.keeps I.bk) hm (by rw[I.ok.blt];exact h1.keeps I.bk) ((h2 x c).trans b) h) hd
theorem AV (a:Gl X x) (hm:X.mg x=some u) (r:RelV v u) (hd:(x == ("__debug__":Str))=false:=by decide):PE X (.Name x pos) (tC v) :=
 λ_ _ _ H _ I h=>tY I a hm #[v,H,I,r,h] hd
theorem k7 (c:Gl X x) (hm:X.mg x=none) (a:bootBuiltins x=some u) (r:RelV v u) (b:x≠"__name__":=by decide) (hd:(x == ("__debug__":Str))=false:=by decide):PE X (.Name x pos) (tC v) :=
 λ_ _ _ H _ I h=>fW I c hm a #[v,H,I,r,h] b hd
variable {a b:Expr} {ta tb:TE} {pos:Pos}
def PC (X:Cx) (op:CmpOp) (a b:Expr) (t:TE):Prop :=
 ∀ (pins:List (Addr×Obj)) (s:Shared) (Y:St) (H:Hp) (Q:VK),Inv X pins Y H s->t Y H Q ->
  wpAny (model X.prog X.w) X.A (eval a X.env) (λv c=>wpAny (model X.prog X.w) X.A (eval b X.env) (λu d=>wpAny (model X.prog X.w) X.A (compareOp op v u) (EP X pins Y Q) X.xe d) X.xe c) X.xe s
def tB (t:TE):TT:=λY H Q=>t Y H λx H1=>∃ c,x=.bl c/\Q c H1
theorem DG (h:PE X e t) (he:∀ whole,isTrue e X.env whole=(do let v <- whole;standAt e.pos;holding [v] (truthy v)):=by intro _;rfl):PT X e (tB t):=by
 intro pins s Y H Q I hw
 refine isTrue_plain (thn (h pins s Y H _ I hw) λv s1 #[x,H1,b,c,a]=>?_) (he _)
 obtain ⟨d,rfl,q⟩:=a
 cases c
 exact FY #[H1,b,q]
variable {tA tB':TT} {de:List Expr}
def tAnd (t u:TT):TT:=λY H Q=>t Y H λc H1=>if c=true then u Y H1 Q else Q false H1
def tOr (t u:TT):TT:=λY H Q=>t Y H λc H1=>if c=true then Q true H1 else u Y H1 Q
def tNot (t:TT):TT:=λY H Q=>t Y H λc H1=>Q (!c) H1
theorem AD (b:PT X a tA):PW X (.BoolOp .And [a] pos) tA:=by
 intro d pins s Y H Q I h
 refine isTrue_and (thn (b pins s Y H Q I h) λc s1 e=>?_)
 cases c with
 | true=>exact isTrue_and_nil e
 | false=>exact e
theorem DD (b:PT X a tA):PW X (.BoolOp .Or [a] pos) tA:=by
 intro d pins s Y H Q I h
 refine isTrue_or (thn (b pins s Y H Q I h) λc s1 e=>?_)
 cases c with
 | false=>exact isTrue_or_nil e
 | true=>exact e
theorem DE (f:PT X a tA) (g:PW X (.BoolOp .And (b::de) pos) tB'):PW X (.BoolOp .And (a::b::de) pos) (tAnd tA tB'):=by
 intro i pins s Y H Q I h
 refine isTrue_and (thn (f pins s Y H _ I h) λc s1 #[H1,e,d]=>?_)
 cases c with
 | true=>exact g i pins s1 Y H1 Q e d
 | false=>exact #[H1,e,d]
theorem pw_or (f:PT X a tA) (g:PW X (.BoolOp .Or (b::de) pos) tB'):PW X (.BoolOp .Or (a::b::de) pos) (tOr tA tB'):=by
 intro i pins s Y H Q I h
 refine isTrue_or (thn (f pins s Y H _ I h) λc s1 #[H1,e,d]=>?_)
 cases c with
 | true=>exact #[H1,e,d]
 | false=>exact g i pins s1 Y H1 Q e d
theorem DH (b:PT X a tA):PT X (.UnaryOp .Not a pos) (tNot tA):=by
 intro pins s Y H Q I h
 exact isTrue_not (b pins s Y H (λc H1=>Q (!c) H1) I h)
def B5 (ta tb:TE):TE:=λY H Q=>ta Y H λx H1=>∃ c,x=.bl c/\if c=true then tb Y H1 Q else Q (.bl false) H1
def tOrV (ta tb:TE):TE:=λY H Q=>ta Y H λx H1=>∃ c,x=.bl c/\if c=true then Q (.bl true) H1 else tb Y H1 Q
def BY (ta:TE):TE:=λY H Q=>ta Y H λx H1=>∃ c,x=.bl c/\Q (.bl (!c)) H1
theorem DP (h:PE X a t):PE X (.BoolOp op [a] pos) t:=λpins s Y H Q I hw=>BoolOp_one (h pins s Y H Q I hw)
theorem DX (g:PE X a ta) (i:PE X (.BoolOp .And (b::de) pos) tb):PE X (.BoolOp .And (a::b::de) pos) (B5 ta tb):=by
 intro pins s Y H Q I h
 refine BoolOp_and (thn (g pins s Y H _ I h) λv s1 #[x,H1,e,f,d]=>?_)
 obtain ⟨c,rfl,d⟩:=d
 cases f
 refine FY ?_
 cases c with
 | true=>exact i pins s1 Y H1 Q e d
 | false=>exact #[.bl false,H1,e,rfl,d]
theorem pe_or (g:PE X a ta) (i:PE X (.BoolOp .Or (b::de) pos) tb):PE X (.BoolOp .Or (a::b::de) pos) (tOrV ta tb):=by
 intro pins s Y H Q I h
 refine BoolOp_or (thn (g pins s Y H _ I h) λv s1 #[x,H1,e,f,d]=>?_)
 obtain ⟨c,rfl,d⟩:=d
 cases f
 refine FY ?_
 cases c with
 | false=>exact i pins s1 Y H1 Q e d
 | true=>exact #[.bl true,H1,e,rfl,d]
theorem DQ (f:PE X a ta):PE X (.UnaryOp .Not a pos) (BY ta):=by
 intro pins s Y H Q I h
 refine UnaryOp_ (thn (f pins s Y H _ I h) λv s1 #[x,H1,d,e,b]=>?_)
 obtain ⟨c,rfl,b⟩:=b
 cases e
 exact not_of (FY #[.bl (!c),H1,d,rfl,b])
def tIf (t:TT) (ta tb:TE):TE:=λY H Q=>t Y H λc H1=>if c=true then ta Y H1 Q else tb Y H1 Q
theorem xK (i:PT X c tA) (g:PE X a ta) (j:PE X b tb):PE X (.IfExp c a b pos) (tIf tA ta tb):=by
 intro pins s Y H Q I h
 refine wpAny_IfExp (thn (i pins s Y H _ I h) λd s1 #[H1,f,e]=>?_)
 cases d with
 | true=>exact g pins s1 Y H1 Q f e
 | false=>exact j pins s1 Y H1 Q f e
end
end L2
namespace L2
open PySem PySem.Spec PyProof.Rows
def SqL (K:FG) (H:Hp) (a:Addr) (xs:List V):Prop :=
 Rd H a (.lst xs) \/
  ∃ (o:Obj) (its:Array Value) (n:Nat),K.lookup a=some o/\o.cls=.type "list"/\o.dict=none/\o.data=.seq its n/\its.size<=sizeLine/\Vals xs its.toList
def SqT (K:FG) (H:Hp) (a:Addr) (xs:List V):Prop :=
 Rd H a (.tup xs) \/
  ∃ (o:Obj) (its:Array Value) (n:Nat),K.lookup a=some o/\o.cls=.type "tuple"/\o.data=.seq its n/\its.size<=sizeLine/\Vals xs its.toList
def absV:Value->Option V
 | .none=>some .non
 | .bool b=>some (.bl b)
 | .int i _=>some (.int i)
 | .str x _=>some (.str x)
 | .bytes b _=>some (.byt b)
 | .float b _=>some (.flt b)
 | .ref a=>some (.ref a)
 | .type n=>some (.ty n)
 | _=>none
theorem RelV.abs (r:RelV x u):absV u=some x:=by
 cases x with
 | non=>cases r;rfl
 | bl _=>cases r;rfl
 | int _=>obtain ⟨t,rfl⟩:=r;rfl
 | str _=>obtain ⟨t,rfl⟩:=r;rfl
 | byt _=>obtain ⟨t,rfl⟩:=r;rfl
 | flt _=>obtain ⟨t,rfl⟩:=r;rfl
 | ref _=>cases r;rfl
 | ty _=>cases r;rfl
theorem RelV.inj (r:RelV x u) (q:RelV y u):x=y:=F6 (r.abs.symm.trans q.abs)
theorem Vals.inj:∀ {xs ys:List V} {us:List Value},Vals xs us->Vals ys us->xs=ys
 | _,_,_,.nil,.nil=>rfl
 | _,_,_,.cons r t,.cons r' t'=>by rw[r.inj r',Vals.inj t t']
section
variable {X:Cx} {pins:List (Addr×Obj)} {Y:St} {H:Hp} {s:Shared} {a:Addr} {xs ys:List V}
theorem SqL.of {K:FG} (h:H a=some (.lst xs)):SqL K H a xs:=.inl (.inl h)
theorem SqT.of {K:FG} (h:H a=some (.tup xs)):SqT K H a xs:=.inl (.inl h)
theorem Inv.list (I:Inv X pins Y H s) (h:SqL X.K H a xs):∃ its:List Value,Vals xs its/\PlainL s.heap a its.toArray/\xs.length<=sizeLine:=by
 rcases h with h | ⟨o,its,n,d,b,hd,c,hz,r⟩
 .obtain ⟨z,its,n,r,e⟩:=h.ok I.hok
  exact #[its,r,#[_,n,e,rfl,rfl,rfl],z]
 .refine #[its.toList,r,#[o,n,I.kIn a o d,b,hd,by simpa using c],?_]
  have e:=r.length
  simp only[Array.length_toList] at e
  lia
theorem Inv.tuple (I:Inv X pins Y H s) (h:SqT X.K H a xs):∃ its:List Value,Vals xs its/\IsTup s.heap a its.toArray/\xs.length<=sizeLine:=by
 rcases h with h | ⟨o,its,n,d,b,c,hz,r⟩
 .obtain ⟨z,its,r,p⟩:=h.ok I.hok
  exact #[its,r,p.tup,z]
 .refine #[its.toList,r,#[o,I.kIn a o d,b,n,by simpa using c],?_]
  have e:=r.length
  simp only[Array.length_toList] at e
  lia
theorem Inv.list_inj (I:Inv X pins Y H s) (h:SqL X.K H a xs) (h':SqL X.K H a ys):xs=ys:=by
 obtain ⟨its,r,⟨o,n,e,_,_,d⟩,_⟩:=I.list h
 obtain ⟨its',c,⟨o',f,b,_,_,d'⟩,_⟩:=I.list h'
 rw[e] at b;cases b
 rw[d] at d'
 injection d' with d1 _
 have:its=its':=by simpa using congrArg Array.toList d1
 subst this
 exact r.inj c
theorem Inv.tuple_inj (I:Inv X pins Y H s) (h:SqT X.K H a xs) (h':SqT X.K H a ys):xs=ys:=by
 obtain ⟨its,r,⟨o,e,_,n,d⟩,_⟩:=I.tuple h
 obtain ⟨its',c,⟨o',b,_,f,d'⟩,_⟩:=I.tuple h'
 rw[e] at b;cases b
 rw[d] at d'
 injection d' with d1 _
 have:its=its':=by simpa using congrArg Array.toList d1
 subst this
 exact r.inj c
end
abbrev Cx.wish (X:Cx) (E:Value->Shared->Prop):Cx:={ X with xe:=E }
abbrev Cx.nox (X:Cx):Cx:=X.wish λ_ _=>False
theorem Cx.Ok.wish {X:Cx} (ok:X.Ok) (E:Value->Shared->Prop):(X.wish E).Ok :=
 #[ok.mod,ok.kind,ok.glob,ok.blt,ok.above,ok.inj,ok.has,ok.cab,ok.hd,ok.frames,ok.stk,ok.exf,ok.bs,ok.bsz,ok.noex,ok.exfs,ok.funs,ok.frf]
theorem Cx.Ok.unwish {X:Cx} (ok:(X.wish E).Ok):X.Ok :=
 #[ok.mod,ok.kind,ok.glob,ok.blt,ok.above,ok.inj,ok.has,ok.cab,ok.hd,ok.frames,ok.stk,ok.exf,ok.bs,ok.bsz,ok.noex,ok.exfs,ok.funs,ok.frf]
section
variable {X:Cx} {pins:List (Addr×Obj)} {Y:St} {H:Hp} {s:Shared} {E:Value->Shared->Prop}
theorem Inv.wish (I:Inv X pins Y H s) (E:Value->Shared->Prop):Inv (X.wish E) pins Y H s:=#[I.ok.wish E,I.os,I.bare,I.base,I.loc,I.cell,I.free,I.freeC,I.pin,I.hok,I.len]
theorem Inv.unwish (I:Inv (X.wish E) pins Y H s):Inv X pins Y H s:=#[I.ok.unwish,I.os,I.bare,I.base,I.loc,I.cell,I.free,I.freeC,I.pin,I.hok,I.len]
theorem SP.unwish (h:SP (X.wish E) pins D f s'):SP X pins D f s':=by
 cases f with
 | next=>obtain ⟨Y',H',I,q⟩:=h;exact #[Y',H',I.unwish,q]
 | brk=>obtain ⟨Y',H',I,q⟩:=h;exact #[Y',H',I.unwish,q]
 | cont=>obtain ⟨Y',H',I,q⟩:=h;exact #[Y',H',I.unwish,q]
 | ret u=>obtain ⟨v,Y',H',I,r,q⟩:=h;exact #[v,Y',H',I.unwish,r,q]
theorem PSs.nox {st:List Stmt} (h:PSs X.nox st t):PSs X st t:=λpins s Y H D I hw =>
 wpAny_mono (h pins s Y H D (I.wish _) hw) (λ_ _ q=>q.unwish) λ_ _ z=>False.elim z
end
section
variable {X:Cx} {st:Stmt} {de:List Stmt} {t u:TS} {e:Expr} {te:TE} {pos:Pos}
def BZ:TS:=λD Y H=>D.nx Y H
def tSeq (t u:TS):TS:=λD Y H=>t { D with nx:=u D } Y H
theorem AL:PSs X [] BZ:=λ_ _ Y H _ I h=>wpAny_execs_nil #[Y,H,I,h]
theorem xA (h1:PS X st t) (h2:PSs X de u):PSs X (st::de) (tSeq t u):=by
 intro pins s Y H D I h
 refine wpAny_execs_cons (thn (h1 pins s Y H { D with nx:=u D } I h) λf s1 q=>?_)
 cases f with
 | next =>
  obtain ⟨Y',H',a,q⟩:=q
  exact h2 pins s1 Y' H' D a q
 | ret v=>exact q
 | brk=>exact q
 | cont=>exact q
theorem AK (h1:PS X st t):PSs X [st] t:=by
 intro pins s Y H D I h
 refine wpAny_execs_cons (thn (h1 pins s Y H D I h) λf s1 q=>?_)
 cases f with
 | next=>exact wpAny_execs_nil q
 | ret v=>exact q
 | brk=>exact q
 | cont=>exact q
theorem Inv.quiet (I:Inv X pins Y H s):interactive X.env=false:=by simp[interactive,I.ok.kind]
def B3 (te:TE):TS:=λD Y H=>te Y H λ_ H1=>D.nx Y H1
theorem AM (he:PE X e te) (b:swapsWith e none pos.line X.env=pure false:=by rfl):PS X (.Expr e pos) (B3 te):=by
 intro pins s Y H D I h
 exact wpAny_Expr_any (thn (he pins s Y H _ I h) λv s1 #[x,H1,c,d,a]=>#[Y,H1,c,a]) I.quiet b
def tRet (te:TE):TS:=λD Y H=>te Y H D.rt
theorem DJ (he:PE X e te):PS X (.Return (some e) pos) (tRet te):=by
 intro pins s Y H D I h
 exact wpAny_Return_some (thn (he pins s Y H _ I h) λv s1 #[x,H1,b,c,a]=>#[x,Y,H1,b,c,a])
def tIfS (c:TT) (t u:TS):TS:=λD Y H=>c Y H λb H1=>if b=true then t D Y H1 else u D Y H1
theorem ps_if (i:PT X c tc) (g:PSs X a t) (j:PSs X b u):PS X (.If c a b pos) (tIfS tc t u):=by
 intro pins s Y H D I h
 refine wpAny_If (thn (i pins s Y H _ I h) λd s1 #[H1,f,e]=>?_)
 cases d with
 | true=>exact g pins s1 Y H1 D f e
 | false=>exact j pins s1 Y H1 D f e
def CS:TS:=λ_ _ _=>False
theorem xD:PS X st CS:=λ_ _ _ _ _ _ h=>h.elim
end
abbrev TG:=V->St->Hp->(St->Hp->Prop)->Prop
abbrev TGs:=List V->St->Hp->(St->Hp->Prop)->Prop
def PG (X:Cx) (target:Expr) (t:TG):Prop :=
 ∀ (pins:List (Addr×Obj)) (s:Shared) (Y:St) (H:Hp) (v:V) (u:Value) (Q:St->Hp->Prop),Inv X pins Y H s->RelV v u->t v Y H Q ->
  wpAny (model X.prog X.w) X.A (assign target X.env u) (λ_ s'=>∃ Y' H',Inv X pins Y' H' s'/\Q Y' H') X.xe s
def PGs (X:Cx) (b:List Expr) (t:TGs):Prop :=
 ∀ (pins:List (Addr×Obj)) (s:Shared) (Y:St) (H:Hp) (a:List V) (us:List Value) (Q:St->Hp->Prop),Inv X pins Y H s->Vals a us->t a Y H Q ->
  wpAny (model X.prog X.w) X.A (assignInOrder ((assignEach b X.env).map (·.2)) us) (λ_ s'=>∃ Y' H',Inv X pins Y' H' s'/\Q Y' H') X.xe s
abbrev E9:=V->V->V->Hp->(Hp->Prop)->Prop
def zw (X:Cx) (t:E9):Prop :=
 ∀ (pins:List (Addr×Obj)) (s:Shared) (Y:St) (H:Hp) (o i v:V) (a b u:Value) (Q:Hp->Prop),Inv X pins Y H s->RelV o a->RelV i b->RelV v u->t o i v H Q ->
  wpAny (model X.prog X.w) X.A (setItem a b u) (λ_ s'=>∃ H',Inv X pins Y H' s'/\Q H') X.xe s
section
variable {X:Cx} {pos:Pos}
def ua (i:Nat):TG:=λv Y H Q=>Q (Y.set i (some v)) H
theorem k6 {i:Nat} (c:X.N.Nodup) (hi:X.N[i]?=some x) (a:Loc X.env.scope x) (hf:X.fn x=true\/X.env.scope.names.lookup x=some .local:=by first | exact .inl rfl | exact .inr rfl | assumption):PG X (.Name x pos) (ua i):=by
 intro pins s Y H v u Q I r h
 exact wpAny_assign_Name (jh I c hi a r (λs' b=>#[_,H,b,h]) hf)
def gNil:TGs:=λa Y H Q=>a=[]/\Q Y H
def Cq (t:TG) (u:TGs):TGs:=λa Y H Q=>∃ v r,a=v::r/\t v Y H λY' H'=>u r Y' H' Q
theorem tD:PGs X [] gNil:=by
 intro pins s Y H a us Q I r h
 obtain ⟨e,h⟩:=h
 subst e
 cases r
 exact assignInOrder_nil #[Y,H,I,h]
theorem lN (h1:PG X e t) (h2:PGs X es u) (b:(assignEach (e::es) X.env).map (·.2)=assign e X.env::(assignEach es X.env).map (·.2):=by rfl):PGs X (e::es) (Cq t u):=by
 intro pins s Y H d us Q I r h
 obtain ⟨v,f,e1,h⟩:=h
 subst e1
 cases r with
 | cons r rr =>
  rw[b]
  refine assignInOrder_cons (thn (h1 pins s Y H _ _ _ I r h) λ_ s1 #[Y1,H1,c,a]=>?_)
  exact h2 pins s1 Y1 H1 _ _ Q c rr a
def gTup (K:FG) (n:Nat) (t:TGs):TG:=λv Y H Q=>∃ a xs,v=.ref a/\SqT K H a xs/\xs.length=n/\t xs Y H Q
theorem xI {k:Nat} {n:Nat} (g:X.calm=true) (h:PGs X es t) (f:(assignEach es X.env).length=n:=by rfl) (c:(assignEach es X.env).findIdx? (·.1)=none:=by rfl):PG X (.Tuple es k pos) (gTup X.K n t):=by
 intro pins s Y H v u Q I r hw
 obtain ⟨a,xs,e1,m,l,hw⟩:=hw
 subst e1
 cases r
 obtain ⟨its,d,p,hz⟩:=I.tuple m
 refine assign_Tuple_tuple (I.ok.hd g) p (by simp[f,<- l,d.length]) c λh' i=>?_
 have j:Inv X pins Y H { s with heap:=h' }:=I.kept (t':=s.toks) λb o e=>i b o (FD (Fp e)) e
 exact h pins _ Y H xs _ Q j (by simpa using d) hw
def gSub (to a:TE) (t:E9):TG:=λv Y H Q=>to Y H λo H1=>a Y H1 λi H2=>t o i v H2 λb=>Q Y b
theorem DN (p:PE X o to) (hi:PE X i ti) (k:zw X t) (q:∀ v,assign (.Subscript o i pos) X.env v=(do
   let a <- holding [v] (eval o X.env)
   let b <- holding [v,a] (eval i X.env)
   standAt pos
   holding [v,a,b] (setItem a b v)
   release [v,a,b] []):=by intro _;rfl):PG X (.Subscript o i pos) (gSub to ti t):=by
 intro pins s Y H v u Q I r h
 rw[q]
 refine Fb (Fd (thn (p pins s Y H _ I h) λa s1 #[x,H1,l,m,d]=>?_))
 refine Fb (Fd (thn (hi pins s1 Y H1 _ l d) λb s2 #[y,H2,f,e,n]=>?_))
 refine Fb (wpAny_standAt (Fb (Fd (thn (k pins s2 Y H2 x y v a b u _ f m e r n) λ_ s3 #[g,c,j]=>?_))))
 exact wpAny_release #[Y,g,c,j]
def wB (te:TE) (g:TG):TS:=λD Y H=>te Y H λx H1=>g x Y H1 D.nx
theorem xE (he:PE X e te) (f:PG X tg g) (b:swapsWithSole [tg] e pos.line X.env=pure false:=by rfl) (hw:swappedStores [tg] e X.env=pure none:=by rfl) (h1:(assignEach [tg] X.env).map (·.2)=[assign tg X.env]:=by rfl):PS X (.Assign [tg] e pos) (wB te g):=by
 intro pins s Y H D I h
 refine wpAny_Assign_stores (thn (he pins s Y H _ I h) λv s1 #[x,H1,c,d,a]=>?_) b hw
 rw[h1]
 exact thn (f pins s1 Y H1 x v _ c d a) λ_ s2 q=>q
theorem DI {i:Nat} (j:X.N.Nodup) (hi:X.N[i]?=some x) (c:Loc X.env.scope x) (he:PE X e te) (d:swapsWith e (some (.Name x pos')) pos.line X.env=pure false:=by rfl) (hf:X.fn x=true\/X.env.scope.names.lookup x=some .local:=by first | exact .inl rfl | exact .inr rfl | assumption) :
  PS X (.Assign [.Name x pos'] e pos) (wB te (ua i)):=by
 intro pins s Y H D I h
 refine wpAny_Assign_Name (thn (he pins s Y H _ I h) λv s1 #[y,H1,f,g,a]=>?_) d
 exact jh f j hi c g (λs2 b=>#[_,H1,b,a]) hf
def CQ (i j:Nat) (ta:TA):TS:=λD Y H=>ta Y H λa H1=>∃ v w,a=[v,w]/\D.nx ((Y.set i (some v)).set j (some w)) H1
theorem xC {i j:Nat} (G:X.calm=true) (t:X.N.Nodup) (hi:X.N[i]?=some x) (L:X.N[j]?=some y) (g:i≠j) (n:X.env.scope.names.lookup x=some .local) (r:X.env.scope.names.lookup y=some .local) (E:PA X [a,b] ta) (hw:swappedStores [.Tuple [.Name x px,.Name y py] kt pt] (.Tuple [a,b] k2 pt2) X.env=pure (some [x,y])) (K:swapsWithSole [.Tuple [.Name x px,.Name y py] kt pt] (.Tuple [a,b] k2 pt2) pos.line X.env=pure false:=by rfl) :
  PS X (.Assign [.Tuple [.Name x px,.Name y py] kt pt] (.Tuple [a,b] k2 pt2) pos) (CQ i j ta):=by
 intro pins s Y H D I h
 rw[exec_Assign_arm]
 refine Fb (wpAny_standAt ?_)
 rw[K]
 refine Fb (Fc ?_)
 rw[if_neg (by decide)]
 refine Fb (Tuple_ (thn (E _ pins s Y H _ I h) λus s1 #[M,H1,B,C,f]=>?_))
 obtain ⟨v,w,e1,f⟩:=f
 subst e1
 obtain ⟨d,c,rfl,z,l⟩:∃ d c,us=[d,c]/\RelV v d/\RelV w c:=by
  cases C with
  | cons p q =>
   cases q with
   | cons p' q' =>
    cases q'
    exact #[_,_,rfl,p,p']
 refine wpAny_newObj_type ?_ (by show 2<=sizeLine;decide)
 have J:Inv X pins Y H1 { s1 with heap:=s1.heap.push { cls:=.type "tuple",data:=.seq [d,c].toArray } }:=B.kept (t':=s1.toks) λb o e=>Fg _ e
 rw[hw]
 refine Fb (Fc ?_)
 show wpAny (model X.prog X.w) X.A (do rule "assign.swapped-stores";let items <- unpackItems (.ref s1.heap.objs.size) 2 none;assignInOrder [λv=>bindName X.env y v,λv=>bindName X.env x v] items.reverse;pure Flow.next) _ _ _
 refine Fb (wpAny_rule (Fb (unpackItems_tuple (items:=(List.toArray [d,c])) (I.ok.hd G) (IsTup.new s1.heap _) λh' k=>?_)))
 have F:=J.kept (h':=h') (t':=s1.toks) λb o e=>k b o (FD (Fp e)) e
 show wpAny _ _ (assignInOrder [λv=>bindName X.env y v,λv=>bindName X.env x v] [c,d] >>= λ_=>pure Flow.next) _ _ _
 refine Fb (assignInOrder_cons (wpAny_bindName (jh F t L (.inl r) l (λs2 u=>?_) (.inr r))))
 refine assignInOrder_cons (wpAny_bindName (jh u t hi (.inl n) z (λs3 m=>assignInOrder_nil (Fc ?_)) (.inr n)))
 rw[List.set_comm _ _ (Ne.symm g)] at m
 exact #[_,H1,m,f]
end
section
variable {X:Cx} {pos:Pos}
def ww (c:TT) (tb:TS):TS:=λD Y H=>∃ W:Nat->St->Hp->Prop,(∃ m,W m Y H)/\∀ m Y H,W m Y H ->
 c Y H λb H1=>if b=true then ∃ N:St->Hp->Prop,(∀ Y' H',N Y' H'->∃ a,a < m/\W a Y' H')/\tb { D with nx:=N,ct:=N,bk:=D.nx } Y H1 else D.nx Y H1
theorem xB (l:PassesOwn (model X.prog X.w) X.A X.env X.xe) (t:PT X c tc) (u:PSs X body tb):PS X (.While c body [] pos) (ww tc tb):=by
 intro pins s Y H D I h
 obtain ⟨W,⟨m0,p⟩,turn⟩:=h
 refine wpAny_While (codeAny_whileLoop (λn s'=>∃ Y' H',Inv X pins Y' H' s'/\W n Y' H') ?_ m0 #[Y,H,I,p])
 rintro n s1 ⟨Y1,H1,q,r⟩
 refine wpAny_passesOwn l (thn (t pins s1 Y1 H1 _ q (turn n Y1 H1 r)) λb s2 #[H2,m,e]=>?_)
 cases b with
 | true =>
  obtain ⟨N,o,e⟩:=e
  rw[if_pos rfl]
  refine wpAny_passesOwn l (thn (u pins s2 Y1 H2 _ m e) λf s3 d=>?_)
  cases f with
  | next =>
   obtain ⟨Y3,a,j,g⟩:=d
   obtain ⟨i,hm,k⟩:=o Y3 a g
   exact #[i,hm,Y3,a,j,k]
  | cont =>
   obtain ⟨Y3,a,j,g⟩:=d
   obtain ⟨i,hm,k⟩:=o Y3 a g
   exact #[i,hm,Y3,a,j,k]
  | brk=>exact d
  | ret v=>exact d
 | false =>
  rw[if_neg FC]
  exact wpAny_execs_nil #[Y1,H2,m,e]
end
structure It where
 go:Nat->Hp->Prop
 yld:Nat->Hp->V->Hp->Prop
 stop:Nat->Hp->Prop
def FpOk (X:Cx) (pins:List (Addr×Obj)) (H:Hp) (b:Addr):Prop :=
 H b=none/\b≠X.env.locals/\b ∉ X.fs/\(b∈X.ex\/X.s₀.heap.objs.size<=b)/\(∀ x c,X.env.cells.lookup x=some c->c≠b)/\∀ p∈X.pn++pins,p.1≠b
theorem Inv.fpOk (I:Inv X pins Y H s) (a:s.heap.objs.size<=b) (f:H' b=none):FpOk X pins H' b:=by
 refine #[f,Nat.ne_of_gt (FJ I.lt a),I.nofs a,.inr (FZ I.sz a),λx c e z=>?_,λp d z=>?_]
 .obtain ⟨v,q⟩:=I.cell x c e
  exact absurd (FJ q.lt (by rw[z];exact a)) (Nat.lt_irrefl _)
 .exact absurd (FJ (Fp (I.pin p d).1) (by rw[z];exact a)) (Nat.lt_irrefl _)
structure Turn (P:Program) (w:World) (K:FG) (tg:Expr) (J:It) (fp:List Addr) (it:Addr) (tn:Nat->Heap->Prop):Prop where
 mem:it∈fp
 obj:∀ i h,tn i h->∀ b∈fp,∃ o,h.get? b=some o/\∀ v,o.data≠.cell v
 keep:∀ i h h',tn i h->(∀ b∈fp,∀ o,h.get? b=some o->h'.get? b=some o)->tn i h'
 item:∀ (X:Cx),X.prog=P->X.w=w->X.K=K->X.calm=true->∀ (i:Nat) (pins:List (Addr×Obj)) (s:Shared) (Y:St) (H:Hp) (E:Value->Shared->Prop),Inv X pins Y H s->(∀ b∈fp,FpOk X pins H b)->tn i s.heap->J.go i H ->
  wpAny (model P w) X.A (pyNext (.ref it)) (λr s1=>∃ u,r=some u /\
   wpAny (model P w) X.A (letOwnedTupleGo tg (.ref it) u) (λ_ s2=>∃ x H',Inv X pins Y H' s2/\RelV x u/\J.yld i H x H'/\tn (i+1) s2.heap/\∀ b∈fp,H' b=none) E s1) E s
 done:∀ (X:Cx),X.prog=P->X.w=w->X.K=K->X.calm=true->∀ (i:Nat) (pins:List (Addr×Obj)) (s:Shared) (Y:St) (H:Hp) (E:Value->Shared->Prop),Inv X pins Y H s->(∀ b∈fp,FpOk X pins H b)->tn i s.heap->J.stop i H ->
  wpAny (model P w) X.A (pyNext (.ref it)) (λr s1=>r=none/\Inv X pins Y H s1) E s
 self:∀ (A:Around) (i:Nat) (s:Shared) (Q:Value->Shared->Prop) (E:Value->Shared->Prop),tn i s.heap->Q (.ref it) s->wpAny (model P w) A (pyIter (.ref it)) Q E s
abbrev TI:=St->Hp->(It->Hp->Prop)->Prop
def PIE (X:Cx) (pins:List (Addr×Obj)) (Y:St) (tg:Expr) (R:It->Hp->Prop) (a:Value) (s2:Shared):Prop :=
 ∃ (it:Addr) (fp:List Addr) (c:Nat->Heap->Prop) (J:It) (H':Hp),a=.ref it/\Inv X pins Y H' s2/\Turn X.prog X.w X.K tg J fp it c/\c 0 s2.heap/\(∀ b∈fp,FpOk X pins H' b)/\R J H'
def PI (X:Cx) (tg iter:Expr) (a:TI):Prop :=
 ∀ (pins:List (Addr×Obj)) (s:Shared) (Y:St) (H:Hp) (R:It->Hp->Prop),Inv X pins Y H s->a Y H R ->
  wpAny (model X.prog X.w) X.A (eval iter X.env) (λv s1=>wpAny (model X.prog X.w) X.A (pyIter v) (PIE X pins Y tg R) X.xe s1) X.xe s
theorem nN (c:s.heap.get? it=some o) (d:o.cls=.type n) (hd:o.data=.fields vs) (b:["enumerate","zip","dict_itemiterator","dict_reverseitemiterator","odict_iterator","itertools.zip_longest","itertools.pairwise"].contains n=false) (a:Q () s):wpAny M A (letOwnedTupleGo tg (.ref it) u) Q E s:=by
  unfold letOwnedTupleGo
  cases tg <;> first
    | exact Fc a
    | (cases u <;> first
        | exact Fc a
        | (refine Fb (wpAny_load c ?_)
           rw[d,hd]
           show wpAny M A (if (["enumerate","zip","dict_itemiterator","dict_reverseitemiterator","odict_iterator","itertools.zip_longest","itertools.pairwise"].contains n && vs[0]? == some (rawInt _))=true then _ else _) Q E s
           rw[if_neg (by intro h; rw[b,Bool.false_and] at h; cases h)]
           exact Fc a))
def Itl (K:FG) (a:Addr):It :=
 #[λi H=>∃ xs x,SqL K H a xs/\xs[i]?=some x,λi H x H'=>H'=H/\∀ xs,SqL K H a xs->xs[i]?=some x,λi H=>∃ xs,SqL K H a xs/\xs.length<=i]
def Itt (K:FG) (a:Addr):It :=
 #[λi H=>∃ xs x,SqT K H a xs/\xs[i]?=some x,λi H x H'=>H'=H/\∀ xs,SqT K H a xs->xs[i]?=some x,λi H=>∃ xs,SqT K H a xs/\xs.length<=i]
def Itr (lo:Int) (n:Nat):It:=#[λi _=>i < n,λi H x H'=>H'=H/\x=.int (lo+i),λi _=>n<=i]
theorem uH {P:Program} {w:World} {K:FG} {tg:Expr} (a it:Addr):Turn P w K tg (Itl K a) [it] it (λi h=>h.IsListIter it a i) where
 mem:=by simp
 obj:=λi h st b f=>by
  have e:b=it:=by simpa using f
  subst e
  obtain ⟨o,e,c,d⟩:=st
  exact #[o,e,λv z=>by rw[d] at z;cases z]
 keep:=λi h h' st k=>st.at λo e=>k it (by simp) o e
 item:=by
  intro X q hw t A i pins s Y H E I hf st y
  subst q hw t
  obtain ⟨xs,x,j,n⟩:=y
  obtain ⟨its,m,p,hz⟩:=I.list j
  obtain ⟨u,hu,B⟩:=m.get n
  obtain ⟨f0,f1,f2,r,f4,l⟩:=hf it (by simp)
  refine wpAny_pyNext_list_item st p.isList (x:=u) (by simpa using hu) λh' g sb=>?_
  have C:Inv X pins Y H { s with heap:=h' }:=I.turned (t':=s.toks) (λb o f e=>(sb.2 b f).trans e) f0 f1 r f4 l
  obtain ⟨o,e,c,d⟩:=id g
  exact #[u,rfl,nN (s:={ s with heap:=h' }) e c d (by decide) #[x,H,C,B,#[rfl,λys F=>by rw[I.list_inj F j];exact n],g,λb f=>(hf b f).1]]
 done:=by
  intro X q hw t A i pins s Y H E I hf st y
  subst q hw t
  obtain ⟨xs,j,n⟩:=y
  obtain ⟨its,m,p,hz⟩:=I.list j
  obtain ⟨f0,f1,f2,r,f4,l⟩:=hf it (by simp)
  have G:=m.length
  exact wpAny_pyNext_list_end (I.ok.hd A) st p.isList (by simp;omega) λh' D=>#[rfl,I.turned (t':=s.toks) (λb o f e=>D b o f e) f0 f1 r f4 l]
 self:=λ_ _ _ _ _ st h=>wpAny_pyIter_listiter st h
theorem qR {P:Program} {w:World} {K:FG} {tg:Expr} (a it:Addr):Turn P w K tg (Itt K a) [it] it (λi h=>h.IsTupleIter it a i) where
 mem:=by simp
 obj:=λi h st b f=>by
  have e:b=it:=by simpa using f
  subst e
  obtain ⟨o,e,c,d⟩:=st
  exact #[o,e,λv z=>by rw[d] at z;cases z]
 keep:=λi h h' st k=>st.at λo e=>k it (by simp) o e
 item:=by
  intro X q hw t A i pins s Y H E I hf st y
  subst q hw t
  obtain ⟨xs,x,j,n⟩:=y
  obtain ⟨its,m,p,hz⟩:=I.tuple j
  obtain ⟨u,hu,B⟩:=m.get n
  obtain ⟨f0,f1,f2,r,f4,l⟩:=hf it (by simp)
  refine wpAny_pyNext_tuple_item st (show s.heap.IsTuple a its.toArray from p) (x:=u) (by simpa using hu) λh' g sb=>?_
  have C:Inv X pins Y H { s with heap:=h' }:=I.turned (t':=s.toks) (λb o f e=>(sb.2 b f).trans e) f0 f1 r f4 l
  obtain ⟨o,e,c,d⟩:=id g
  exact #[u,rfl,nN (s:={ s with heap:=h' }) e c d (by decide) #[x,H,C,B,#[rfl,λys F=>by rw[I.tuple_inj F j];exact n],g,λb f=>(hf b f).1]]
 done:=by
  intro X q hw t A i pins s Y H E I hf st y
  subst q hw t
  obtain ⟨xs,j,n⟩:=y
  obtain ⟨its,m,p,hz⟩:=I.tuple j
  obtain ⟨f0,f1,f2,r,f4,l⟩:=hf it (by simp)
  have G:=m.length
  exact wpAny_pyNext_tuple_end (I.ok.hd A) st (show s.heap.IsTuple a its.toArray from p) (by simp;omega) λh' D=>#[rfl,I.turned (t':=s.toks) (λb o f e=>D b o f e) f0 f1 r f4 l]
 self:=λ_ _ _ _ _ st h=>wpAny_pyIter_tupleiter st h
theorem qS {P:Program} {w:World} {K:FG} {tg:Expr} (it:Addr) (lo:Int) (n:Nat):Turn P w K tg (Itr lo n) [it] it (λi h=>IsRangeIter h it (lo+(i:Nat) * 1) ((n:Int) - (i:Nat)) 1) where
 mem:=by simp
 obj:=λi h st b a=>by
  have e:b=it:=by simpa using a
  subst e
  exact ⟨_,st,λv z=>by
   have x:Data.fields _=Data.cell v:=z
   cases x⟩
 keep:=λi h h' st k=>k it (by simp) _ st
 item:=by
  intro X f hw j l i pins s Y H E I hf st m
  subst f hw j
  obtain ⟨f0,f1,f2,g,f4,d⟩:=hf it (by simp)
  have W:=Walks.range (prog:=X.prog) (w:=X.w) (I.ok.hd l) it lo 1 n
  refine W.item i s _ _ m st λv h' tk q c p=>?_
  obtain ⟨t,rfl⟩:=q
  have r:Inv X pins Y H { s with heap:=h',toks:=tk }:=I.turned (λb o a e=>p b o (by simpa using a) e) f0 f1 g f4 d
  refine #[_,rfl,nN (s:={ s with heap:=h',toks:=tk }) (n:="range_iterator") c rfl rfl (by decide) #[.int (lo+i),H,r,#[t,?_],#[rfl,rfl],c,λb a=>(hf b a).1]]
  rw[Int.mul_one]
 done:=by
  intro X f hw j l i pins s Y H E I hf st m
  subst f hw j
  obtain ⟨f0,f1,f2,g,f4,d⟩:=hf it (by simp)
  exact wpAny_pyNext_range_end (I.ok.hd l) st (by have:n<=i:=m;lia) λh' u=>#[rfl,I.turned (t':=s.toks) (λb o a e=>u b o a e) f0 f1 g f4 d]
 self:=λ_ _ _ _ _ st h=>wpAny_pyIter_rangeiter st h
end L2
namespace L2
open PySem PySem.Spec PyProof.Rows
section
variable {X:Cx} {tg:Expr}
theorem pL {lo hi:Int} {tk:Nat} (I:Inv X pins Y H s) (h1:-(2 ^ 62)<=lo) (h2:lo < 2 ^ 62) (h3:-(2 ^ 62)<=hi) (d:hi < 2 ^ 62) (q:R (Itr lo (hi - lo).toNat) H):wpAny (model X.prog X.w) X.A (pyIter (.ref s.heap.objs.size)) (PIE X pins Y tg R) E { s with heap:=s.heap.push { cls:=.type "range",data:=.fields (List.toArray [.int lo t,.int hi u,.int 1 v]) },toks:=tk }:=by
 refine wpAny_pyIter_range (IsRange.new ..) (small_one h1 h2 h3 d) ?_
 have a:Inv X pins Y H { s with heap:=s.heap.push { cls:=.type "range",data:=.fields (List.toArray [.int lo t,.int hi u,.int 1 v]) },toks:=tk }:=I.kept λb o e=>Fg _ e
 refine ⟨(s.heap.push { cls:=.type "range",data:=.fields (List.toArray [.int lo t,.int hi u,.int 1 v]) }).objs.size,[(s.heap.push { cls:=.type "range",data:=.fields (List.toArray [.int lo t,.int hi u,.int 1 v]) }).objs.size],_,_,H,rfl,
  a.kept (t':=tk) λb o e=>Fg _ e,qS _ lo (hi - lo).toNat,?_,λb f=>?_,q⟩
 .have e1:lo+((0:Nat):Int) * 1=lo:=by simp
  have c:(((hi - lo).toNat:Nat):Int) - ((0:Nat):Int)=Builtin.Range.rangeSize lo hi 1:=by rw[rangeSize_one];split <;> omega
  show IsRangeIter _ _ (lo+((0:Nat):Int) * 1) ((((hi - lo).toNat:Nat):Int) - ((0:Nat):Int)) 1
  rw[e1,c]
  exact Fs _ rfl
 .have e:b=(s.heap.push { cls:=.type "range",data:=.fields (List.toArray [.int lo t,.int hi u,.int 1 v]) }).objs.size:=by simpa using f
  subst e
  exact a.fpOk (FA _) (a.hok.fresh (FA _))
def Cn (ta:TA):TI:=λY H R=>ta Y H λa H1=>∃ j:Int,a=[.int j]/\-(2 ^ 62)<=j/\j < 2 ^ 62/\R (Itr 0 j.toNat) H1
def Cm (ta:TA):TI:=λY H R=>ta Y H λa H1=>∃ i j:Int,a=[.int i,.int j]/\(-(2 ^ 62)<=i/\i < 2 ^ 62/\-(2 ^ 62)<=j/\j < 2 ^ 62)/\R (Itr i (j - i).toNat) H1
theorem u3 (k:Gl X "range") (hm:X.mg "range"=none) (i:PA X [a] ta) (c:starEach [a] X.env=[(false,eval a X.env)]:=by rfl):PI X tg (.Call (.Name "range" p) [a] [] pos) (Cn ta):=by
 intro pins s Y H R I h
 refine Call_ (fW I k hm boot_range (PyProof.Rows.callWith_type1 (thn (i pos pins s Y H _ I h) λus s1 #[l,H1,d,f,b]=>?_) c rfl))
 obtain ⟨j,e,b,g,q⟩:=b
 subst e
 cases f with
 | cons r rr =>
  cases rr
  obtain ⟨t,rfl⟩:=r
  exact call_range_1 (pL d (by omega) (by omega) b g (by simpa using q))
theorem uZ (u:Gl X "range") (hm:X.mg "range"=none) (o:PA X [a,b] ta) (g:starEach [a,b] X.env=[(false,eval a X.env),(false,eval b X.env)]:=by rfl) (c:starEach [b] X.env=[(false,eval b X.env)]:=by rfl) :
  PI X tg (.Call (.Name "range" p) [a,b] [] pos) (Cm ta):=by
 intro pins s Y H R I h
 refine Call_ (fW I u hm boot_range (PyProof.Rows.callWith_type1 (thn (o pos pins s Y H _ I h) λus s1 #[v,H1,k,m,d]=>?_) (by rw[g,c]) (by rw[c];rfl)))
 obtain ⟨i,j,e,⟨d,n,l,f⟩,q⟩:=d
 subst e
 cases m with
 | cons r rr =>
  cases rr with
  | cons r' rr =>
   cases rr
   obtain ⟨t,rfl⟩:=r
   obtain ⟨t',rfl⟩:=r'
   exact call_range_2 (pL k d n l f q)
def tFor (b:TI) (g:TG) (tb:TS):TS:=λD Y H=>b Y H λJ H1=>∃ W:Nat->Nat->St->Hp->Prop,(∃ m,W 0 m Y H1)/\∀ i m Y H,W i m Y H ->
 (J.stop i H/\D.nx Y H)\/(J.go i H/\∃ N:St->Hp->Prop,(∀ Y' H',N Y' H'->∃ a,a < m/\W (i+1) a Y' H')/\∀ x H',J.yld i H x H'->g x Y H' λY2 H2=>tb { D with nx:=N,ct:=N,bk:=D.nx } Y2 H2)
def lM (fp:List Addr) (h:Heap):List (Addr×Obj):=fp.filterMap λb=>(h.get? b).map λo=>(b,o)
theorem fS (a:b∈fp) (e:h.get? b=some o):(b,o)∈lM fp h:=List.mem_filterMap.mpr #[b,a,by rw[e];rfl]
theorem u7 (a:p∈lM fp h):p.1∈fp/\h.get? p.1=some p.2:=by
 obtain ⟨b,c,e⟩:=List.mem_filterMap.mp a
 cases q:h.get? b with
 | none=>rw[q] at e;cases e
 | some o =>
  rw[q] at e
  have d:(b,o)=p:=F6 e
  subst d
  exact #[c,q]
theorem Inv.pinned (I:Inv X pins Y H s) (hf:∀ b∈fp,FpOk X pins H b) (g:∀ b∈fp,∃ o,s.heap.get? b=some o/\∀ v,o.data≠.cell v):Inv X (pins++lM fp s.heap) Y H s :=
 I.pins_of λp f=>(Fq.mp f).elim (λz=>I.pin p (Fj _ z)) λz=>by
  obtain ⟨c,e⟩:=u7 z
  obtain ⟨f0,f1,f2,_⟩:=hf p.1 c
  obtain ⟨o,a,d⟩:=g p.1 c
  rw[e] at a;cases a
  exact #[e,f0,f1,f2,d]
theorem Inv.unpinned (I:Inv X (pins++pl) Y H s):Inv X pins Y H s:=I.pins_of λp a=>I.pin p (Fj _ (Fi _ a))
theorem DK (y:PassesOwn (model X.prog X.w) X.A X.env X.xe) (L:X.calm=true) (hi:PI X tg iter wi) (hg:PG X tg g) (k:PSs X body tb) (hs:∀ x,foldedSetIterable iter X.env x=pure x:=by intro _;rfl):PS X (.For tg iter body [] pos) (tFor wi g tb):=by
 intro pins s Y H D I h
 refine wpAny_For (thn (hi pins s Y H _ I h) λv s1 h1=>thn h1 λar s2 h2=>?_) hs
 obtain ⟨it,fp,M,J,H2,e,I2,T,G,f2,W,⟨m0,w0⟩,turn⟩:=h2
 subst e
 have c:∀ {H':Hp},(∀ b∈fp,H' b=none)->∀ b∈fp,FpOk X pins H' b:=λτ b k=>#[τ b k,(f2 b k).2]
 refine codeAny_forLoop_any (λn s'=>∃ i Y' H',Inv X pins Y' H' s'/\M i s'.heap/\(∀ b∈fp,H' b=none)/\W i n Y' H') ?_ m0 #[0,Y,H2,I2,G,λb k=>(f2 b k).1,w0]
 rintro n s3 ⟨i,Y3,B,O,t,z,w3⟩
 rcases turn i n Y3 B w3 with ⟨stop,V⟩ | ⟨go,N,hN,step⟩
 .refine wpAny_passesOwn y (thn (T.done X rfl rfl rfl L i pins s3 Y3 B X.xe O (c z) t stop) λr s4 #[C,I4]=>?_)
  subst C
  exact wpAny_execs_nil #[Y3,B,I4,V]
 .refine wpAny_passesOwn y (thn (T.item X rfl rfl rfl L i pins s3 Y3 B X.xe O (c z) t go) λr s4 #[u,C,h4]=>?_)
  subst C
  refine wpAny_passesOwn y (thn h4 λ_ s5 #[x,P,R,σ,S,p,K]=>?_)
  have F:=R.pinned (c K) (T.obj _ _ p)
  refine wpAny_passesOwn y (thn (hg _ s5 Y3 P x u _ F σ (step x P S)) λ_ s6 #[Y6,H6,I6,q6]=>?_)
  refine wpAny_passesOwn y (thn (k _ s6 Y6 H6 _ I6 q6) λf E l=>?_)
  have again:∀ {Y7:St} {j:Hp},Inv X (pins++lM fp s5.heap) Y7 j E->N Y7 j->∃ m,m < n/\∃ i Y' H',Inv X pins Y' H' E/\M i E.heap/\(∀ b∈fp,H' b=none)/\W i m Y' H':=λ{Y7 j} a q=>by
   obtain ⟨ρ,hm,w7⟩:=hN Y7 j q
   refine #[ρ,hm,i+1,Y7,j,a.unpinned,T.keep _ _ _ p λb k o e=>(a.pin (b,o) (Fj _ (Fj _ (fS k e)))).1,λb k=>?_,w7]
   obtain ⟨o,e,d⟩:=T.obj _ _ p b k
   exact (a.pin (b,o) (Fj _ (Fj _ (fS k e)))).2.1
  cases f with
  | next=>obtain ⟨Y7,j,a,q⟩:=l;exact again a q
  | cont=>obtain ⟨Y7,j,a,q⟩:=l;exact again a q
  | brk=>obtain ⟨Y7,j,a,l⟩:=l;exact #[Y7,j,a.unpinned,l]
  | ret v=>obtain ⟨Q,Y7,j,a,r7,l⟩:=l;exact #[Q,Y7,j,a.unpinned,r7,l]
end
end L2
namespace L2
open PySem PySem.Spec PyProof.Rows
abbrev R2:=V->V->Hp->VK->Prop
def OpR (X:Cx) (f:Value->Value->Sem Value) (r:R2):Prop :=
 ∀ (pins:List (Addr×Obj)) (s:Shared) (Y:St) (H:Hp) (x y:V) (v u:Value) (Q:VK),Inv X pins Y H s->RelV x v->RelV y u->r x y H Q ->
  wpAny (model X.prog X.w) X.A (f v u) (EP X pins Y Q) X.xe s
def UnR (X:Cx) (f:Value->Sem Value) (r:V->Hp->VK->Prop):Prop :=
 ∀ (pins:List (Addr×Obj)) (s:Shared) (Y:St) (H:Hp) (x:V) (v:Value) (Q:VK),Inv X pins Y H s->RelV x v->r x H Q ->
  wpAny (model X.prog X.w) X.A (f v) (EP X pins Y Q) X.xe s
def CallR (X:Cx) (f:Value) (r:List V->Hp->VK->Prop):Prop :=
 ∀ (pins:List (Addr×Obj)) (s:Shared) (Y:St) (H:Hp) (xs:List V) (us:List Value) (Q:VK),Inv X pins Y H s->Vals xs us->r xs H Q ->
  wpAny (model X.prog X.w) X.A (call f us) (EP X pins Y Q) X.xe s
def tOp (r:R2) (ta tb:TE):TE:=λY H Q=>ta Y H λx H1=>tb Y H1 λy H2=>r x y H2 Q
def tUn (r:V->Hp->VK->Prop) (ta:TE):TE:=λY H Q=>ta Y H λx H1=>r x H1 Q
def rI (C:Int->Int->Prop) (g:Int->Int->V):R2:=λx y H Q=>∃ i j,x=.int i/\y=.int j/\C i j/\Q (g i j) H
def rI0 (g:Int->Int->V):R2:=λx y H Q=>∃ i j,x=.int i/\y=.int j/\Q (g i j) H
def rU (g:Int->V):V->Hp->VK->Prop:=λx H Q=>∃ i,x=.int i/\Q (g i) H
section
variable {X:Cx} {a b c:Expr} {ta tb tc:TE} {pos:Pos}
theorem E2 (l:PE X a ta) (m:PE X b tb) {R:V->V->Hp->Prop} (I:Inv X pins Y H s) (h:ta Y H λx H1=>tb Y H1 λy H2=>R x y H2) {f:Value->Value->Sem Value} (hf:∀ v u s2 x y H2,Inv X pins Y H2 s2->RelV x v->RelV y u->R x y H2->wpAny (model X.prog X.w) X.A (f v u) Q X.xe s2) :
  wpAny (model X.prog X.w) X.A (eval a X.env) (λv k=>wpAny (model X.prog X.w) X.A (eval b X.env) (λu n=>wpAny (model X.prog X.w) X.A (f v u) Q X.xe n) X.xe k) X.xe s:=by
 refine thn (l pins s Y H _ I h) λv s1 #[x,H1,g,i,c]=>?_
 refine thn (m pins s1 Y H1 _ g c) λu s2 #[y,H2,e,d,j]=>?_
 exact hf v u s2 x y H2 e i d j
theorem pe_op (f:OpR X (binaryOp op) r) (g:PE X a ta) (i:PE X b tb):PE X (.BinOp a op b pos) (tOp r ta tb):=by
 intro pins s Y H Q I h
 exact wpAny_BinOp (E2 g i I h λv u s2 x y H2 d c e q=>f pins s2 Y H2 x y v u Q d c e q)
theorem pe_un (e:UnR X (unaryOp op) r) (f:PE X a ta):PE X (.UnaryOp op a pos) (tUn r ta):=by
 intro pins s Y H Q I h
 exact UnaryOp_ (thn (f pins s Y H _ I h) λv s1 #[x,H1,c,d,b]=>e pins s1 Y H1 x v Q c d b)
theorem opI {g:Int->Int->Int} (rule:∀ (i j:Int) (t u:Tok) (s:Shared) (Q:Value->Shared->Prop) (E:Value->Shared->Prop),C i j->Q (.int (g i j) s.toks) { s with toks:=s.toks+1 }->wpAny (model X.prog X.w) X.A (f (.int i t) (.int j u)) Q E s) :
  OpR X f (rI C λi j=>.int (g i j)):=by
 intro pins s Y H x y v u Q I a c h
 obtain ⟨i,j,rfl,rfl,b,q⟩:=h
 obtain ⟨t,rfl⟩:=a
 obtain ⟨t',rfl⟩:=c
 exact rule i j t t' s _ _ b #[.int (g i j),H,I.tok _,#[_,rfl],q]
theorem opI0 {g:Int->Int->Int} (rule:∀ (i j:Int) (t u:Tok) (s:Shared) (Q:Value->Shared->Prop) (E:Value->Shared->Prop),Q (.int (g i j) s.toks) { s with toks:=s.toks+1 }->wpAny (model X.prog X.w) X.A (f (.int i t) (.int j u)) Q E s) :
  OpR X f (rI0 λi j=>.int (g i j)):=by
 intro pins s Y H x y v u Q I a b h
 obtain ⟨i,j,rfl,rfl,q⟩:=h
 obtain ⟨t,rfl⟩:=a
 obtain ⟨t',rfl⟩:=b
 exact rule i j t t' s _ _ #[.int (g i j),H,I.tok _,#[_,rfl],q]
theorem Eh {g:Int->Int->Bool} (rule:∀ (i j:Int) (t u:Tok) (s:Shared) (Q:Value->Shared->Prop) (E:Value->Shared->Prop),Q (.bool (g i j)) s->wpAny (model X.prog X.w) X.A (f (.int i t) (.int j u)) Q E s) :
  OpR X f (rI0 λi j=>.bl (g i j)):=by
 intro pins s Y H x y v u Q I a b h
 obtain ⟨i,j,rfl,rfl,q⟩:=h
 obtain ⟨t,rfl⟩:=a
 obtain ⟨t',rfl⟩:=b
 exact rule i j t t' s _ _ #[.bl (g i j),H,I,rfl,q]
def wj (i j:Int):Prop:=0 < j/\j < 1073741824
def zA (i j:Int):Prop:=0<=j/\j<=1000000/\i.natAbs < 2 ^ 64
def CMul (i j:Int):Prop:=(-(2 ^ 64) < i/\i < 2 ^ 64)\/(-(2 ^ 64) < j/\j < 2 ^ 64)
theorem CMul.ok {i j:Int} (h:CMul i j):IntMulOk i j:=by
 rcases h with ⟨h1,h2⟩ | ⟨h1,h2⟩
 .exact .of_left (intBits_le_64 h1 h2)
 .exact .of_right (intBits_le_64 h1 h2)
theorem op_add:OpR X (binaryOp .Add) (rI0 λi j=>.int (i+j)):=opI0 λ_ _ _ _ _ _ _ q=>add_int q
theorem DZ:OpR X (binaryOp .Sub) (rI0 λi j=>.int (i - j)):=opI0 λ_ _ _ _ _ _ _ q=>sub_int q
theorem Ed:OpR X (binaryOp .Mult) (rI CMul λi j=>.int (i * j)):=opI λ_ _ _ _ _ _ _ a q=>mul_int q a.ok
theorem Ee:OpR X (binaryOp .Mod) (rI (λ_ j=>0 < j) λi j=>.int (i % j)):=opI λi j _ _ _ _ _ a q=>by
 have h1:(0:Int) < j:=a
 exact mod_int' (by omega) (by rw[Int.fmod_eq_emod_of_nonneg i (by omega)];exact q)
theorem Ea:OpR X (binaryOp .Pow) (rI zA λi j=>.int (i ^ j.toNat)):=opI λ_ _ _ _ _ _ _ a q=>pow_int_small a.1 a.2.1 a.2.2 q
theorem unI {g:Int->Int} (rule:∀ (i:Int) (t:Tok) (s:Shared) (Q:Value->Shared->Prop) (E:Value->Shared->Prop),Q (.int (g i) s.toks) { s with toks:=s.toks+1 }->wpAny (model X.prog X.w) X.A (f (.int i t)) Q E s) :
  UnR X f (rU λi=>.int (g i)):=by
 intro pins s Y H x v Q I a h
 obtain ⟨i,rfl,q⟩:=h
 obtain ⟨t,rfl⟩:=a
 exact rule i t s _ _ #[.int (g i),H,I.tok _,#[_,rfl],q]
theorem CC:UnR X (unaryOp .USub) (rU λi=>.int (-i)):=unI λ_ _ _ _ _ q=>neg_int q
end
def C9:V->V->Bool
 | .non,.non=>true | .non,.int _=>true | .int _,.non=>true | .non,.bl _=>true | .bl _,.non=>true | .non,.str _=>true | .str _,.non=>true
 | .int _,.int _=>true | .bl _,.bl _=>true | .str _,.str _=>true | .byt _,.byt _=>true
 | .int _,.str _=>true | .str _,.int _=>true | .bl _,.str _=>true | .str _,.bl _=>true
 | _,_=>false
def rEq:R2:=λx y H Q=>C9 x y=true/\Q (.bl (decide (x=y))) H
def rNe:R2:=λx y H Q=>C9 x y=true/\Q (.bl (!decide (x=y))) H
theorem uj {i j:Int}:decide (V.int i=V.int j)=(i == j):=by
 rw[Bool.eq_iff_iff]
 simp
theorem yY:decide (V.bl i=V.bl j)=(i == j):=by
 rw[Bool.eq_iff_iff]
 simp
theorem ui:decide (V.str i=V.str j)=(i == j):=by
 rw[Bool.eq_iff_iff]
 simp
theorem uk:decide (V.byt i=V.byt j)=(i.toList == j.toList):=by
 rw[Bool.eq_iff_iff]
 cases i
 cases j
 simp
section
variable {X:Cx} {a b c:Expr} {ta tb tc:TE} {pos:Pos}
theorem aM (I:Inv X pins Y H s) (q:Q (.bl k) H) (e:k=k'):EP X pins Y Q (.bool k') s:=by
 subst e
 exact #[.bl k,H,I,rfl,q]
theorem op_eq:OpR X (compareOp .Eq) rEq:=by
 intro pins s Y H x y v u Q I c a h
 obtain ⟨b,q⟩:=h
 cases x with
 | non =>
  cases c
  cases y with
  | non=>cases a;exact PySem.EqNone.eq_none_none (aM I q (by simp))
  | bl j=>cases a;exact PySem.EqNone.eq_none_bool (aM I q (by simp))
  | int j=>obtain ⟨t',rfl⟩:=a;exact PySem.EqNone.eq_none_int (aM I q (by simp))
  | str j=>obtain ⟨t',rfl⟩:=a;exact PySem.EqNone.eq_none_str (aM I q (by simp))
  | _=>exact absurd (show false=true from b) FC
 | bl i =>
  cases c
  cases y with
  | non=>cases a;exact PySem.EqNone.eq_bool_none (aM I q (by simp))
  | bl j=>cases a;exact eq_bool (aM I q yY)
  | str j=>obtain ⟨t',rfl⟩:=a;exact PySem.EqMixed.eq_bool_str (aM I q (by simp))
  | _=>exact absurd (show false=true from b) FC
 | int i =>
  obtain ⟨t,rfl⟩:=c
  cases y with
  | non=>cases a;exact PySem.EqNone.eq_int_none (aM I q (by simp))
  | int j=>obtain ⟨t',rfl⟩:=a;exact eq_int (aM I q uj)
  | str j=>obtain ⟨t',rfl⟩:=a;exact PySem.EqMixed.eq_int_str (aM I q (by simp))
  | _=>exact absurd (show false=true from b) FC
 | str i =>
  obtain ⟨t,rfl⟩:=c
  cases y with
  | non=>cases a;exact PySem.EqNone.eq_str_none (aM I q (by simp))
  | bl j=>cases a;exact PySem.EqMixed.eq_str_bool (aM I q (by simp))
  | int j=>obtain ⟨t',rfl⟩:=a;exact PySem.EqMixed.eq_str_int (aM I q (by simp))
  | str j=>obtain ⟨t',rfl⟩:=a;exact eq_str (aM I q ui)
  | _=>exact absurd (show false=true from b) FC
 | byt i =>
  obtain ⟨t,rfl⟩:=c
  cases y with
  | byt j=>obtain ⟨t',rfl⟩:=a;exact PySem.W.eq_bytes (aM I q uk)
  | _=>exact absurd (show false=true from b) FC
 | _=>cases y <;> exact absurd (show false=true from b) FC
theorem op_ne:OpR X (compareOp .NotEq) rNe:=by
 intro pins s Y H x y v u Q I c a h
 obtain ⟨b,q⟩:=h
 cases x with
 | non =>
  cases c
  cases y with
  | non=>cases a;exact PySem.EqNone.ne_none_none (aM I q (by simp))
  | bl j=>cases a;exact PySem.EqNone.ne_none_bool (aM I q (by simp))
  | int j=>obtain ⟨t',rfl⟩:=a;exact PySem.EqNone.ne_none_int (aM I q (by simp))
  | str j=>obtain ⟨t',rfl⟩:=a;exact PySem.EqNone.ne_none_str (aM I q (by simp))
  | _=>exact absurd (show false=true from b) FC
 | bl i =>
  cases c
  cases y with
  | non=>cases a;exact PySem.EqNone.ne_bool_none (aM I q (by simp))
  | bl j=>cases a;exact ne_bool (aM I q (congrArg not yY))
  | str j=>obtain ⟨t',rfl⟩:=a;exact PySem.EqMixed.ne_bool_str (aM I q (by simp))
  | _=>exact absurd (show false=true from b) FC
 | int i =>
  obtain ⟨t,rfl⟩:=c
  cases y with
  | non=>cases a;exact PySem.EqNone.ne_int_none (aM I q (by simp))
  | int j=>obtain ⟨t',rfl⟩:=a;exact ne_int (aM I q (congrArg not uj))
  | str j=>obtain ⟨t',rfl⟩:=a;exact PySem.EqMixed.ne_int_str (aM I q (by simp))
  | _=>exact absurd (show false=true from b) FC
 | str i =>
  obtain ⟨t,rfl⟩:=c
  cases y with
  | non=>cases a;exact PySem.EqNone.ne_str_none (aM I q (by simp))
  | bl j=>cases a;exact PySem.EqMixed.ne_str_bool (aM I q (by simp))
  | int j=>obtain ⟨t',rfl⟩:=a;exact PySem.EqMixed.ne_str_int (aM I q (by simp))
  | str j=>obtain ⟨t',rfl⟩:=a;exact ne_str (aM I q (congrArg not ui))
  | _=>exact absurd (show false=true from b) FC
 | byt i =>
  obtain ⟨t,rfl⟩:=c
  cases y with
  | byt j=>obtain ⟨t',rfl⟩:=a;exact PySem.W.ne_bytes (aM I q (congrArg not uk))
  | _=>exact absurd (show false=true from b) FC
 | _=>cases y <;> exact absurd (show false=true from b) FC
theorem tG:OpR X (compareOp .Lt) (rI0 λi j=>.bl (decide (i < j))):=Eh λ_ _ _ _ _ _ _ q=>lt_int q
theorem lS:OpR X (compareOp .LtE) (rI0 λi j=>.bl (decide (i<=j))):=Eh λ_ _ _ _ _ _ _ q=>le_int q
theorem op_gt:OpR X (compareOp .Gt) (rI0 λi j=>.bl (decide (j < i))):=Eh λ_ _ _ _ _ _ _ q=>gt_int q
theorem Ef:OpR X (compareOp .Is) (λx y H Q=>y=.non /\ Q (.bl (decide (x=.non))) H):=by
  intro pins s Y H x y v u Q I a b h
  obtain ⟨rfl,q⟩:=h
  cases b
  refine is_none_gen (aM I q ?_)
  cases x <;> first
    | (cases a; rfl)
    | (obtain ⟨t,rfl⟩:=a; rfl)
theorem OpR.or (h:OpR X f r) (h':OpR X f r'):OpR X f (λx y H Q=>r x y H Q\/r' x y H Q):=by
 intro pins s Y H x y v u Q I a b q
 rcases q with q | q
 .exact h pins s Y H x y v u Q I a b q
 .exact h' pins s Y H x y v u Q I a b q
theorem eX (b:Expr) (h:op≠.In:=by decide) (h2:op≠.NotIn:=by decide):behindInMarks op b=false:=by
  have e1:(op == CmpOp.In)=false:=by cases op <;> first | rfl | exact absurd rfl h
  have a:(op == CmpOp.NotIn)=false:=by cases op <;> first | rfl | exact absurd rfl h2
  cases b <;> simp[behindInMarks,e1,a]
theorem AX (f:OpR X (compareOp op) r) (g:PE X a ta) (i:PE X b tb) (hm:behindInMarks op b=false):PE X (.Compare a [op] [b] pos) (tOp r ta tb):=by
 intro pins s Y H Q I h
 exact wpAny_Compare1 (E2 g i I h λv u s2 x y H2 d c e q=>f pins s2 Y H2 x y v u Q d c e q) hm
def tTest (t:TE):TT:=λY H Q=>t Y H λx H'=>∃ k,x=.bl k/\Q k H'
theorem AJ (q:OpR X (compareOp op) r) (t:PE X a ta) (w:PE X b tb) (hm:behindInMarks op b=false):PT X (.Compare a [op] [b] pos) (tTest (tOp r ta tb)):=by
 intro pins s Y H Q I h
 refine wpAny_isTrue_Compare1 (thn (t pins s Y H _ I h) λv s1 #[x,H1,n,o,f]=>thn (w pins s1 Y H1 _ n f) λu s2 #[y,H2,j,g,p] =>
  thn (q pins s2 Y H2 x y v u _ j o g p) λc s3 #[z,l,d,i,k,e,m]=>?_) hm
 subst e
 cases i
 exact FY #[l,d,m]
def qV (r b:R2) (ta tb tc:TE):TE:=λY H Q=>ta Y H λx H1=>tb Y H1 λy H2=>r x y H2 λz a=>∃ k,z=.bl k /\
 (if k=true then tc Y a λc d=>b y c d Q else Q (.bl false) a)
theorem pO (t:OpR X (compareOp op) r) (f:OpR X (compareOp op') r') (w:PE X a ta) (K:PE X b tb) (C:PE X c tc) (hm:lastMarks [op,op'] [b,c]=false:=by with_unfolding_all rfl):PE X (.Compare a [op,op'] [b,c] pos) (qV r r' ta tb tc):=by
 intro pins s Y H Q I h
 refine Compare_chain (thn (w pins s Y H _ I h) λv s1 #[x,H1,p,q,m]=>chain_link (thn (K pins s1 Y H1 _ p m) λu s2 #[y,H2,D,l,G] =>
  thn (t pins s2 Y H2 x y v u _ D q l G) λd s3 #[z,g,j,n,k,e,i]=>?_)) hm
 subst e
 cases n
 refine FY ?_
 cases k with
 | false=>exact ite_ff #[.bl false,g,j,rfl,i]
 | true=>exact ite_tt (chain_last (thn (C pins s3 Y g _ j i) λF s4 #[J,E,o,A,B]=>f pins s4 Y E y J u F Q o l A B))
theorem l5:(sizeLine:Nat) < 2 ^ 63:=by rw[sizeLine_eq];decide
theorem op_add_str:OpR X (binaryOp .Add) (λx y H Q=>∃ i j,x=.str i/\y=.str j/\i.length+j.length<=sizeLine/\Q (.str (i++j)) H):=by
 intro pins s Y H x y v u Q I a b h
 obtain ⟨i,j,rfl,rfl,hz,q⟩:=h
 obtain ⟨t,rfl⟩:=a
 obtain ⟨t',rfl⟩:=b
 exact add_str (λt' tk=>#[.str (i++j),H,I.tok _,#[_,rfl],q]) hz
theorem eE (r:Vals [x] us):∃ u,us=[u]/\RelV x u:=by
 cases r with
 | cons r1 r2=>cases r2;exact #[_,rfl,r1]
theorem lu (r:Vals [x,y] us):∃ u a,us=[u,a]/\RelV x u/\RelV y a:=by
 cases r with
 | cons r1 r2 =>
  cases r2 with
  | cons r3 r4=>cases r4;exact #[_,_,rfl,r1,r3]
theorem zf:CallR X (.builtin "abs") (λxs H Q=>∃ i,xs=[.int i]/\Q (.int (if i < 0 then -i else i)) H):=by
 intro pins s Y H xs us Q I r h
 obtain ⟨i,rfl,q⟩:=h
 obtain ⟨u,rfl,t,rfl⟩:=eE r
 exact call_abs_int λu tk=>#[.int (if i < 0 then -i else i),H,I.tok _,#[_,rfl],q]
theorem vT (b:X.calm=true):CallR X (.builtin "max") (λxs H Q=>∃ i j,xs=[.int i,.int j]/\Q (.int (if j > i then j else i)) H):=by
 intro pins s Y H xs us Q I r h
 obtain ⟨i,j,rfl,q⟩:=h
 obtain ⟨u,c,rfl,⟨t,rfl⟩,⟨t',rfl⟩⟩:=lu r
 refine max_two_ints (I.ok.hd b) λh' tk k=>#[_,H,I.kept k,?_,q]
 by_cases a:j > i
 .rw[if_pos a,if_pos a];exact #[_,rfl]
 .rw[if_neg a,if_neg a];exact #[_,rfl]
theorem vP (b:X.calm=true):CallR X (.builtin "min") (λxs H Q=>∃ i j,xs=[.int i,.int j]/\Q (.int (if j < i then j else i)) H):=by
 intro pins s Y H xs us Q I r h
 obtain ⟨i,j,rfl,q⟩:=h
 obtain ⟨u,c,rfl,⟨t,rfl⟩,⟨t',rfl⟩⟩:=lu r
 refine min_two_ints (I.ok.hd b) λh' tk k=>#[_,H,I.kept k,?_,q]
 by_cases a:j < i
 .rw[if_pos a,if_pos a];exact #[_,rfl]
 .rw[if_neg a,if_neg a];exact #[_,rfl]
theorem vW:CallR X (.type "int") (λxs H Q=>(∃ i,xs=[.int i]/\Q (.int i) H)\/∃ k,xs=[.bl k]/\Q (.int (if k then 1 else 0)) H):=by
 intro pins s Y H xs us Q I r h
 rcases h with ⟨i,rfl,q⟩ | ⟨k,rfl,q⟩
 .obtain ⟨u,rfl,t,rfl⟩:=eE r
  exact call_int_int #[.int i,H,I,#[_,rfl],q]
 .obtain ⟨u,rfl,a⟩:=eE r
  cases a
  exact call_int_bool #[.int (if k then 1 else 0),H,I.tok _,#[_,rfl],q]
theorem qC:CallR X (.builtin "divmod") (λxs H Q=>∃ i j,xs=[.int i,.int j]/\wj i j/\∀ p,H p=none->Q (.ref p) (upd H p (.tup [.int (i / j),.int (i % j)]))):=by
 intro pins s Y H xs us Q I r h
 obtain ⟨i,j,rfl,⟨h1,h2⟩,q⟩:=h
 obtain ⟨u,c,rfl,⟨t,rfl⟩,⟨t',rfl⟩⟩:=lu r
 refine divmod_int (by omega) ?_ (.inl (PyProof.noPylong_small (by omega)))
 rw[Int.fdiv_eq_ediv_of_nonneg i (by omega),Int.fmod_eq_emod_of_nonneg i (by omega)]
 have a:H s.heap.objs.size=none:=I.hok.fresh (FA _)
 refine #[.ref s.heap.objs.size,_,?_,rfl,q _ a]
 refine I.laid (λb o e=>Fg _ e) (FA _) #[by simp only[FO,List.length_nil];rw[sizeLine_eq];decide,[.int (i / j) s.toks,.int (i % j) (s.toks+1)],.cons #[_,rfl] (.cons #[_,rfl] .nil),?_]
 exact #[_,Fs s.heap rfl,rfl,0,rfl]
end
end L2
namespace L2
open PySem PySem.Spec PyProof.Rows
theorem RelO.some_of (r:RelO (some v) o):∃ u,o=some u/\RelV v u:=by
 cases o with
 | none=>exact (show False from r).elim
 | some u=>exact #[u,rfl,r]
end L2
namespace L2
open PySem PySem.Spec PyProof.Rows
structure Room (k:Nat) (A:Around):Prop where
 hd:A.handled=none
 dp:A.depth+3 * k+5 < recursionLimit
 un:A.units+16 * k+200 < cLine
 gd:A.guards=some []
theorem Room.mono {j k:Nat} (r:Room k A) (h:j<=k):Room j A:=#[r.hd,by have:=r.dp;omega,by have:=r.un;omega,r.gd]
theorem Room.deeper {k:Nat} (r:Room (k+1) A) (env:Env):Room k (A.deeper env) :=
 #[r.hd,by have:=r.dp;show A.depth+1+3 * k+5 < _;omega,by have:=r.un;show A.units+3+16 * k+200 < _;omega,r.gd]
theorem Room.in1 {k:Nat} (r:Room (k+1) A):Room k A.in1 :=
 #[r.hd,by have:=r.dp;show A.depth+3 * k+5 < _;omega,by have:=r.un;show A.units+1+16 * k+200 < _;omega,r.gd]
theorem Room.depth {k:Nat} (r:Room k A):A.depth < recursionLimit:=by have:=r.dp;omega
theorem Room.units {k:Nat} (r:Room k A):A.units+64 < cLine:=by have:=r.un;omega
def zL:TA:=λ_ H Q=>Q [] H
def pw (ta:TE) (a:TA):TA:=λY H Q=>ta Y H λx H1=>a Y H1 λxs H2=>Q (x::xs) H2
section
variable {X:Cx} {e:Expr} {es:List Expr} {te:TE} {t:TA} {pos:Pos}
theorem rp:PA X [] zL:=λ_ _ _ _ H Q I h=>Calls.spliced_nil #[[],H,I,.nil,h]
theorem k8 (k:PE X e te) (c:PA X es t) (f:starEach (e::es) X.env=(false,eval e X.env)::starEach es X.env:=by rfl):PA X (e::es) (pw te t):=by
 intro pos pins s Y H Q I h
 rw[f]
 show wpAny _ _ (spliced ((false,eval e X.env)::backTo pos (starEach es X.env))) _ _ s
 refine Calls.spliced_cons (thn (k pins s Y H _ I h) λu s1 #[x,H1,g,i,a]=>?_)
 exact thn (c pos pins s1 Y H1 _ g a) λus s2 #[xs,H2,d,b,j]=>#[x::xs,H2,d,.cons i b,j]
def tTup (t:TA):TE:=λY H Q=>t Y H λxs H1=>xs.length<=sizeLine/\∀ p,H1 p=none->Q (.ref p) (upd H1 p (.tup xs))
def tLst (t:TA):TE:=λY H Q=>t Y H λxs H1=>xs.length<=sizeLine/\∀ p,H1 p=none->Q (.ref p) (upd H1 p (.lst xs))
theorem DO (h:PA X es t):PE X (.Tuple es x1 pos) (tTup t):=by
 intro pins s Y H Q I c
 refine wpAny_Tuple_spliced (thn (h pos pins s Y H _ I c) λus s1 #[xs,H1,a,r,z,q]=>#[by rw[<- r.length];exact z,?_])
 have hf:H1 s1.heap.objs.size=none:=a.hok.fresh (FA _)
 refine #[.ref s1.heap.objs.size,upd H1 s1.heap.objs.size (.tup xs),a.laid (t':=s1.toks) (λb u e=>Fg _ e) (FA _) ?_,rfl,q _ hf]
 exact #[z,us,r,#[_,Fs _ rfl,rfl,_,rfl]]
theorem DS (h:PA X es t):PE X (.List es pos) (tLst t):=by
 intro pins s Y H Q I c
 refine wpAny_List_spliced (thn (h pos pins s Y H _ I c) λus s1 #[xs,H1,a,r,z,q]=>#[by rw[<- r.length];exact z,?_])
 have hf:H1 s1.heap.objs.size=none:=a.hok.fresh (FA _)
 refine #[.ref s1.heap.objs.size,upd H1 s1.heap.objs.size (.lst xs),a.laid (t':=s1.toks) (λb u e=>Fg _ e) (FA _) ?_,rfl,q _ hf]
 exact #[z,us,0,r,Fs _ rfl]
end
abbrev Sp:=List V->Hp->VK->XK->Prop
abbrev CXT:=List Env->Hp->Shared->XK->Value->Shared->Prop
structure Env0 (P:Program) (w:World) (K:FG) (mg:Str->Option Value) (base:Heap) (A:Around) (outer:List Env) (s:Shared) (H:Hp):Prop where
 frames:A.frames=some outer
 mod:Mod K mg base
 bs:∀ b o,base.get? b=some o->s.heap.get? b=some o/\H b=none
 bsz:base.objs.size<=s.heap.objs.size
 funs:s.heap.FunFrames base outer
 frf:∀ b∈frs outer,H b=none
 hok:HOk P w H s.heap
 bare:AllBare s.gens
def CE (outer:List Env) (P:Program) (w:World) (H:Hp) (s:Shared) (Q:VK) (u:Value) (s':Shared):Prop :=
 ∃ v H',s'.os=s.os/\AllBare s'.gens/\Un (frs outer) [] H H' s.heap s'.heap/\HOk P w H' s'.heap/\RelV v u/\Q v H'
def CR (CX:CXT) (outer:List Env) (P:Program) (w:World) (H:Hp) (s:Shared) (Q:VK) (E:XK) (r:Result) (s':Shared):Prop :=
 match r with
 | .ok (.ret u)=>CE outer P w H s Q u s'
 | .ok _=>False
 | .error e=>CX outer H s E e s'
structure FnOk (P:Program) (w:World) (K:FG) (mg:Str->Option Value) (base:Heap) (CX:CXT) (k:Nat) (f:Addr) (fd:FuncData) (ps:List Str) (sp:Sp):Prop where
 len:∀ vs H Q E,sp vs H Q E->vs.length=ps.length
 run:∀ (A:Around) (outer:List Env) (s:Shared) (H:Hp) (args:Args) (us:List Value) (vs:List V) (Q:VK) (E:XK),Room k A->Env0 P w K mg base A outer s H->BindsTo s fd args (ps.zip us)->Vals vs us->sp vs H Q E ->
  codeAny (model P w) A (.call (.ref f) args) (CR CX outer P w H s Q E) s
theorem FnOk.imp {K:FG} {k:Nat} (F:FnOk P w K mg base CX k f fd ps sp) (h:∀ a H Q E,sp' a H Q E->sp a H Q E):FnOk P w K mg base CX k f fd ps sp' :=
 #[λa H Q E q=>F.len a H Q E (h _ _ _ _ q),λA outer s H args us a Q E c he e b d=>F.run A outer s H args us a Q E c he e b (h _ _ _ _ d)]
theorem Env0.in1 {K:FG} (e:Env0 P w K mg base A outer s H) :
  Env0 P w K mg base A.in1 outer s H:=#[e.frames,e.mod,e.bs,e.bsz,e.funs,e.frf,e.hok,e.bare]
section
variable {X:Cx} {pins:List (Addr×Obj)} {Y:St} {H:Hp} {s s':Shared}
theorem Inv.env0 (I:Inv X pins Y H s):Env0 X.prog X.w X.K X.mg X.base X.A X.stack s H :=
 #[I.ok.frames,I.ok.mod,I.bs,FZ I.ok.bsz I.sz,I.stack,I.stkFree,I.hok,I.bare]
theorem Inv.after (I:Inv X pins Y H s) (h:CE X.stack X.prog X.w H s Q u s'):EP X pins Y Q u s':=by
 obtain ⟨v,H',os,bare,un,hok,r,q⟩:=h
 obtain ⟨c,g,d,t,a⟩:=s'
 obtain rfl:a=s.os:=os
 exact #[v,H',I.call (h':=c) (g':=g) (d':=d) (t':=t) (ch:=[]) un hok bare (λb z=>absurd z (by simp)),r,q]
end
def tCall (sp:Sp) (dvs:List V) (E:XK) (t:TA):TE:=λY H Q=>t Y H λa H1=>sp (a++dvs) H1 Q E
def Binds (K:FG) (fd:FuncData) (ps:List Str) (ds:List Value):Prop :=
 ∀ (s:Shared) (us:List Value),K.In s.heap->(us++ds).length=ps.length->BindsTo s fd #[us,[]] (ps.zip (us++ds))
theorem Binds.all {K:FG} (h:∀ us:List Value,us.length=ps.length->bindArgs fd #[us,[]]=pure (ps.zip us)):Binds K fd ps []:=λs us _ a=>by
 rw[List.append_nil] at a ⊢
 exact .of_eq (h us a)
def sN (CX:CXT) (X:Cx) (E:XK):Prop:=∀ (pins:List (Addr×Obj)) (Y:St) (H:Hp) (s:Shared) (e:Value) (s':Shared),Inv X pins Y H s->CX X.stack H s E e s'->X.xe e s'
section
variable {X:Cx} {CX:CXT} {k:Nat} {f C:Addr} {fd:FuncData} {ps:List Str} {sp:Sp} {dvs:List V} {ds:List Value} {E:XK} {x m:Str} {p pos apos:Pos} {e o:Expr} {es:List Expr} {ta:TE} {t:TA}
theorem Dg (F:FnOk X.prog X.w X.K X.mg X.base CX k f fd ps sp) (g:Room k X.A) (d:Binds X.K fd ps ds) (hd:Vals dvs ds) (i:sN CX X E) (I:Inv X pins Y H s) (r:Vals vs us) (h:sp (vs++dvs) H Q E):wpAny (model X.prog X.w) X.A (call (.ref f) us) (EP X pins Y Q) X.xe s:=by
 have b:Vals (vs++dvs) (us++ds):=r.append hd
 have c:(us++ds).length=ps.length:=by rw[<- b.length];exact F.len _ _ _ _ h
 refine wpAny_call (codeAny_mono (F.run X.A X.stack s H #[us,[]] (us++ds) (vs++dvs) Q E g I.env0 (d s us I.kIn c) b h) λr s' a=>?_)
 cases r with
 | error e=>exact i pins Y H s e s' I a
 | ok fl =>
  cases fl with
  | ret u=>exact I.after a
  | next=>exact False.elim a
  | brk=>exact False.elim a
  | cont=>exact False.elim a
theorem AY (F:FnOk X.prog X.w X.K X.mg X.base CX k f fd ps sp) (d:Room k X.A) (m:Gl X x) (hm:X.mg x=some (.ref f)) (l:PySem.W.keepIn X.K (.ref f)=true) (j:Binds X.K fd ps ds) (hd:Vals dvs ds) (g:sN CX X E)
  (i:PA X (e::es) t) (b:(x == ("__debug__":Str))=false:=by decide) (he:starEach (e::es) X.env=(false,eval e X.env)::starEach es X.env:=by rfl) (a:(backTo pos (starEach es X.env)).any (·.1)=false:=by rfl) :
  PE X (.Call (.Name x p) (e::es) [] pos) (tCall sp dvs E t):=by
 intro pins s Y H Q I h
 refine wpAny_Call_Name_kw (tY I m hm ?_ b)
 refine PySem.W.callWith_K (h₀:=X.base) I.ok.mod.kin l (thn (i pos pins s Y H _ I h) λus s1 #[n,H1,c,r,q]=>#[c.kIn,?_]) he a
 exact Dg F d j hd g c r q
end
def PK (X:Cx) (kws:List Keyword) (t:TA):Prop :=
 ∀ (pos:Pos) (pins:List (Addr×Obj)) (s:Shared) (Y:St) (H:Hp) (Q:List V->Hp->Prop),Inv X pins Y H s->t Y H Q->wpAny (model X.prog X.w) X.A (evalAll ((backToKw pos (keywordEach kws X.env)).map (·.2))) (AP X pins Y Q) X.xe s
section
variable {X:Cx} {CX:CXT} {k:Nat} {f C:Addr} {fd:FuncData} {ps ks:List Str} {sp:Sp} {E:XK} {x m:Str} {p pos apos kpos:Pos} {e o:Expr} {es:List Expr} {kws:List Keyword} {te ta:TE} {t tk:TA} {nm:Option Str}
theorem DL:PK X [] zL:=λ_ _ _ _ H Q I h=>wpAny_evalAll_nil #[[],H,I,.nil,h]
theorem AR (j:PE X e te) (c:PK X kws t):PK X (#[nm,e,kpos]::kws) (pw te t):=by
 intro pos pins s Y H Q I h
 show wpAny _ _ (evalAll ((do let v <- eval e X.env;standAt pos;pure v)::(backToKw pos (keywordEach kws X.env)).map (·.2))) _ _ s
 refine wpAny_evalAll_cons (Fb (thn (j pins s Y H _ I h) λu s1 #[x,H1,f,g,a]=>Fb (wpAny_standAt (Fc ?_))))
 exact thn (c pos pins s1 Y H1 _ f a) λus s2 #[xs,H2,d,b,i]=>#[x::xs,H2,d,.cons g b,i]
variable {g:List Value->List Value->List Value} {gV:List V->List V->List V}
end
structure FnScope (N P:List Str) (sc:Scope):Prop where
 kind:sc.kind=.function
 co:sc.isCoroutine=false
 gen:sc.isGenerator=false
 nd:N.Nodup
 pre:N.take P.length=P
 par:∀ x∈P,sc.names.lookup x=some .local\/sc.names.lookup x=some .cell
 nofree:∀ y∈sc.names,y.2≠.free
theorem nV {kindOf:Str->Option NameKind}:∀ {binds:List (Str×Value)} {m:Str->Option Value},(∀ v,(x,v) ∉ binds)->bindL kindOf binds m x=m x
 | [],_,_=>rfl
 | (n,v)::r,m,h=>by
  unfold bindL
  rw[nV λw hw=>h w (Ff _ hw)]
  split
  .have:x≠n:=by rintro rfl;exact h v Fe
   simp[this]
  .rfl
theorem nX {kindOf:Str->Option NameKind}:∀ {binds:List (Str×Value)} {m:Str->Option Value},(∀ v,(x,v) ∉ binds)->bindC kindOf binds m x=m x
 | [],_,_=>rfl
 | (n,v)::r,m,h=>by
  unfold bindC
  rw[nX λw hw=>h w (Ff _ hw)]
  split
  .rfl
  .have:x≠n:=by rintro rfl;exact h v Fe
   simp[this]
theorem nW {kindOf:Str->Option NameKind}:∀ {P:List Str} {a:List Value} {i:Nat} {m:Str->Option Value},P.Nodup->P[i]?=some x->a[i]?=some v->kindOf x=some .local ->
  bindL kindOf (P.zip a) m x=some v
 | [],_,_,_,_,h,_,_=>by simp at h
 | _::_,[],_,_,_,_,h,_=>by simp at h
 | p::P,w::a,0,m,nd,h1,h2,hk=>by
  simp at h1 h2;subst h1;subst h2
  show bindL kindOf ((p,w)::P.zip a) m p=_
  unfold bindL
  rw[nV λv b=>(List.nodup_cons.mp nd).1 (List.of_mem_zip b).1,if_pos hk]
  simp
 | p::P,w::a,i+1,m,nd,h1,h2,hk=>by
  show bindL kindOf ((p,w)::P.zip a) m x=_
  unfold bindL
  exact nW (i:=i) (List.nodup_cons.mp nd).2 (by simpa using h1) (by simpa using h2) hk
theorem nY {kindOf:Str->Option NameKind}:∀ {P:List Str} {a:List Value} {i:Nat} {m:Str->Option Value},P.Nodup->P[i]?=some x->a[i]?=some v->kindOf x≠some .local ->
  bindC kindOf (P.zip a) m x=some v
 | [],_,_,_,_,h,_,_=>by simp at h
 | _::_,[],_,_,_,_,h,_=>by simp at h
 | p::P,w::a,0,m,nd,h1,h2,hk=>by
  simp at h1 h2;subst h1;subst h2
  show bindC kindOf ((p,w)::P.zip a) m p=_
  unfold bindC
  rw[nX λv b=>(List.nodup_cons.mp nd).1 (List.of_mem_zip b).1,if_neg hk]
  simp
 | p::P,w::a,i+1,m,nd,h1,h2,hk=>by
  show bindC kindOf ((p,w)::P.zip a) m x=_
  unfold bindC
  exact nY (i:=i) (List.nodup_cons.mp nd).2 (by simpa using h1) (by simpa using h2) hk
def km (N:List Str) (a:List V):St:=a.map some++List.replicate (N.length - a.length) none
def qw (CX:CXT) (P:Program) (w:World) (K:FG) (mg:Str->Option Value) (base:Heap) (N:List Str) (qual:Str) (scope:Scope) (f:Addr) (cd:Value) (A:Around) (outer:List Env) (s:Shared) (H:Hp) (E:XK):Cx where
 prog:=P
 w:=w
 K:=K
 mg:=mg
 base:=base
 A:=A.deeper (envOfC qual scope s.heap.objs.size f cd)
 N:=N
 s₀:=s
 H₀:=H
 env:=envOfC qual scope s.heap.objs.size f cd
 outer:=outer
 stack:=envOfC qual scope s.heap.objs.size f cd::outer
 ex:=[]
 calm:=true
 fn:=λ_=>true
 pn:=[]
 xe:=λe s'=>wpAny (model P w) (A.deeper (envOfC qual scope s.heap.objs.size f cd)) (leaving (envOfC qual scope s.heap.objs.size f cd) e) (λ_ a=>CX outer H s E e a) (λb a=>CX outer H s E b a) s'
theorem qB {sc:Scope} {n:Nat} (h:sc.names.lookup x=some .cell):∃ c,(cellsFrom n sc.names []).lookup x=some c:=by
 have q:=PySem.W.cellsFrom_some sc.names n [] (.inl h)
 exact Option.isSome_iff_exists.mp q
theorem vB {K:FG} (S:FnScope N ps scope) (hd:A.handled=none) (d:Env0 P w K mg base A outer s H) (D:vs.length=ps.length) (r:Vals vs us) (x:InCallC s s.heap.objs.size (bindL (envOfC qual scope s.heap.objs.size f cd).kindOf (ps.zip us) λ_=>none) (cellsFrom (s.heap.objs.size+1) scope.names []) (bindC (envOfC qual scope s.heap.objs.size f cd).kindOf (ps.zip us) λ_=>none) s1) :
  Inv (qw CX P w K mg base N qual scope f cd A outer s H E) [] (km N vs) H s1:=by
 have B:ps.length<=N.length:=by have:=congrArg List.length S.pre;rw[FP] at this;omega
 obtain ⟨h1,tk,rfl,o⟩:=x.done
 have j:∀ b:Addr,b ∉ (qw CX P w K mg base N qual scope f cd A outer s H E).ex:=λb z=>absurd (show b∈([]:List Addr) from z) (by simp)
 refine ⟨⟨d.mod,S.kind,rfl,rfl,FA _,λy z c h1 h2=>?_,λy g=>?_,λy c _ h=>?_,λ_=>hd,Around.frames_deeper d.frames,.inr ⟨rfl,rfl⟩,λb z=>absurd z (j b),d.bs,d.bsz,λb _ _=>j b,λb z=>absurd z (j b),d.funs,d.frf⟩,
  rfl,d.bare,Un.kept o,⟨_,x.toInCall.ns,λi y v h1 h2 h3=>?_⟩,λy c h=>⟨_,x.cell y c h⟩,d.hok.fresh (FA _),λy c h=>?_,λp l=>absurd (show p∈([]:List (Addr×Obj)) from l) (by simp),d.hok.kept o,?_⟩
 .exact name_of_addr x.apart (PySem.mem_of_lookup h1) (PySem.mem_of_lookup h2)
 .have g:scope.names.lookup y=some .cell\/scope.names.lookup y=some .free:=g
  rcases g with g | g
  .exact qB g
  .exact absurd rfl (S.nofree _ (PySem.mem_of_lookup g))
 .exact Nat.le_of_lt (x.above y c (PySem.mem_of_lookup h))
 .have hi:i < vs.length:=by
   unfold km at h2
   by_cases hi:i < vs.length
   .exact hi
   .rw[List.getElem?_append_right (by simpa using hi)] at h2
    rw[List.getElem?_replicate] at h2
    split at h2 <;> cases h2
  have C:vs[i]?=some v:=by
   unfold km at h2
   rw[List.getElem?_append_left (by simpa using hi),Fz] at h2
   cases e:vs[i]? with
   | none=>rw[e] at h2;cases h2
   | some a=>rw[e] at h2;cases h2;rfl
  obtain ⟨u,hu,t⟩:=r.get C
  have l:ps[i]?=some y:=by
   rw[<- S.pre,List.getElem?_take_of_lt (by omega)];exact h1
  have m:ps.Nodup:=by rw[<- S.pre];exact S.nd.sublist (List.take_sublist _ _)
  refine #[u,t,?_]
  rcases S.par y (Fv l) with k | k
  .exact .inl #[k,nW m l hu k]
  .obtain ⟨c,e⟩:=qB (n:=s.heap.objs.size+1) k
   refine .inr #[.inl k,c,e,?_]
   have q:=x.cell y c e
   rw[nY m l hu (by show scope.names.lookup y≠_;rw[k];decide)] at q
   exact q
 .exact d.hok.fresh (Nat.le_of_lt (x.above y c (PySem.mem_of_lookup h)))
 .unfold km
  show _=N.length
  rw[FN,Ft,List.length_replicate]
  lia
theorem fn_of {K:FG} {k:Nat} {z kV doc pm a ct F:Value} (C:K.lookup f=some #[F,od,.func (PySem.W.fnOf name qual params body scope z kV doc pm an a ct),osl]) (p:PySem.W.codeIn K a qual=true) (S:FnScope N ps scope) (len:∀ c H Q E,sp c H Q E->c.length=ps.length) (d:∀ (A:Around) (outer:List Env) (s:Shared) (H:Hp) (c:List V) (Q:VK) (E:XK),Room k (A.deeper (envOfC qual scope s.heap.objs.size f a))->sp c H Q E ->
   ∃ t,PSs (qw CX P w K mg base N qual scope f a A outer s H E) body t/\t { nx:=λ_ H'=>Q .non H',rt:=Q } (km N c) H) :
  FnOk P w K mg base CX (k+1) f (PySem.W.fnOf name qual params body scope z kV doc pm an a ct) ps sp:=by
 refine #[len,λA outer s H args us c Q E l i O r j=>?_]
 have L:=len _ _ _ _ j
 have B:K.In s.heap:=i.mod.kin.keeps λb o e=>(i.bs b o e).1
 have lim:s.heap.NoLimit:=i.mod.nolimit.keeps λb o e=>(i.bs b o e).1
 have g:∀ y∈ps.zip us,scope.names.lookup y.1=some .local\/(scope.names.lookup y.1=some .cell/\((cellsFrom (s.heap.objs.size+1) scope.names []).lookup y.1).isSome=true):=λ#[n,v] G=>by
  rcases S.par n (List.of_mem_zip G).1 with q | q
  .exact .inl q
  .exact .inr #[q,PySem.W.cellsFrom_some _ _ _ (.inl q)]
 refine codeAny_call_function l.depth (B _ _ C) rfl S.co S.gen rfl (PySem.W.codeRec_of B p) (O _ _ _ _ ?_)
 refine wpAny_newFunctionEnv_cells S.kind g λenv he s1 x=>?_
 subst he
 refine #[lim.keeps x.toInCall.keep,codeAny_func ?_]
 obtain ⟨t,M,D⟩:=d A outer s H c Q E (l.deeper _) j
 have I:Inv (qw CX P w K mg base N qual scope f a A outer s H E) [] (km N c) H s1:=vB S l.hd i L r x
 refine wpAny_mono (M [] s1 (km N c) H _ I D) (λfl s' h=>?_) λe s' h=>h
 have fin:∀ {Y':St} {H':Hp} {v:V} {u:Value},Inv (qw CX P w K mg base N qual scope f a A outer s H E) [] Y' H' s'->RelV v u->Q v H'->CE outer P w H s Q u s' :=
  λ{Y' H' v u} J m q=>#[v,H',J.os,J.bare,J.base,J.hok,m,q]
 cases fl with
 | ret u =>
  obtain ⟨v,Y',H',J,m,q⟩:=h
  exact fin J m q
 | next =>
  obtain ⟨Y',H',J,q⟩:=h
  exact fin (v:=V.non) (u:=Value.none) J rfl q
 | brk =>
  obtain ⟨_,_,_,q⟩:=h
  exact False.elim q
 | cont =>
  obtain ⟨_,_,_,q⟩:=h
  exact False.elim q
end L2
namespace L2
open PySem PySem.Spec PyProof.Rows
section
variable {X:Cx} {x:Str} {p pos:Pos} {e:Expr} {es:List Expr} {t:TA} {id T:String} {r:List V->Hp->VK->Prop}
def tCB (r:List V->Hp->VK->Prop) (t:TA):TE:=λY H Q=>t Y H λa H1=>r a H1 Q
theorem lP (g:CallR X (.builtin id) r) (m:Gl X x) (hm:X.mg x=none) (d:bootBuiltins x=some (.builtin id)) (l:PA X (e::es) t) (f:x≠"__name__":=by decide) (b:(x == ("__debug__":Str))=false:=by decide)
  (he:starEach (e::es) X.env=(false,eval e X.env)::starEach es X.env:=by rfl) (a:(backTo pos (starEach es X.env)).any (·.1)=false:=by rfl):PE X (.Call (.Name x p) (e::es) [] pos) (tCB r t):=by
 intro pins s Y H Q I h
 refine wpAny_Call_Name_kw (fW I m hm d ?_ f b)
 exact PyProof.Rows.callWith_builtin1 (thn (l pos pins s Y H _ I h) λus s1 #[i,H1,j,k,c]=>g pins s1 Y H1 i us Q j k c) he a
theorem u5 (g:CallR X (.type T) r) (m:Gl X x) (hm:X.mg x=none) (d:bootBuiltins x=some (.type T)) (l:PA X (e::es) t) (f:x≠"__name__":=by decide) (b:(x == ("__debug__":Str))=false:=by decide)
  (he:starEach (e::es) X.env=(false,eval e X.env)::starEach es X.env:=by rfl) (a:(backTo pos (starEach es X.env)).any (·.1)=false:=by rfl):PE X (.Call (.Name x p) (e::es) [] pos) (tCB r t):=by
 intro pins s Y H Q I h
 refine wpAny_Call_Name_kw (fW I m hm d ?_ f b)
 exact PyProof.Rows.callWith_type1 (thn (l pos pins s Y H _ I h) λus s1 #[i,H1,j,k,c]=>g pins s1 Y H1 i us Q j k c) he a
end
end L2
namespace HT
open PySem PyProof.Rows
def lexLt:List Int->List Int->Bool
 | [],[]=>false
 | [],_::_=>true
 | _::_,[]=>false
 | x::xs,y::ys=>if x=y then lexLt xs ys else decide (x < y)
theorem lexLt_cons (x y:Int) (xs ys:List Int):lexLt (x::xs) (y::ys)=if x=y then lexLt xs ys else decide (x < y):=rfl
theorem lexLt_nil_nil:lexLt [] []=false:=rfl
theorem lexLt_nil_cons (y:Int) (ys:List Int):lexLt [] (y::ys)=true:=rfl
theorem lexLt_cons_nil (x:Int) (xs:List Int):lexLt (x::xs) []=false:=rfl
theorem rcLt_int (A:Around) (s:Shared) (a:Int) (t:Tok) (c:Int) (u:Tok) (prog:Program) (w:World) (E:Value->Shared->Prop) (Q:Value->Shared->Prop) (h:Q (.bool (decide (a < c))) s) :
  wpAny (model prog w) A (richCompare .Lt (.int a t) (.int c u)) Q E s :=
 (PyProof.Rows.lt_int h:wpAny (model prog w) A (compareOp .Lt (.int a t) (.int c u)) Q E s)
section
open PySem.SeqAt
open PySem.AutoSeq1 (wpAny_loadPart')
open PySem.MeetsSeq PySem.MeetsSeq2 PySem.MeetsSeq3
end
section
variable {prog:Program} {w:World} {A:Around} {E:Value->Shared->Prop} {s:Shared}
theorem cat_tup (m:IsTup s.heap t vs.toArray) (o:IsTup s.heap b ws.toArray) (i:vs≠[]) (h1:ws=[]->Q (.ref t) s) (h2:ws≠[]->Q (.ref s.heap.objs.size) { s with heap:=s.heap.push { cls:=.type "tuple",data:=.seq (vs++ws).toArray } }) (hsz:vs.length+ws.length<=sizeLine):wpAny (model prog w) A (binaryOp .Add (.ref t) (.ref b)) Q E s:=by
 obtain ⟨⟨cls,h,data,sl⟩,g,j,n,hd⟩:=id m
 obtain ⟨⟨k,f,data2,d⟩,a,c,l,hd2⟩:=id o
 simp only at j hd c hd2
 subst j hd c hd2
 have e:vs.toArray++ws.toArray=(vs++ws).toArray:=by simp
 by_cases hw:ws=[]
 .exact concat_meets #[_,g,rfl] #[_,a,rfl] noFill_tuple_add seq_tuple_add PySem.F.slot_tuple_add PySem.F.entry_tuple_add (PySem.F.args_tuple_add_2 _ _)
   (tuple_addW1 t b vs.toArray ws.toArray n l h f sl d (by simpa using i) (by simp[hw])) #[g,a,h1 hw]
 .refine concat_meets #[_,g,rfl] #[_,a,rfl] noFill_tuple_add seq_tuple_add PySem.F.slot_tuple_add PySem.F.entry_tuple_add (PySem.F.args_tuple_add_2 _ _)
   (tuple_addW2 t b vs.toArray ws.toArray n l h f sl d (by simpa using i) (by simpa using hw) (by rw[FE,FE];exact hsz)) #[g,a,?_]
  rw[e]
  exact h2 hw
def sIx (n d:Nat):Option Int->Nat
 | none=>d
 | some v=>if v < 0 then (v+(n:Int)).toNat else min v.toNat n
theorem sIx_nat (n d k:Nat):sIx n d (some (k:Int))=min k n:=by
 show (if (k:Int) < 0 then ((k:Int)+(n:Int)).toNat else min (k:Int).toNat n)=min k n
 rw[if_neg (by omega),Int.toNat_natCast]
theorem Da (n d:Nat) (hd:d<=n) (o:Option Int):sIx n d o<=n:=by
 cases o with
 | none=>exact hd
 | some v =>
  show (if v < 0 then (v+(n:Int)).toNat else min v.toNat n)<=n
  by_cases a:v < 0
  .rw[if_pos a];omega
  .rw[if_neg a];exact Nat.min_le_right _ _
theorem uo (v:Int) (n d:Nat):(if v < 0 then max (v+(n:Int)) 0 else min v (n:Int))=((sIx n d (some v):Nat):Int):=by
 show (if v < 0 then max (v+(n:Int)) 0 else min v (n:Int))=(((if v < 0 then (v+(n:Int)).toNat else min v.toNat n):Nat):Int)
 by_cases a:v < 0
 .simp only[if_pos a];omega
 .simp only[if_neg a];omega
theorem sL (lo hi:Option Int) (n:Nat):Builtin.Slice.sliceAdjust lo hi 1 (n:Int)=(((sIx n 0 lo:Nat):Int),((sIx n n hi:Nat):Int)):=by
 have h1:¬ ((1:Int) < 0):=by omega
 unfold Builtin.Slice.sliceAdjust
 simp only[h1,if_false]
 refine Prod.ext ?_ ?_
 .cases lo with
  | none=>rfl
  | some v=>exact uo v n 0
 .cases hi with
  | none=>rfl
  | some v=>exact uo v n n
theorem rn (i j:Nat):Builtin.Slice.slicePlaces (i:Int) (j:Int) 1=j - i:=by
 unfold Builtin.Slice.slicePlaces
 have h1:(1:Int) > 0:=by omega
 simp only[h1,if_true,Int.ediv_one]
 split <;> lia
theorem slicePart_ (p:IsPart v o) (h:Q o s):wpAny (model prog w) A (Builtin.Slice.slicePartIndex v) Q E s:=by
 cases p with
 | none=>exact slicePart_none h
 | int i t=>exact slicePart_int h
theorem fj {sl:Addr} {vl c:Value} {lo hi:Option Int} {n:Nat} (d:s.heap.IsSliceOf sl vl c .none) (pl:IsPart vl lo) (pu:IsPart c hi) (h:Q (((sIx n 0 lo:Nat):Int),1,sIx n n hi - sIx n 0 lo) s):wpAny (model prog w) A (Builtin.Slice.sliceApplied (.ref sl) (pure (n:Int))) Q E s:=by
 obtain ⟨os,a,e,b⟩:=id d
 unfold Builtin.Slice.sliceApplied Builtin.Slice.sliceFields
 refine Fb (Fb (wpAny_field a b (x:=vl) rfl (Fb (wpAny_field a b (x:=c) rfl (Fb (wpAny_field a b (x:=.none) rfl (Fc ?_)))))))
 refine Fb (slicePart_none ?_)
 show wpAny _ _ (if ((1:Int) == 0)=true then _ else _) _ _ s
 rw[if_neg (by decide)]
 refine Fb (slicePart_ pl (Fb (slicePart_ pu (Fb (Fc ?_)))))
 show wpAny _ _ (match Builtin.Slice.sliceAdjust lo hi 1 (n:Int) with | (lo,hi)=>pure (lo,(1:Int),Builtin.Slice.slicePlaces lo hi 1)) _ _ s
 rw[sL lo hi n]
 show wpAny _ _ (pure (((sIx n 0 lo:Nat):Int),(1:Int),Builtin.Slice.slicePlaces ((sIx n 0 lo:Nat):Int) ((sIx n n hi:Nat):Int) 1)) _ _ s
 rw[rn]
 exact Fc h
theorem xH (xs:Array Value) (i k:Nat):((List.range k).filterMap λ(m:Nat)=>xs[((i:Int)+(m:Int) * 1).toNat]?).toArray=((xs.toList.drop i).take k).toArray:=by
 have e:(λ(m:Nat)=>xs[((i:Int)+(m:Int) * 1).toNat]?)=λm=>xs[i+m]?:=by
  funext m
  have:((i:Int)+(m:Int) * 1).toNat=i+m:=by omega
  rw[this]
 rw[e]
 have:=pick_run xs i k
 rw[List.filterMap_map] at this
 have a:((λx=>xs[x]?) ∘ λx=>i+x)=λm=>xs[i+m]?:=rfl
 rw[a] at this
 rw[this]
theorem getItem_tuple_cut {lo hi:Option Int} (b:IsTup s.heap t items) (g:s.heap.IsSliceOf sl vl vu .none) (pl:IsPart vl lo) (pu:IsPart vu hi) (hw:¬ (sIx items.size 0 lo=0/\sIx items.size items.size hi=items.size)) (h:Q (.ref s.heap.objs.size) { s with heap:=s.heap.push { cls:=.type "tuple",data:=.seq ((items.toList.drop (sIx items.size 0 lo)).take (sIx items.size items.size hi - sIx items.size 0 lo)).toArray } }) (hsz:items.size<=sizeLine):wpAny (model prog w) A (getItem (.ref t) (.ref sl)) Q E s:=by
 have a:sizeOk (.seq ((items.toList.drop (sIx items.size 0 lo)).take (sIx items.size items.size hi - sIx items.size 0 lo)).toArray):=by
  show ((items.toList.drop (sIx items.size 0 lo)).take (sIx items.size items.size hi - sIx items.size 0 lo)).toArray.size<=sizeLine
  rw[FE,FP,List.length_drop,Array.length_toList]
  lia
 have k:sIx items.size items.size hi<=items.size:=Da _ _ (FA _) hi
 obtain ⟨os,c,e,i⟩:=id g
 have d:s.TypeIs (.ref sl) "slice":=#[os,c,e]
 unfold getItem
 try with_reducible refine Fd ?_
 first | refine Fb (Fc ?_) | skip
 refine Fb (wpAny_sequenceKey b.typeIs (by decide) ?_)
 refine Fb (wpAny_callSpecial?_slot (name:=Str.ofString "__getitem__") b.typeIs PyProof.Rows.slot_tuple_getitem
  (wpAny_call_entry PyProof.Rows.slot_tuple_getitem b.typeIs entry_tuple_getitem ?_ (args_tuple_getitem _ _)))
 show wpAny _ _ (Builtin.Tuple.tupleItemsOf (.ref t) >>= _) _ _ s
 refine Fb (tupleItemsOf_ b ?_)
 refine Fb (wpAny_typeOf d ?_)
 rw[if_pos (by decide)]
 refine Fb (fj g pl pu ?_)
 have f:¬ ((((sIx items.size 0 lo:Nat):Int) == 0 && (1:Int) == 1 && (sIx items.size items.size hi - sIx items.size 0 lo) == items.size)=true):=by
  intro q
  rw[Bool.and_eq_true,Bool.and_eq_true] at q
  have j:((sIx items.size 0 lo:Nat):Int)=0:=eq_of_beq q.1.1
  have l:sIx items.size items.size hi - sIx items.size 0 lo=items.size:=eq_of_beq q.2
  exact hw #[by omega,by omega]
 show wpAny _ _ (if (((sIx items.size 0 lo:Nat):Int) == 0 && (1:Int) == 1 && (sIx items.size items.size hi - sIx items.size 0 lo) == items.size)=true then _ else _) _ _ s
 rw[if_neg f,xH]
 first
  | exact Fb (m:=Builtin.Tuple.tupleExact _) (wpAny_newObj_type (Fc #[_,rfl,Fc h]) a)
  | exact Fb (m:=Builtin.Tuple.tupleExact _) (wpAny_newObj_type (Fb (Fc (Fc #[_,rfl,Fc h]))) a)
  | exact Fb (Fb (m:=Builtin.Tuple.tupleExact _) (wpAny_newObj_type (Fc (Fc #[_,rfl,Fc h])) a))
  | exact Fb (Fb (m:=Builtin.Tuple.tupleExact _) (wpAny_newObj_type (Fc #[_,rfl,Fc h]) a))
end
end HT
namespace L2
open PySem PySem.Spec PyProof.Rows
abbrev TO:=St->Hp->(Option Int->Hp->Prop)->Prop
def PO (X:Cx) (e:Option Expr) (t:TO):Prop :=
 ∀ (pins:List (Addr×Obj)) (s:Shared) (Y:St) (H:Hp) (Q:Option Int->Hp->Prop),Inv X pins Y H s->t Y H Q ->
  wpAny (model X.prog X.w) X.A (evalPart e X.env) (λu s'=>∃ o H',Inv X pins Y H' s'/\IsPart u o/\Q o H') X.xe s
def zK:TO:=λ_ H Q=>Q none H
def tPart (t:TE):TO:=λY H Q=>t Y H λx H1=>∃ i,x=.int i/\Q (some i) H1
theorem rV:∀ {us:List Value},Vals (ns.map V.int) us->IntsAre us ns:=by
 induction ns with
 | nil=>intro us r;rw[List.map_nil] at r;cases r;exact .nil
 | cons n ns ih =>
  intro us r
  rw[FF] at r
  cases r with
  | cons r1 r2 =>
   obtain ⟨t,e⟩:=r1
   subst e
   exact .cons n t (ih r2)
section
variable {X:Cx} {e:Expr} {te:TE} {lo hi:Option Expr} {tl th:TO} {pos p2:Pos}
theorem AQ:PO X none zK:=by
 intro pins s Y H Q I h
 rw[evalPart_none]
 exact Fc #[none,H,I,.none,h]
theorem AO (h:PE X e te):PO X (some e) (tPart te):=by
 intro pins s Y H Q I hw
 rw[evalPart_some]
 refine thn (h pins s Y H _ I hw) λu s1 #[x,H1,b,c,a]=>?_
 obtain ⟨i,rfl,q⟩:=a
 obtain ⟨t,rfl⟩:=c
 exact #[some i,H1,b,.int i t,q]
def SlR (X:Cx) (r:V->Option Int->Option Int->Hp->VK->Prop):Prop :=
 ∀ (pins:List (Addr×Obj)) (s:Shared) (Y:St) (H:Hp) (x:V) (v vl a:Value) (lo hi:Option Int) (sl:Addr) (Q:VK),Inv X pins Y H s->RelV x v->s.heap.IsSliceOf sl vl a .none->IsPart vl lo->IsPart a hi->r x lo hi H Q ->
  ∃ T id,typeLookup (.type T) "__getitem__"=pure (some (.builtin id))/\s.TypeIs v T/\wpAny (model X.prog X.w) X.A (getItem v (.ref sl)) (EP X pins Y Q) X.xe s
theorem SlR.or (h:SlR X r) (h':SlR X r'):SlR X (λx lo hi H Q=>r x lo hi H Q\/r' x lo hi H Q):=by
 intro pins s Y H x v vl c lo hi sl Q I a b pl pu q
 rcases q with q | q
 .exact h pins s Y H x v vl c lo hi sl Q I a b pl pu q
 .exact h' pins s Y H x v vl c lo hi sl Q I a b pl pu q
def tSl (r:V->Option Int->Option Int->Hp->VK->Prop) (te:TE) (tl th:TO):TE:=λY H Q=>te Y H λx H1=>tl Y H1 λl H2=>th Y H2 λu a=>r x l u a Q
theorem xJ (g:SlR X r) (he:PE X e te) (t:PO X lo tl) (hu:PO X hi th):PE X (.Subscript e (.Slice lo hi none p2) pos) (tSl r te tl th):=by
 intro pins s Y H Q I h
 refine Subscript_ (thn (he pins s Y H _ I h) λv s1 #[x,H1,j,k,d]=>?_)
 refine wpAny_Slice (thn (t pins s1 Y H1 _ j d) λvl s2 #[l,H2,n,pl,p]=>thn (hu pins s2 Y H2 _ n p) λa s3 #[u,c,m,pu,i]=>?_)
 rw[evalPart_none]
 refine Fc ?_
 have f:Inv X pins Y c { s3 with heap:=s3.heap.push { cls:=.type "slice",data:=.fields (List.toArray [vl,a,.none]) } }:=m.kept (t':=s3.toks) λb ob q=>Fg _ q
 obtain ⟨T,id,o,y,z⟩:=g pins { s3 with heap:=s3.heap.push { cls:=.type "slice",data:=.fields (List.toArray [vl,a,.none]) } } Y c x v vl a l u s3.heap.objs.size Q f k (Heap.IsSliceOf.new ..) pl pu i
 show wpAny (model X.prog X.w) X.A (subscriptTail e (.Slice lo hi none p2) v (.ref s3.heap.objs.size)) (EP X pins Y Q) X.xe { s3 with heap:=s3.heap.push { cls:=.type "slice",data:=.fields (List.toArray [vl,a,.none]) } }
 exact tail_any (ops:=[.ref s3.heap.objs.size,v]) y o z (by with_unfolding_all rfl)
def qx (xs:List V) (lo hi:Option Int):List V:=(xs.drop (HT.sIx xs.length 0 lo)).take (HT.sIx xs.length xs.length hi - HT.sIx xs.length 0 lo)
theorem kG (xs:List V) (lo hi:Option Int):(qx xs lo hi).length<=xs.length:=by
 unfold qx
 rw[FP,List.length_drop]
 lia
def DA (K:FG):V->Option Int->Option Int->Hp->VK->Prop:=λx lo hi H Q=>∃ a xs,x=.ref a/\SqT K H a xs /\
 ¬ (HT.sIx xs.length 0 lo=0/\HT.sIx xs.length xs.length hi=xs.length)/\∀ p,H p=none->Q (.ref p) (upd H p (.tup (qx xs lo hi)))
theorem sl_tup:SlR X (DA X.K):=by
 intro pins s Y H x v vl g lo hi sl Q I d f pl pu h
 obtain ⟨a,xs,rfl,e,hw,q⟩:=h
 cases d
 obtain ⟨its,r,c,hz⟩:=I.tuple e
 have hlen:its.toArray.size=xs.length:=by rw[FE];exact r.length.symm
 refine #["tuple",_,PyProof.Rows.slot_tuple_getitem.lookup,c.typeIs,?_]
 refine HT.getItem_tuple_cut c f pl pu (by rw[hlen];exact hw) ?_ (by rw[hlen];exact hz)
 rw[hlen]
 refine #[.ref s.heap.objs.size,_,I.laid (t':=s.toks) (o:=.tup (qx xs lo hi)) (λb ob q=>Fg _ q) (FA _) ?_,rfl,q _ (I.hok.fresh (FA _))]
 exact #[FZ (kG xs lo hi) hz,_,(r.drop (HT.sIx xs.length 0 lo)).take (HT.sIx xs.length xs.length hi - HT.sIx xs.length 0 lo),IsTupD.new _ _]
def tv (K:FG):R2:=λx y H Q=>∃ a b xs ys,x=.ref a/\y=.ref b/\SqT K H a xs/\SqT K H b ys/\xs≠[]/\xs.length+ys.length<=sizeLine /\
 (ys=[]->Q (.ref a) H)/\(ys≠[]->∀ p,H p=none->Q (.ref p) (upd H p (.tup (xs++ys))))
theorem Vals.nil_iff (r:Vals xs us):us=[] ↔ xs=[]:=by
 cases r with
 | nil=>simp
 | cons _ _=>simp
theorem op_catT:OpR X (binaryOp .Add) (tv X.K):=by
 intro pins s Y H x y v u Q I g j h
 obtain ⟨a,b,xs,ys,rfl,rfl,l,m,i,hz,f,k⟩:=h
 cases g
 cases j
 obtain ⟨its,d,n,_⟩:=I.tuple l
 obtain ⟨e,c,p2,_⟩:=I.tuple m
 refine HT.cat_tup n p2 (λz=>i (d.nil_iff.mp z)) (λz=>#[.ref a,H,I,rfl,f (c.nil_iff.mp z)]) (λz=>?_) (by rw[<- d.length,<- c.length];exact hz)
 refine #[.ref s.heap.objs.size,_,I.laid (t':=s.toks) (o:=.tup (xs++ys)) (λb ob q=>Fg _ q) (FA _) ?_,rfl,k (λw=>z (c.nil_iff.mpr w)) _ (I.hok.fresh (FA _))]
 exact #[by rw[FN];exact hz,_,d.append c,IsTupD.new _ _]
end
end L2
namespace L2
open PySem PySem.Spec PyProof.Rows
def ixN (n:Nat) (i:Int):Option Nat:=if 0<=i then (if i < n then some i.toNat else none) else if -(n:Int)<=i then some (i+n).toNat else none
def atI {α:Type} (xs:List α) (i:Int):Option α:=(ixN xs.length i).bind λj=>xs[j]?
theorem tZ {n:Nat} {i:Int} {j:Nat} (h:ixN n i=some j):seqIndex? i n=some j/\j < n/\-(n:Int)<=i/\i < n:=by
 unfold ixN at h
 by_cases h0:0<=i
 .rw[if_pos h0] at h
  by_cases h1:i < n
  .rw[if_pos h1] at h
   have e:i.toNat=j:=F6 h
   exact #[by rw[seqIndex_of h0 h1,e],by omega,by omega,h1]
  .rw[if_neg h1] at h;cases h
 .rw[if_neg h0] at h
  by_cases h1:-(n:Int)<=i
  .rw[if_pos h1] at h
   have e:(i+n).toNat=j:=F6 h
   exact #[by rw[seqIndex_neg (by omega) h1,e],by omega,h1,by omega]
  .rw[if_neg h1] at h;cases h
theorem uA {i:Int} (h:atI xs i=some v):∃ j,seqIndex? i xs.length=some j/\xs[j]?=some v/\j < xs.length/\-(xs.length:Int)<=i/\i < xs.length:=by
 unfold atI at h
 cases e:ixN xs.length i with
 | none=>rw[e] at h;cases h
 | some j =>
  rw[e] at h
  obtain ⟨h1,h2,h3,a⟩:=tZ e
  exact #[j,h1,h,h2,h3,a]
def uE (b:Expr):Prop:=∀ o i,subscripted b false o i=operate [o,i] (getItem o i)
def IxR (X:Cx) (r:R2):Prop :=
 ∀ (value slice:Expr) (pins:List (Addr×Obj)) (s:Shared) (Y:St) (H:Hp) (x y:V) (v u:Value) (Q:VK),Inv X pins Y H s->RelV x v->RelV y u->r x y H Q ->
  subscripted slice false v u=operate [v,u] (getItem v u)->wpAny (model X.prog X.w) X.A (subscriptTail value slice v u) (EP X pins Y Q) X.xe s
def MtR (X:Cx) (id:String) (r:V->List V->Hp->VK->Prop):Prop :=
 ∀ (pins:List (Addr×Obj)) (s:Shared) (Y:St) (H:Hp) (x:V) (xs:List V) (v:Value) (us:List Value) (Q:VK),Inv X pins Y H s->RelV x v->Vals xs us->r x xs H Q ->
  wpAny (model X.prog X.w) X.A (call (.builtin id) (v::us)) (EP X pins Y Q) X.xe s
section
variable {X:Cx} {a b:Expr} {ta tb:TE} {pos:Pos}
theorem IxR.or (h:IxR X r) (h':IxR X r'):IxR X (λx y H Q=>r x y H Q\/r' x y H Q):=by
 intro value slice pins s Y H x y v u Q I a c q b
 rcases q with q | q
 .exact h value slice pins s Y H x y v u Q I a c q b
 .exact h' value slice pins s Y H x y v u Q I a c q b
theorem pe_ix (d:IxR X r) (i:PE X a ta) (j:PE X b tb) (f:uE b):PE X (.Subscript a b pos) (tOp r ta tb):=by
 intro pins s Y H Q I h
 exact Subscript_ (E2 i j I h λv u s2 x y H2 e c g q=>d a b pins s2 Y H2 x y v u Q e c g q (f _ _))
def xv (K:FG):R2:=λx y H Q=>∃ p xs i v,x=.ref p/\y=.int i/\SqL K H p xs/\atI xs i=some v/\Q v H
def xu (K:FG):R2:=λx y H Q=>∃ p xs i v,x=.ref p/\y=.int i/\SqT K H p xs/\atI xs i=some v/\Q v H
theorem ix_list:IxR X (xv X.K):=by
 intro value slice pins s Y H x y v u Q I e f h d
 obtain ⟨p,xs,i,z,rfl,rfl,g,he,q⟩:=h
 cases e
 obtain ⟨t,rfl⟩:=f
 obtain ⟨its,r,pl,hz⟩:=I.list g
 obtain ⟨j,h1,h2,h3,k,m⟩:=uA he
 obtain ⟨w,c,a⟩:=r.get h2
 have l:=r.length
 have n:=l5
 have fin:EP X pins Y Q w s:=#[z,H,I,a,q]
 by_cases h0:0<=i
 .have b:i.toNat=j:=by
   rw[seqIndex_of h0 m] at h1
   exact F6 h1
  exact item_listR pl.isList h0 (by omega) (by rw[b];simpa using c) fin d
 .have b:(i+(its.toArray.size:Int)).toNat=j:=by
   rw[seqIndex_neg (by omega) k] at h1
   rw[FE,<- l]
   exact F6 h1
  exact subscriptTail_builtinR (x:=w) pl.isList.typeIs slot_list_getitem.lookup
   (wpAny_getItem_list_neg (Q:=λr s'=>r=w/\EP X pins Y Q r s') pl.isList (by omega) (by rw[FE] <;> omega) (by omega) (by rw[b];simpa using c) #[rfl,fin]) d
theorem EB:IxR X (xu X.K):=by
 intro value slice pins s Y H x y v u Q I b d h f
 obtain ⟨p,xs,i,z,rfl,rfl,e,he,q⟩:=h
 cases b
 obtain ⟨t,rfl⟩:=d
 obtain ⟨its,r,pl,hz⟩:=I.tuple e
 obtain ⟨j,h1,h2,h3,l,m⟩:=uA he
 obtain ⟨w,c,a⟩:=r.get h2
 have g:=r.length
 have k:=l5
 have fin:EP X pins Y Q w s:=#[z,H,I,a,q]
 exact subscriptTail_builtinR (x:=w) pl.typeIs slot_tuple_getitem.lookup
  (getItem_tuple (j:=j) (Q:=λr s'=>r=w/\EP X pins Y Q r s') pl (by omega) (by omega) (by rw[FE,<- g];exact h1) (by simpa using c) #[rfl,fin]) f
theorem rG (its:List Value) (n j:Nat) (u:Value):Obj.mapSeq (·.setIfInBounds j u) { cls:=.type "list",data:=.seq its.toArray n }={ cls:=.type "list",data:=.seq (its.set j u).toArray n }:=by
 simp[Obj.mapSeq]
theorem Inv.lst {pins:List (Addr×Obj)} {Y:St} {H:Hp} {s:Shared} {p:Addr} {xs:List V} (I:Inv X pins Y H s) (h:H p=some (.lst xs)) :
  ∃ (its:List Value) (n:Nat),Vals xs its/\s.heap.get? p=some { cls:=.type "list",data:=.seq its.toArray n }/\xs.length<=sizeLine:=by
 obtain ⟨z,its,n,r,e⟩:=I.hok p _ h
 exact #[its,n,r,e,z]
theorem Inv.lstUpd {its its':List Value} {n a:Nat} (I:Inv X pins Y H s) (h:H p=some (.lst xs)) (c:s.heap.get? p=some { cls:=.type "list",data:=.seq its.toArray n }) (hf:f { cls:=.type "list",data:=.seq its.toArray n }={ cls:=.type "list",data:=.seq its'.toArray a }) (r:Vals ys its') (hz:ys.length<=sizeLine) (t:Nat) :
  Inv X pins Y (upd H p (.lst ys)) { s with heap:=s.heap.update p f,toks:=t }:=by
 have e:(s.heap.update p f).get? p=some { cls:=.type "list",data:=.seq its'.toArray a }:=by
  rw[FL f c (by rw[hf] <;> rfl),hf]
 refine I.write (x:=p) (e:=p) (by rw[h];trivial) (.inl rfl) (λb u d q=>(FW _ _ (Ne.symm d)).trans q) #[_,e] ?_
 exact #[hz,its',a,r,e]
def sZ:V->V->V->Hp->(Hp->Prop)->Prop:=λo i v H Q=>∃ p xs k j,o=.ref p/\i=.int k/\H p=some (.lst xs)/\ixN xs.length k=some j/\Q (upd H p (.lst (xs.set j v)))
theorem wH:zw X sZ:=by
 intro pins s Y H o i v y z u Q I m l g h
 obtain ⟨p,xs,k,j,rfl,rfl,d,w,q⟩:=h
 cases m
 obtain ⟨t,rfl⟩:=l
 obtain ⟨its,n,r,a,hz⟩:=I.lst d
 obtain ⟨h1,h2,h3,e⟩:=tZ w
 have c:=r.length
 have x:=l5
 have f:Inv X pins Y (upd H p (.lst (xs.set j v))) { s with heap:=s.heap.update p (Obj.mapSeq (·.setIfInBounds j u)) } :=
  I.lstUpd d a (rG its n j u) (r.set g j) (by rw[List.length_set];exact hz) s.toks
 by_cases h0:0<=k
 .have b:k.toNat=j:=by
   rw[seqIndex_of h0 e] at h1
   exact F6 h1
  exact PySem.W.ki_setAt a h0 (by omega) (by rw[FE,<- c];exact e) (by rw[b];exact #[_,f,q])
 .have b:(k+(its.toArray.size:Int)).toNat=j:=by
   rw[seqIndex_neg (by omega) h3] at h1
   rw[FE,<- c]
   exact F6 h1
  exact PySem.W.ki_setBack a (by omega) (by rw[FE,<- c];exact h3) (by omega) (by rw[b];exact #[_,f,q])
theorem n6 (lo hi:Option Int) (n:Nat):(sliceBounds lo hi none n).1=((HT.sIx n 0 lo:Nat):Int)/\(sliceBounds lo hi none n).2.1=((HT.sIx n n hi:Nat):Int)/\(sliceBounds lo hi none n).2.2=1:=by
 refine #[?_,?_,rfl]
 .cases lo with
  | none=>simp[sliceBounds,HT.sIx]
  | some i =>
   simp only[sliceBounds,HT.sIx,Option.getD_none,show (1:Int) > 0 by decide,if_true]
   by_cases h:i < 0
   .simp only[h,if_true] <;> omega
   .simp only[h,if_false] <;> omega
 .cases hi with
  | none=>simp[sliceBounds,HT.sIx]
  | some i =>
   simp only[sliceBounds,HT.sIx,Option.getD_none,show (1:Int) > 0 by decide,if_true]
   by_cases h:i < 0
   .simp only[h,if_true] <;> omega
   .simp only[h,if_false] <;> omega
theorem mE (its:List Value) (lo hi:Option Int):slicePick its.toArray lo hi none=((its.drop (HT.sIx its.length 0 lo)).take (HT.sIx its.length its.length hi - HT.sIx its.length 0 lo)).toArray:=by
 obtain ⟨h1,h2,h3⟩:=n6 lo hi its.toArray.size
 unfold slicePick
 rw[h1,h2,h3]
 simp only[sliceRange_one,pick_run,FE] <;> rfl
def DB (K:FG):V->Option Int->Option Int->Hp->VK->Prop:=λx lo hi H Q=>∃ a xs,x=.ref a/\SqL K H a xs/\∀ p,H p=none->Q (.ref p) (upd H p (.lst (qx xs lo hi)))
theorem sl_list:SlR X (DB X.K):=by
 intro pins s Y H x v vl g lo hi sl Q I d f pl pu h
 obtain ⟨a,xs,rfl,e,q⟩:=h
 cases d
 obtain ⟨its,r,c,hz⟩:=I.list e
 have hlen:=r.length
 refine #["list",_,slot_list_getitem.lookup,c.isList.typeIs,?_]
 refine wpAny_getItem_list_slice c.isList f pl pu .none (by simp) ?_ (by rw[FE] <;> omega)
 rw[mE,<- hlen]
 refine #[.ref s.heap.objs.size,_,I.laid (t':=s.toks) (o:=.lst (qx xs lo hi)) (λb ob q=>Fg _ q) (FA _) ?_,rfl,q _ (I.hok.fresh (FA _))]
 exact #[FZ (kG xs lo hi) hz,_,0,(r.drop (HT.sIx xs.length 0 lo)).take (HT.sIx xs.length xs.length hi - HT.sIx xs.length 0 lo),Fs _ rfl]
theorem jJ:CallR X (.builtin "len") (λxs H Q=>∃ p ys,xs=[.ref p]/\(SqL X.K H p ys\/SqT X.K H p ys)/\Q (.int ys.length) H):=by
 intro pins s Y H xs us Q I r h
 obtain ⟨p,ys,rfl,a,q⟩:=h
 obtain ⟨u,rfl,c⟩:=eE r
 cases c
 have d:=l5
 rcases a with a | a
 .obtain ⟨its,b,pl,hz⟩:=I.list a
  have hlen:=b.length
  exact Calls.call_len_list pl.isList (by simp only[FE] <;> omega) #[.int ys.length,H,I.tok _,#[s.toks+1,by rw[FE,hlen]],q]
 .obtain ⟨its,b,pl,hz⟩:=I.tuple a
  have hlen:=b.length
  exact len_tuple pl (by simp only[FE] <;> omega) #[.int ys.length,H,I.tok _,#[s.toks+1,by rw[FE,hlen]],q]
theorem CallR.or (h:CallR X f r) (h':CallR X f r'):CallR X f (λxs H Q=>r xs H Q\/r' xs H Q):=by
 intro pins s Y H xs us Q I rs q
 rcases q with q | q
 .exact h pins s Y H xs us Q I rs q
 .exact h' pins s Y H xs us Q I rs q
theorem mP:CallR X (.type "tuple") (λxs H Q=>∃ p ys,xs=[.ref p]/\((SqL X.K H p ys/\∀ l,H l=none->Q (.ref l) (upd H l (.tup ys)))\/(SqT X.K H p ys/\Q (.ref p) H))):=by
 intro pins s Y H xs us Q I r h
 obtain ⟨p,ys,rfl,h⟩:=h
 obtain ⟨u,rfl,f⟩:=eE r
 cases f
 rcases h with ⟨c,q⟩ | ⟨c,q⟩
 .obtain ⟨its,a,pl,hz⟩:=I.list c
  have hlen:=a.length
  refine call_tuple_list pl.isList (λh' kp=>?_) (by simp only[FE] <;> omega)
  have d:Inv X pins Y H { s with heap:=h' }:=I.kept (t':=s.toks) kp
  have g:Inv X pins Y (upd H h'.objs.size (.tup ys)) { s with heap:=h'.push { cls:=.type "tuple",data:=.seq its.toArray } } :=
   d.laid (t':=s.toks) (λb o e=>Fg _ e) (FA _) (show ObjOk X.prog X.w _ _ _ (.tup ys) from #[hz,its,a,IsTupD.new _ _])
  exact #[.ref h'.objs.size,_,g,rfl,q _ (d.hok.fresh (FA _))]
 .obtain ⟨its,a,pl,hz⟩:=I.tuple c
  exact call_tuple_same pl #[.ref p,H,I,rfl,q]
def tyV (K:FG) (T:String) (x:V) (H:Hp):Prop:=match x with
 | .str _=>T="str"
 | .int _=>T="int"
 | .ref p=>(T="list"/\∃ xs,SqL K H p xs)\/(T="tuple"/\((∃ o,K.lookup p=some o/\o.cls=.type "tuple"/\o.dict=none)\/∃ xs,H p=some (.tup xs))) \/
   (T="dict"/\((∃ kvs,H p=some (.dK kvs))\/∃ kvs n,H p=some (.dT kvs n)))\/(T="set"/\∃ S n,H p=some (.set S n))
 | _=>False
theorem wn (I:Inv X pins Y H s) (r:RelV x v) (ty:tyV X.K T x H) :
  s.TypeIs v T/\∀ a,v=.ref a->∃ ob,s.heap.get? a=some ob/\ob.dict=none:=by
 cases x with
 | str z =>
  obtain ⟨t,rfl⟩:=r
  cases (show T="str" from ty)
  exact #[typeIs_str s z t,λ_ e=>nomatch e]
 | int i =>
  obtain ⟨t,rfl⟩:=r
  cases (show T="int" from ty)
  exact #[typeIs_int s i t,λ_ e=>nomatch e]
 | ref p =>
  cases r
  rcases ty with ⟨rfl,xs,j⟩ | ⟨rfl,⟨o,b,g,hd⟩ | ⟨xs,h⟩⟩ | ⟨rfl,b⟩ | ⟨rfl,S,n,b⟩
  .obtain ⟨its,_,pl,_⟩:=I.list j
   refine #[pl.isList.typeIs,λa e=>?_]
   cases e
   obtain ⟨o,n,e,c,hd,_⟩:=pl
   exact #[o,e,hd]
  .refine #[#[o,I.kIn p o b,g],λa e=>?_]
   cases e
   exact #[o,I.kIn _ o b,hd]
  .obtain ⟨_,its,_,o,e,c,n,d⟩:=I.hok p _ h
   refine #[#[o,e,c],λa f=>?_]
   cases f
   exact #[o,e,congrArg Prod.snd d]
  .have z:∃ o,s.heap.get? p=some o/\o.ExactDict:=by
    rcases b with ⟨kvs,b⟩ | ⟨kvs,n,b⟩
    .obtain ⟨_,_,_,_,o,_,_,e,ex,_⟩:=I.hok p _ b
     exact #[o,e,ex]
    .obtain ⟨_,_,_,_,o,_,_,e,ex,_⟩:=I.hok p _ b
     exact #[o,e,ex]
   obtain ⟨o,e,ex⟩:=z
   refine #[#[o,e,ex.1],λa f=>?_]
   cases f
   exact #[o,e,ex.2.1]
  .obtain ⟨o,_,_,_,e,ex,_⟩:=I.hok p _ b
   refine #[#[o,e,ex.1],λa f=>?_]
   cases f
   exact #[o,e,ex.2.1]
 | _=>exact False.elim ty
def tBM0 (K:FG) (T:String) (r:V->List V->Hp->VK->Prop) (to:TE):TE:=λY H Q=>to Y H λx H1=>tyV K T x H1/\r x [] H1 Q
def tBM (K:FG) (T:String) (r:V->List V->Hp->VK->Prop) (to:TE) (t:TA):TE:=λY H Q=>to Y H λx H1=>tyV K T x H1/\t Y H1 λxs H2=>r x xs H2 Q
variable {o e:Expr} {es:List Expr} {to:TE} {t:TA} {name:Str} {apos cpos:Pos} {T id:String} {r:V->List V->Hp->VK->Prop}
theorem DW (g:PlainAttrs T) (slot:Slot T name id) (c:typeOf (.builtin id)=pure (.type "method_descriptor")) (hm:MtR X id r) (i:PE X o to)
  (a:attributeBase o name X.env (eval o X.env)=eval o X.env:=by rfl) (b:(apos.endLine == cpos.line)=true:=by rfl):PE X (.Call (.Attribute o name apos) [] [] cpos) (tBM0 X.K T r to):=by
 intro pins s Y H Q I h
 refine wpAny_Call_method0_late a b (thn (i pins s Y H _ I h) λv s1 #[x,H1,d,e,ty,f]=>?_)
 obtain ⟨h1,h2⟩:=wn d e ty
 exact #[T,id,g,slot,c,h1,h2,Calls.callWith_builtin rfl (PySem.evalArgs_none (hm pins s1 Y H1 x [] v [] Q d e .nil f))]
theorem pe_bm (p:PlainAttrs T) (slot:Slot T name id) (f:typeOf (.builtin id)=pure (.type "method_descriptor")) (hm:MtR X id r) (w:PE X o to) (y:PA X (e::es) t)
  (c:attributeBase o name X.env (eval o X.env)=eval o X.env:=by rfl)
  (d:((backTo cpos (starEach (e::es) X.env)).all (λx=>!x.1) && (backToKw cpos (keywordEach [] X.env)).all (λx=>x.1.isSome)
   && decide ((e::es).length+([]:List Keyword).length+(if ([]:List Keyword).isEmpty then 0 else 1) < 30))=true:=by rfl)
  (b:(apos.endLine == cpos.line)=true:=by rfl) (q:starEach (e::es) X.env=(false,eval e X.env)::starEach es X.env:=by rfl) (a:(backTo cpos (starEach es X.env)).any (·.1)=false:=by rfl) :
  PE X (.Call (.Attribute o name apos) (e::es) [] cpos) (tBM X.K T r to t):=by
 intro pins s Y H Q I h
 refine wpAny_Call_method_late c d b rfl (thn (w pins s Y H _ I h) λv s1 #[x,H1,g,i,ty,k]=>?_)
 obtain ⟨h1,h2⟩:=wn g i ty
 refine #[T,id,p,slot,f,h1,h2,?_]
 have j:=y cpos pins s1 Y H1 _ g k
 rw[q] at j ⊢
 refine Calls.callWith_builtin (by show (false || (backTo cpos (starEach es X.env)).any (·.1))=false;rw[a] <;> rfl) (Calls.evalArgs_plain ?_)
 exact thn j λus s2 #[m,H2,n,l,u]=>hm pins s2 Y H2 x m v us Q n i l u
end
end L2
namespace L2
open PySem PySem.Spec PyProof.Rows
def MtM (X:Cx) (id:String) (r:V->List V->Hp->VK->Prop):Prop :=
 ∀ (pins:List (Addr×Obj)) (s:Shared) (Y:St) (H:Hp) (x:V) (xs:List V) (v:Value) (us:List Value) (Q:VK),Inv X pins Y H s->RelV x v->Vals xs us->r x xs H Q ->
  wpAny (model X.prog X.w) X.A (call (.builtin id) (v::us)) (EP X pins Y Q) X.xe s
theorem Vals.one (h:Vals [x] us):∃ u,us=[u]/\RelV x u:=by
 cases h with | cons r t=>cases t;exact #[_,rfl,r]
theorem Vals.two (h:Vals [x,y] us):∃ u v,us=[u,v]/\RelV x u/\RelV y v:=by
 cases h with | cons r t=>obtain ⟨v,rfl,q⟩:=Vals.one t;exact #[_,_,rfl,r,q]
theorem Vals.reverse (h:Vals xs us):Vals xs.reverse us.reverse:=by
 induction h with
 | nil=>exact .nil
 | cons r t ih=>rw[List.reverse_cons,List.reverse_cons];exact Vals.append ih (.cons r .nil)
theorem Vals.rep (h:Vals xs us):∀ k:Nat,Vals (List.replicate k xs).flatten (List.replicate k us).flatten
 | 0=>.nil
 | k+1=>by
  rw[List.replicate_succ,List.replicate_succ,List.flatten_cons,List.flatten_cons]
  exact Vals.append h (Vals.rep h k)
section
variable {X:Cx} {pins:List (Addr×Obj)} {Y:St} {H:Hp} {s:Shared} {l b:Addr} {xs ys zs:List V}
theorem Inv.lset {its its':List Value} {n:Nat} {t':Nat} (I:Inv X pins Y H s) (b:H l=some (.lst xs)) (e:s.heap.get? l=some { cls:=.type "list",data:=.seq its.toArray n }) (hf:f its.toArray=its'.toArray) (a:Vals ys its') (hz:ys.length<=sizeLine) :
  Inv X pins Y (upd H l (.lst ys)) { s with heap:=s.heap.update l (Obj.mapSeq f),toks:=t' }:=by
 have q:=PySem.IsL.update e f
 rw[hf] at q
 refine I.write (x:=l) (e:=l) (by rw[b];exact trivial) (.inl rfl) (λd u c hu=>(FW s.heap (Obj.mapSeq f) (Ne.symm c)).trans hu) #[_,q] ?_
 exact #[hz,its',_,a,q]
theorem Inv.lnew {t':Nat} (I:Inv X pins Y H s) (a:Vals ys its) (hz:ys.length<=sizeLine) :
  Inv X pins Y (upd H s.heap.objs.size (.lst ys)) { s with heap:=s.heap.push { cls:=.type "list",data:=.seq its.toArray },toks:=t' } :=
 I.laid (λ_ _ q=>Fg _ q) (FA _) #[hz,its,0,a,Fs _ rfl]
theorem Inv.fresh (I:Inv X pins Y H s):H s.heap.objs.size=none:=I.hok.fresh (FA _)
theorem Inv.lstM (I:Inv X pins Y H s) (a:H l=some (.lst xs)):xs.length<=sizeLine/\∃ (its:List Value) (n:Nat),Vals xs its/\xs.length=its.length/\s.heap.get? l=some { cls:=.type "list",data:=.seq its.toArray n }:=by
 obtain ⟨z,its,n,r,e⟩:=I.hok l _ a
 exact #[z,its,n,r,r.length,e]
theorem xX {n:Nat} (h:n<=sizeLine):Builtin.List.listTooLong n=false:=by
 unfold Builtin.List.listTooLong
 exact FI (by omega)
end
section
variable {X:Cx}
def tw:V->List V->Hp->VK->Prop:=λx a H Q=>∃ l xs y,x=.ref l/\a=[y]/\H l=some (.lst xs)/\xs.length < sizeLine/\Q .non (upd H l (.lst (xs++[y])))
theorem ve:MtM X "list.append" tw:=by
 intro pins s Y H x f v us Q I c d h
 obtain ⟨l,xs,y,rfl,rfl,a,hz,q⟩:=h
 cases c
 obtain ⟨u,rfl,b⟩:=d.one
 obtain ⟨z,its,n,r,g,e⟩:=I.lstM a
 refine call_meets F.slot_list_append #[_,e,rfl] F.entry_list_append (F.args_list_append_2 _ _) (PySem.list_append l its.toArray n u (by rw[FE];omega)) #[e,?_]
 refine #[.non,_,I.lset (its':=its++[u]) a e (by simp) (r.append (.cons b .nil)) ?_,rfl,q]
 rw[FN,List.length_singleton]
 lia
def tj:V->List V->Hp->VK->Prop:=λx a H Q=>∃ l b xs zs,x=.ref l/\a=[.ref b]/\H l=some (.lst xs)/\H b=some (.lst zs)/\xs.length+zs.length<=sizeLine/\Q .non (upd H l (.lst (xs++zs)))
theorem vd:MtM X "list.extend" tj:=by
 intro pins s Y H x t v us Q I j k h
 obtain ⟨l,b,xs,zs,rfl,rfl,d,p,hz,q⟩:=h
 cases j
 obtain ⟨u,rfl,g⟩:=k.one
 cases g
 obtain ⟨z,its,n,r,w,e⟩:=I.lstM d
 obtain ⟨y,a,o,i,m,f⟩:=I.lstM p
 have hsz:its.toArray.size+a.toArray.size<=sizeLine:=by rw[FE,FE];omega
 have c:¬ (!its.toArray.isEmpty && Builtin.List.listTooLong (its.toArray.size+a.toArray.size))=true:=by
  rw[xX hsz,Bool.and_false]
  exact FC
 refine call_meets F.slot_list_extend #[_,e,rfl] F.entry_list_extend (F.args_list_extend_2 _ _)
  (AutoSeq1.list_extend_list_list_0 l its.toArray n b a.toArray o c (by rw[FE];omega) (by omega)) #[e,f,?_]
 refine #[.non,_,I.lset (its':=its++a) d e (by simp) (r.append i) ?_,rfl,q]
 rw[FN]
 lia
def AC:R2:=λx y H Q=>∃ l b xs zs,x=.ref l/\y=.ref b/\H l=some (.lst xs)/\H b=some (.lst zs)/\xs.length+zs.length<=sizeLine/\∀ p,H p=none->Q (.ref p) (upd H p (.lst (xs++zs)))
theorem Eg:OpR X (binaryOp .Add) AC:=by
 intro pins s Y H x y v u Q I f k h
 obtain ⟨l,b,xs,zs,rfl,rfl,j,m,hz,q⟩:=h
 cases f
 cases k
 obtain ⟨z,its,n,r,p,e⟩:=I.lstM j
 obtain ⟨t,a,o,d,g,c⟩:=I.lstM m
 refine PySem.P.add_list e c ?_ (by rw[FE,FE];omega)
 have i:its.toArray++a.toArray=(its++a).toArray:=by simp
 rw[i]
 exact #[.ref _,_,I.lnew (t':=s.toks) (r.append d) (by rw[FN];omega),rfl,q _ I.fresh]
end
end L2
namespace Att
open PySem PySem.W PySem.Calls PyProof.Rows
theorem kK:∀ (ns:List Int) (c:List Value),WellAll P h c (ns.map WData.int)->IntsAre c ns:=by
 intro ns
 induction ns with
 | nil =>
  intro c w
  rw[List.map_nil] at w
  cases w
  exact .nil
 | cons n ns ih =>
  intro c w
  rw[FF] at w
  cases w with
  | cons a b =>
   cases a
   exact .cons _ _ (ih _ b)
theorem uO {l:OpenLaw} {n:Nat} (m:l.most=some n) (b:l.row.toRowW.claim.pre args=true) (g:WellAll P h vals args) :
  ∃ a j ns,vals=[Value.ref a]/\args=[WData.list (ns.map WData.int)]/\h.get? a=some { cls:=.type "list",data:=.seq j.toArray }/\IntsAre j ns/\ns.length<=n:=by
 have f:WShape.hasAll [] args [.list .int]=true:=(pre_splitW b).1
 have i:l.pre.holds [] { args:=args }=true:=(pre_splitW b).2
 obtain ⟨d,r,rfl,h1,h2⟩:=hasAllW_cons f
 obtain rfl:=hasAllW_nil h2
 obtain ⟨xs,rfl,h3⟩:=hasW_list h1
 obtain ⟨ns,rfl⟩:=items_int h3
 have hlen:ns.length<=n:=by
  unfold OpenLaw.pre at i
  have c:(WTm.not (.lt (.lit (.int (n:Int))) (.len (.arg 0)))).holds [] { args:=[.list (ns.map .int)] }=true:=by
   have c:=(holds_andW i).1
   rw[m] at c
   exact c
  have e:=condW_of c (w_not (w_lt w_lit (w_len_list (w_arg rfl))))
  rw[Ft] at e
  refine Nat.le_of_not_lt λq=>?_
  have k:(n:Int) < ((ns.length:Nat):Int):=by omega
  first
   | (rw[FH k] at e;exact absurd e (by decide))
   | (simp at e;omega)
 cases g with
 | cons w1 w2 =>
  cases w2
  cases w1 with
  | list ho hall=>exact #[_,_,ns,rfl,rfl,ho,kK ns _ hall,hlen]
theorem uX (l:OpenLaw) (args:List WData):l.row.toRowW.claim.post args (.bool true) args=true :=
 postW_of (r:=l.row.toRowW) (X:=(true == true))
  (show WShape.has [] (.bool true) .bool=true by first | rfl | decide | simp[WShape.has,WShape.arms,WShape.armsAll])
  (show (WTm.eq .res (.lit (.bool true))).value [] { args:=args,res:=some (.bool true),after:=args }=some (.bool (true == true)) from w_eq_bool (w_res rfl) w_lit) rfl
theorem attach_call {l:OpenLaw} {n:Nat} (u:l.most=some n) (i:d.params.defaults=[]) (call:∀ (w:World) (s₀ b:Shared) (mg mb:Str->Option Value) (e:Addr) (o:Obj) (pm cd doc:Value) (a:Addr) (c:List Value) (ns:List Int),
   Ground q loose [] XP w s₀ mg mb b.heap->YP w b.heap ->
   b.heap.get? e=some o->o.data=.func (docDef d.name d.params d.body d.scope pm cd doc)->b.heap.CodeRec cd d.name->mg d.name=some (.ref e) ->
   b.heap.get? a=some { cls:=.type "list",data:=.seq c.toArray }->IntsAre c ns->ns.length<=n->b.gens=(List.toArray []) ->
   codeAny (model l.prog w) callerA (.call (.ref e) #[[.ref a],[]]) (λr s'=>r=.ok (.ret (.bool true))/\OldK b.heap s'.heap/\s'.os=b.os/\AllBare s'.gens) b) :
  WalkO q loose XP YP l.row.toRowW d [] (λf c=>PySem.call f c):=by
 intro w s₀ b mg mb G σ e o pm cd doc v kV x hd j p m B args vals as g s z k t
 obtain rfl:v=.none:=Dflts.none p i
 obtain rfl:kV=.none:=Dflts.noKw p
 obtain ⟨a,c,ns,rfl,rfl,h,hints,hlen⟩:=uO u g k
 refine enter_call (codeAny_mono (call w s₀ b mg mb e o pm cd doc a c ns G σ x (fd_plain hd) j m h hints hlen B) λr s' y=>?_)
 obtain ⟨rfl,h2,h3,A⟩:=y
 exact #[.inl #[.bool true,.bool true,[],rfl,λ_=>rfl,.bool true,uX l _,λ_=>#[List.Pairwise.nil,λ_ hm=>(nomatch hm)]],h2,h3,A]
end Att
namespace L2
open PySem PySem.Spec PyProof.Rows
theorem m6:∀ {a:List Value} {ns:List Int},IntsAre a ns->Vals (ns.map V.int) a
 | _,_,.nil=>.nil
 | _,_,.cons n t h=>.cons #[t,rfl] (m6 h)
def BV (H:Hp):Prop:=∀ b,H b=none\/∃ o xs,H b=some (.frz o (.lst xs))
theorem yy {K:FG} {k:Nat} (N:K.In s₁.heap) (l:s₁.heap.Ns mainGlobals mg) (f:s₁.heap.Ns builtinsNs mb) (J:∀ x:Str,x≠"__name__"->mb x=bootBuiltins x) (A:s₁.heap.NoLimit) (hg:s₁.gens=(List.toArray [])) (B:s₁.heap.get? a=some { cls:=.type "list",data:=.seq vs.toArray }) (hi:IntsAre vs ns) (O:ns.length<=sizeLine) (T:Room k callerA) (F:∀ base:Heap,K.In base->base.Ns mainGlobals mg->FnOk P w K mg base CX k fa fd [x] sp) (i:∀ (s:Shared) (u:Value),BindsTo s fd #[[u],[]] [(x,u)]) (I:∀ H:Hp,BV H->SqL K H a (ns.map V.int)->sp [.ref a] H (λv _=>v=.bl true) λ_ _ _=>False) (G:∀ H e s',CX [] H s₁ (λ_ _ _=>False) e s'->False) :
  codeAny (model P w) callerA (.call (.ref fa) #[[.ref a],[]]) (λr s'=>r=.ok (.ret (.bool true))/\OldK s₁.heap s'.heap/\s'.os=s₁.os/\AllBare s'.gens) s₁:=by
 have L:=m6 hi
 have p:=hi.length
 have core:∀ H:Hp,BV H->SqL K H a (ns.map V.int)->HOk P w H s₁.heap->(∀ b,H b≠none->b=a)->(H a≠none->K.lookup a=none) ->
   codeAny (model P w) callerA (.call (.ref fa) #[[.ref a],[]]) (λr s'=>r=.ok (.ret (.bool true))/\OldK s₁.heap s'.heap/\s'.os=s₁.os/\AllBare s'.gens) s₁:=by
  intro H M ρ hok Q W
  have c:∀ {b:Addr} {o:Obj},s₁.heap.get? b=some o->H b=none->(oU s₁.heap H).get? b=some o:=λe n=>yK e n
  have C:∀ {b:Addr} {o:Obj} {es:Array DictEntry} {ep:Nat},s₁.heap.get? b=some o->o.data=.dict es ep->H b=none:=λ{b o es ep} e d=>by
   cases q:H b with
   | none=>rfl
   | some u =>
    have E:b=a:=Q b (by rw[q];simp)
    subst E
    rw[B] at e;cases e
    have d':Data.seq vs.toArray _=Data.dict es ep:=d
    cases d'
  have g:∀ {b:Addr} {m:Str->Option Value},s₁.heap.Ns b m->(oU s₁.heap H).Ns b m:=λ{b m} #[o,es,ep,e,d,r]=>#[o,es,ep,c e (C e d),d,r]
  have t:K.In (oU s₁.heap H):=λb o e=>c (N b o e) (by
   cases q:H b with
   | none=>rfl
   | some u =>
    have E:b=a:=Q b (by rw[q];simp)
    subst E
    rw[W (by rw[q];simp)] at e;cases e)
  have σ:Mod K mg (oU s₁.heap H):=#[t,g l,#[mb,g f,J],let #[mc,h1,h2]:=A;#[mc,g h1,h2]]
  have R:Env0 P w K mg (oU s₁.heap H) callerA [] s₁ H:=#[rfl,σ,λb o e=>A5 e,Nat.le_of_eq (vD _ _),trivial,λb f=>absurd (show b∈([]:List Addr) from f) (by simp),hok,.of_eq hg]
  refine codeAny_mono ((F _ t (g l)).run callerA [] s₁ H #[[.ref a],[]] [.ref a] [.ref a] _ _ T R (i s₁ (.ref a)) (.cons rfl .nil) (I H M ρ)) λr s' h=>?_
  cases r with
  | error e=>exact (G H e s' h).elim
  | ok fl =>
   cases fl with
   | next=>exact False.elim h
   | brk=>exact False.elim h
   | cont=>exact False.elim h
   | ret u =>
    obtain ⟨v,H',os,bare,un,j,τ,q⟩:=h
    have X:v=.bl true:=q
    subst X
    obtain rfl:u=Value.bool true:=τ
    refine #[rfl,OldK.of_keep λb o e=>?_,os,bare]
    cases q:H b with
    | none=>exact un.keep b o e q (by intro z;exact absurd (show b∈([]:List Addr) from z) (by simp)) (by simp)
    | some u =>
     rcases M b with z | ⟨ob,xs,z⟩
     .rw[q] at z;cases z
     .have z2:=un.frzs b ob _ z
      obtain ⟨e1,_⟩:=hok b _ z
      obtain ⟨S,_⟩:=j b _ z2
      rw[e] at e1;cases e1
      exact S
 cases D:K.lookup a with
 | some o =>
  have e:=N a o D
  rw[B] at e
  cases e
  refine core (λ_=>none) (λ_=>.inl rfl) (.inr #[_,vs.toArray,_,D,rfl,rfl,rfl,by rw[FE,p];exact O,by simpa using L]) (λb u z=>by have y:(none:Option HO)=some u:=z;cases y) (λb z=>absurd rfl z) λz=>absurd rfl z
 | none =>
  refine core (λb=>if b=a then some (.frz { cls:=.type "list",data:=.seq vs.toArray } (.lst (ns.map V.int))) else none) (λb=>?_) (.inl (.inr #[{ cls:=.type "list",data:=.seq vs.toArray },if_pos rfl])) (λb u z=>?_) (λb z=>?_) λ_=>D
  .by_cases f:b=a
   .exact .inr #[_,_,if_pos f]
   .exact .inl (if_neg f)
  .by_cases f:b=a
   .have y:=(if_pos f).symm.trans z
    cases y
    subst f
    exact #[B,by rw[Ft];exact O,vs,_,L,B]
   .have y:=(if_neg f).symm.trans z
    cases y
  .by_cases f:b=a
   .exact f
   .exact absurd (if_neg f) z
end L2
namespace L2
open PySem PySem.Spec PyProof.Rows
end L2
namespace L2
open PySem PySem.Spec PyProof.Rows
abbrev CX0:CXT:=λ_ _ _ _ _ _=>False
abbrev E0:XK:=λ_ _ _=>False
theorem pass0:sN CX0 X E0:=λ_ _ _ _ _ _ _ h=>h.elim
structure Fun (K:FG) (x qual:Str) (st:Stmt) (f:Addr) (fd:FuncData):Prop where
 ex:∃ (oc:Value) (od:Option Addr) (kV doc pm:Value) (an:Option Addr) (cdv ct:Value) (osl:Array (Option Value)),
  fd=PySem.W.fnOf x qual (aV st) (aO st) (ae st) .none kV doc pm an cdv ct/\K.lookup f=some #[oc,od,.func fd,osl]/\PySem.W.codeIn K cdv qual=true
 kp:PySem.W.keepIn K (.ref f)=true
section
variable {P:Program} {w:World} {K:FG} {mg:Str->Option Value} {base:Heap}
theorem Fun.ok {st:Stmt} {k:Nat} (F:Fun K x qual st f fd) (S:FnScope N ps (ae st)) (len:∀ b H Q E,sp b H Q E->b.length=ps.length) (c:∀ (a:Value) (A:Around) (outer:List Env) (s:Shared) (H:Hp) (b:List V) (Q:VK) (E:XK),Room k (A.deeper (envOfC qual (ae st) s.heap.objs.size f a))->sp b H Q E ->
   ∃ t,PSs (qw CX0 P w K mg base N qual (ae st) f a A outer s H E).nox (aO st) t/\t { nx:=λ_ H'=>Q .non H',rt:=Q } (km N b) H):FnOk P w K mg base CX0 (k+1) f fd ps sp:=by
 obtain ⟨l,m,kV,doc,pm,an,a,ct,g,rfl,i,e⟩:=F.ex
 refine fn_of i e S len λA outer s H b Q E j d=>?_
 obtain ⟨t,h,q⟩:=c a A outer s H b Q E j d
 exact #[t,h.nox,q]
theorem Fun.binds {st:Stmt} (F:Fun K x qual st f fd) (h:∀ (kV doc pm:Value) (an:Option Addr) (a ct:Value) (us:List Value),us.length=ps.length->bindArgs (PySem.W.fnOf x qual (aV st) (aO st) (ae st) .none kV doc pm an a ct) #[us,[]]=pure (ps.zip us)):Binds K fd ps []:=by
 obtain ⟨e,g,kV,doc,pm,an,a,ct,b,rfl,d,c⟩:=F.ex
 exact .all (h kV doc pm an a ct)
theorem EK {st:Stmt} {kV doc pm a ct:Value} (l:K.lookup f=some #[oc,od,.func (PySem.W.fnOf x qual (aV st) (aO st) (ae st) .none kV doc pm an a ct),osl]) (c:PySem.W.codeIn K a qual=true) (k:PySem.W.keepIn K (.ref f)=true):Fun K x qual st f (PySem.W.fnOf x qual (aV st) (aO st) (ae st) .none kV doc pm an a ct):=#[#[oc,od,kV,doc,pm,an,a,ct,osl,rfl,l,c],k]
end
theorem hu_of {k:Nat} (a:Room k A):A.units+1 < cLine:=Nat.lt_of_le_of_lt (Nat.add_le_add_left (by decide:1<=64) _) a.units
def Same (H H':Hp):Prop:=∀ b o,H b=some o->H' b=some o
theorem Same.refl (H:Hp):Same H H:=λ_ _ h=>h
theorem Same.trans (a:Same H H1) (b:Same H1 H2):Same H H2:=λc o h=>b c o (a c o h)
theorem Same.free (e:Same H H') (h:H' l=Option.none):H l=Option.none:=by
 cases q:H l with
 | none=>rfl
 | some o =>
  rw[e l o q] at h
  cases h
theorem Same.seq {K:FG} (e:Same H H') (h:SqL K H a xs):SqL K H' a xs:=by
 rcases h with (h | ⟨o,h⟩) | h
 .exact .inl (.inl (e _ _ h))
 .exact .inl (.inr #[o,e _ _ h])
 .exact .inr h
end L2
end
section
namespace L2
open PySem PySem.Spec PyProof.Rows
section
variable {prog:Program} {w:World} {A:Around} {E:Value->Shared->Prop} {s:Shared}
theorem pz (ty:s.TypeIs (.ref d) "dict") (h:wpAny (model prog w) A.in1 (dictSet d k v) Q E s) :
  wpAny (model prog w) A (setItem (.ref d) k v) Q E s:=by
 unfold setItem
 refine Fd (Fb (wpAny_sequenceKey ty (by decide) (Fb (wpAny_callSpecial?_slot ty slot_dict_setitem (wpAny_call_entry slot_dict_setitem ty entry_dict_setitem ?_ (args_dict_setitem _ _ _))))))
 refine Fb (wpAny_notOrdered_dict ty ?_)
 refine (?_:wpAny _ _ (dictSet d k v >>= _) _ _ s)
 exact Fb (wpAny_mono h (λ_ _ z=>Fc #[_,rfl,Fc z]) λ_ _ z=>z)
theorem m8 {b:Int} {ep:Nat} {F:Option Nat->Prop} (a:s.heap.get? d=some o) (c:o.ExactDict) (hd:o.data=.dict es ep) (hz:es.size<=sizeLine) (find:wpAny (model prog w) A (dictFind d key b) (λr s'=>s'=s/\F r) E s) (old:∀ i h' o',F (some i)->h'.get? d=some o'->o'.ExactDict->o'.data=.dict (es.modify i λe=>{ e with val:=v }) ep->Heap.SameBut d s.heap h'->Q () { s with heap:=h' }) (new:∀ h' o',F none->h'.get? d=some o'->o'.ExactDict->o'.data=.dict (es.push #[b,key,v]) (ep+1)->Heap.SameBut d s.heap h'->Q () { s with heap:=h' }) :
  wpAny (model prog w) A (dictSetHashed d key b v) Q E s:=by
 unfold dictSetHashed
 refine Fd (Fb (wpAny_mono find ?_ λ_ _ z=>z))
 rintro (_ | i) _ ⟨rfl,f⟩
 .exact Fb (wpAny_rule (wpAny_updateDictKeys (hz:=hz) a hd (new _ _ f (FL _ a (Obj.isFreed_of_dict (Obj.data_mapDictKeys hd _))) (c.mapDictKeys _) (Obj.data_mapDictKeys hd _) (Heap.SameBut.update ..))))
 .exact Fb (wpAny_rule (Fb (wpAny_updateDict a hd (wpAny_point (old i _ _ f (FL _ a (Obj.isFreed_of_dict (Obj.data_mapDict hd _))) (c.mapDict _) (Obj.data_mapDict hd _) (Heap.SameBut.update ..))))))
end
section
variable {prog:Program} {w:World} {K:Type} [DecidableEq K] {A:Around} {E:Value->Shared->Prop} {s:Shared} {d:Addr} {k:K}
section
variable {knd:HeapKind prog w K}
def DictOfHE (knd:HeapKind prog w K) (h:Heap) (d:Addr) (xs:List (K×Addr×Value)) (n:Nat):Prop :=
 ∃ o es ep,h.get? d=some o/\o.ExactDict/\o.data=.dict es ep/\es.toList=xs.map (entryOfKey knd)/\(∀ x∈xs,knd.is h x.1 x.2.1)/\(xs.map (·.1)).Nodup/\es.size=ep+n
theorem DictOfHE.of {n:Nat} (x:DictOfHE knd h d xs n):h.DictOfH knd d xs:=let #[o,es,ep,h1,h2,h3,c,b,a,_]:=x;#[o,es,ep,h1,h2,h3,c,b,a]
theorem u8 {y:Addr×Value} (b:(xs.map (·.1)).Nodup) (h:k ∉ xs.map (·.1)):((xs++[(k,y)]).map (·.1)).Nodup:=by
 rw[List.map_append]
 exact List.nodup_append.mpr #[b,List.nodup_cons.mpr #[List.not_mem_nil,List.nodup_nil],λx c y a e=>h (by have:=FT.mp a;subst this;exact e ▸ c)]
theorem mO (hu:knd.room A) (b:knd.is s.heap k a) {n:Nat} (hm:DictOfHE knd s.heap d xs n) (r:∀ h',DictOfHE knd h' d (storedH xs k a v) n->Heap.SameBut d s.heap h'->Q () { s with heap:=h',toks:=s.toks+knd.draws k }) (hsz:xs.length<=sizeLine:=by size_fits):wpAny (model prog w) A (dictSet d (.ref a) v) Q E s:=by
 obtain ⟨o,es,ep,m,t,hd,he,g,l,q⟩:=hm
 unfold dictSet
 refine Fd (Fb (knd.pyHash hu b ?_))
 refine m8 (s:={ s with toks:=s.toks+knd.draws k }) (F:=λ| none=>∀ (j:Nat) (p:Addr×Value),xs[j]?≠some (k,p) | some j=>∃ p,xs[j]?=some (k,p)) m t hd (size_of_entries he ▸ hsz)
  (wpAny_dictFind_heap (s:={ s with toks:=s.toks+knd.draws k }) hu b m hd he g l (λz=>#[rfl,z]) λj p z=>#[rfl,p,z]) ?_ ?_
 .rintro i h' o' ⟨p,f⟩ g1 g2 g3 h
  have at':=storedH_old (atKey_of_get l f) a v
  refine r h' #[o',_,_,g1,g2,g3,?_,?_,?_,?_] h <;> try rw[at']
  .rw[Array.toList_modify,he]
   exact modify_map_putAt (entryOfKey knd) _ k v (λ_ _=>rfl) l f
  .intro x c
   obtain ⟨y,u,rfl⟩:=Fy.mp c
   have:=knd.keeps (g y u) m hd h
   by_cases e:y.1=k <;> simpa[putAt,e] using this
  .exact (keys_map_putAt xs k v).symm ▸ l
  .rw[Array.size_modify];exact q
 .intro h' o' f g1 g2 g3 h
  have at':=storedH_new (atKey_none_of_get f) a v
  refine r h' #[o',_,_,g1,g2,g3,?_,?_,?_,?_] h <;> try rw[at']
  .simp[he,entryOfKey]
  .intro x c
   rcases Fq.mp c with c | c
   .exact knd.keeps (g x c) m hd h
   .cases FT.mp c;exact knd.keeps b m hd h
  .exact u8 l (not_mem_keys_of_get f)
  .rw[Array.size_push];omega
theorem mF (hu:knd.room A.in1) (b:knd.is s.heap k a) {n:Nat} (hm:DictOfHE knd s.heap d xs n) (c:∀ h',DictOfHE knd h' d (storedH xs k a v) n->Heap.SameBut d s.heap h'->Q () { s with heap:=h',toks:=s.toks+knd.draws k }) (hsz:xs.length<=sizeLine:=by size_fits):wpAny (model prog w) A (setItem (.ref d) (.ref a) v) Q E s :=
 pz hm.of.typeIs (mO (hsz:=hsz) hu b hm c)
end
section
variable {knd:KeyKind prog w K} {key:Value}
theorem ml (a:knd.is k key=true) (hm:DictOfE knd s.heap d kvs) (m:∀ h',DictOfE knd h' d (stored kvs k v)->Heap.SameBut d s.heap h'->Q () { s with heap:=h',toks:=s.toks+1 }) (hsz:kvs.length<=sizeLine:=by size_fits):wpAny (model prog w) A (dictSet d key v) Q E s:=by
 obtain ⟨o,⟨es⟩,ep,l,p,hd,j,b,c,rfl⟩:=hm
 have same:=b.findIdx k
 have hz:(#[es]:Array DictEntry).size<=sizeLine:=by have:=b.length;simp at this ⊢;omega
 unfold dictSet
 refine Fd (Fb (knd.pyHash a ?_))
 refine m8 (s:={ s with toks:=s.toks+1 }) (F:=λr=>es.findIdx? (λe=>knd.is k e.key)=r) l p hd hz
  (wpAny_dictFind_of (s:={ s with toks:=s.toks+1 }) a l hd j #[rfl,by simp]) ?_ ?_
 .intro i h' o' f g1 g2 g3 h
  have at':stored kvs k v=_:=if_pos (any_of_findIdx_some (same.symm.trans f))
  refine m h' #[o',_,_,g1,g2,g3,j.modify _ _,?_,?_,(Array.size_modify).symm] h <;> rw[at']
  .simpa using b.modify c f v
  .exact (keys_map_store kvs k v).symm ▸ c
 .intro h' o' f g1 g2 g3 h
  have no:=not_mem_of_findIdx_none (same.symm.trans f)
  have at':stored kvs k v=_:=if_neg λz=>by
   obtain ⟨x,g,e⟩:=List.any_eq_true.mp z
   exact no (Fy.mpr #[x,g,of_decide_eq_true e])
  refine m h' #[o',_,_,g1,g2,g3,j.push a _,?_,?_,by simp] h <;> rw[at']
  .simpa using b.append a (knd.hash k) v
  .rw[List.map_append]
   exact List.nodup_append.mpr #[c,List.nodup_cons.mpr #[List.not_mem_nil,List.nodup_nil],λx g y q e=>no (by cases FT.mp q;have n:x=k:=e;exact n ▸ g)]
theorem lC (a:knd.is k key=true) (hm:DictOfE knd s.heap d kvs) (b:∀ h',DictOfE knd h' d (stored kvs k v)->Heap.SameBut d s.heap h'->Q () { s with heap:=h',toks:=s.toks+1 }) (hsz:kvs.length<=sizeLine:=by size_fits):wpAny (model prog w) A (setItem (.ref d) key v) Q E s :=
 pz hm.of.typeIs (ml (hsz:=hsz) a hm b)
end
end
section
variable {κ:Type} [DecidableEq κ]
def kH (kvs:List (κ×V)) (k:κ):Option V:=(kvs.find? λa=>decide (a.1=k)).map (·.2)
def fQ (kvs:List (κ×V)) (k:κ) (v:V):List (κ×V) :=
 if (kvs.any λa=>decide (a.1=k))=true then kvs.map (λa=>if a.1=k then (a.1,v) else a) else kvs++[(k,v)]
theorem je {p:κ×V} {k:κ} (e:p.1=k):kH (p::r) k=some p.2:=by simp[kH,List.find?_cons,e]
theorem jf {p:κ×V} {k:κ} (e:¬ p.1=k):kH (p::r) k=kH r k:=by simp[kH,List.find?_cons,e]
theorem ph (k:κ):∀ kvs:List (κ×V),(kvs.any λa=>decide (a.1=k))=(kH kvs k).isSome
 | []=>rfl
 | p::r=>by
  rw[List.any_cons]
  by_cases e:p.1=k
  .simp only[je e,FH e,Bool.true_or,Option.isSome_some]
  .rw[jf e,FI e,Bool.false_or];exact ph k r
theorem kE (kvs:List (κ×V)) (k:κ) (v:V):(fQ kvs k v).length<=kvs.length+1:=by
 unfold fQ
 split
 .rw[Ft];omega
 .rw[FN,FO,List.length_nil];omega
theorem RelO.isSome_eq (r:RelO o u):o.isSome=u.isSome:=by
 cases o with
 | none=>cases u with
  | none=>rfl
  | some _=>exact (show False from r).elim
 | some _=>cases u with
  | none=>exact (show False from r).elim
  | some _=>rfl
theorem RelO.getD (r:RelO o u) (rd:RelV d d'):RelV (o.getD d) (u.getD d'):=by
 cases o with
 | none=>cases u with
  | none=>exact rd
  | some _=>exact (show False from r).elim
 | some _=>cases u with
  | none=>exact (show False from r).elim
  | some _=>exact r
theorem KV.val (r:KV kvs vs) (k:κ):RelO (kH kvs k) (valueAt vs k):=by
 unfold KV at r
 induction r with
 | nil=>exact True.intro
 | @cons p q ps qs h t ih =>
  obtain ⟨h1,h2⟩:=h
  by_cases e:p.1=k
  .have a:q.1=k:=h1.symm.trans e
   have b:valueAt (q::qs) k=some q.2:=by simp[valueAt,List.find?_cons,a]
   rw[je e,b];exact h2
  .have a:¬ q.1=k:=λz=>e (h1.trans z)
   have b:valueAt (q::qs) k=valueAt qs k:=by simp[valueAt,List.find?_cons,a]
   rw[jf e,b];exact ih
theorem KV.any (r:KV kvs vs) (k:κ):(kvs.any λa=>decide (a.1=k))=vs.any λa=>decide (a.1=k):=by
 unfold KV at r
 induction r with
 | nil=>rfl
 | cons h t ih=>rw[List.any_cons,List.any_cons,ih,h.1]
theorem KV.repl (r:KV kvs vs) (k:κ) (b:RelV y u) :
  KV (kvs.map λa=>if a.1=k then (a.1,y) else a) (vs.map λa=>if a.1=k then (a.1,u) else a):=by
 unfold KV at r ⊢
 induction r with
 | nil=>exact .nil
 | @cons p q ps qs h t ih =>
  rw[FF,FF]
  refine .cons ?_ ih
  obtain ⟨h1,h2⟩:=h
  by_cases e:p.1=k
  .rw[if_pos e,if_pos (h1.symm.trans e)];exact #[h1,b]
  .rw[if_neg e,if_neg (λz=>e (h1.trans z))];exact #[h1,h2]
theorem KV.put (r:KV kvs vs) (k:κ) (a:RelV y u):KV (fQ kvs k y) (stored vs k u):=by
 unfold fQ stored
 rw[r.any k]
 by_cases e:(vs.any λb=>decide (b.1=k))=true
 .rw[if_pos e,if_pos e];exact r.repl k a
 .rw[if_neg e,if_neg e];exact Paired.snoc r #[rfl,a]
theorem KV.keys {kvs:List (κ×V)} (r:KV kvs vs):kvs.map (·.1)=vs.map (·.1):=by
 unfold KV at r
 induction r with
 | nil=>rfl
 | cons h t ih=>rw[FF,FF,ih,h.1]
theorem KV.length {kvs:List (κ×V)} (r:KV kvs vs):kvs.length=vs.length:=Paired.length r
end
theorem yE (r:RelV (kV k) u):(aU P w).is k u=true:=by
 cases k with
 | inl i=>obtain ⟨t,e⟩:=(show ∃ t,u=Value.int i t from r);subst e;exact pY P w i t
 | inr x=>obtain ⟨t,e⟩:=(show ∃ t,u=Value.str x t from r);subst e;exact pX P w x t
theorem nJ:∀ {ks:List Key} {us:List Value},Vals (ks.map kV) us->ItemsAre (aU P w) ks us
 | [],_,r=>by rw[List.map_nil] at r;cases r;exact .nil
 | k::ks,_,r=>by
  rw[FF] at r
  cases r with
  | cons h t=>exact .cons (yE h) (nJ t)
abbrev KT (H:Hp):List (List Key×V)->List (List Key×Addr×Value)->Prop:=Paired λp q=>p.1=q.1/\H q.2.1=some (.tup (p.1.map kV))/\RelV p.2 q.2.2
theorem KT.val (r:KT H kvs xs) (k:List Key):RelO (kH kvs k) ((atKey xs k).map (·.2)):=by
 induction r with
 | nil=>exact True.intro
 | @cons p q ps qs h t ih =>
  obtain ⟨h1,_,h2⟩:=h
  by_cases e:p.1=k
  .have a:q.1=k:=h1.symm.trans e
   have b:atKey (q::qs) k=some q.2:=by simp[atKey,List.find?_cons,a]
   rw[je e,b];exact h2
  .have a:¬ q.1=k:=λz=>e (h1.trans z)
   have b:atKey (q::qs) k=atKey qs k:=by simp[atKey,List.find?_cons,a]
   rw[jf e,b];exact ih
theorem KT.repl (r:KT H kvs xs) (k:List Key) (b:RelV y u) :
  KT H (kvs.map λa=>if a.1=k then (a.1,y) else a) (xs.map (putAt k u)):=by
 induction r with
 | nil=>exact .nil
 | @cons p q ps qs h t ih =>
  rw[FF,FF]
  refine .cons ?_ ih
  obtain ⟨h1,h2,h3⟩:=h
  unfold putAt
  by_cases e:p.1=k
  .rw[if_pos e,if_pos (h1.symm.trans e)];exact #[h1,h2,b]
  .rw[if_neg e,if_neg (λz=>e (h1.trans z))];exact #[h1,h2,h3]
theorem KT.put (r:KT H kvs xs) (k:List Key) (d:H b=some (.tup (k.map kV))) (a:RelV y u) :
  KT H (fQ kvs k y) (storedH xs k b u):=by
 have e:(kvs.any λc=>decide (c.1=k))=(atKey xs k).isSome:=by
  rw[ph,(r.val k).isSome_eq,Option.isSome_map]
 unfold fQ storedH
 rw[e]
 by_cases q:(atKey xs k).isSome=true
 .rw[if_pos q,if_pos q];exact r.repl k a
 .rw[if_neg q,if_neg q];exact Paired.snoc r #[rfl,d,a]
theorem KT.keeps (r:KT H kvs xs) (a:∀ b ys,H b=some (.tup ys)->H' b=some (.tup ys)):KT H' kvs xs :=
 Paired.mapP r λ_ _ z=>#[z.1,a _ _ z.2.1,z.2.2]
section
variable {P:Program} {w:World} {H:Hp} {h:Heap} {a:Addr}
theorem B9 (ok:HOk P w H h) (e:Rd H a u):ObjOk P w H h a u:=e.ok ok
theorem yX (ok:HOk P w H h) (e:Rd H a (.dK kvs)):kvs.length<=sizeLine/\(a == sysModules)=false/\∃ b,KV kvs b/\DictOfE (aU P w) h a b :=
 show ObjOk P w H h a (.dK kvs) from B9 ok e
theorem Cr (ok:HOk P w H h) (e:Rd H a (.dK kvs)):kvs.length<=sizeLine/\(a == sysModules)=false/\∃ b,KV kvs b/\h.DictOf (aU P w) a b:=let #[z,y,b,r,d]:=yX ok e;#[z,y,b,r,d.of]
def HdT (H:Hp) (a:Addr) (kvs:List (List Key×V)):Prop:=∃ n,H a=some (.dT kvs n)
def RdT (H:Hp) (a:Addr) (kvs:List (List Key×V)):Prop:=∃ n,Rd H a (.dT kvs n)
theorem HdT.rd (h:HdT H a kvs):RdT H a kvs:=let #[n,e]:=h;#[n,.inl e]
theorem rR (ok:HOk P w H h) (e:H a=some (.tup (ks.map kV))):(tupleKind (aU P w)).is h ks a:=by
 obtain ⟨_,its,r,o,h1,h2,n,h3⟩:=(show ObjOk P w H h a (.tup (ks.map kV)) from ok a _ e)
 exact #[o,its.toArray,n,h1,h2,congrArg Prod.fst h3,by simpa using nJ r]
theorem mj {n:Nat} (ok:HOk P w H h) (e:Rd H a (.dT kvs n)):kvs.length<=sizeLine/\(a == sysModules)=false /\
  ∃ xs,KT H kvs xs/\DictOfHE (tupleKind (aU P w)) h a xs n:=by
 obtain ⟨z,y,xs,r,o,es,ep,h1,h2,h3,c,d⟩:=(show ObjOk P w H h a (.dT kvs n) from B9 ok e)
 refine #[z,y,xs,r,o,es,ep,h1,h2,h3,c,λx b=>?_,d]
 have all:∀ {l:List (List Key×V)} {m:List (List Key×Addr×Value)},KT H l m->∀ x∈m,(tupleKind (aU P w)).is h x.1 x.2.1:=by
  intro l m q
  induction q with
  | nil=>intro x b;exact nomatch b
  | @cons p q ps qs hq t ih =>
   intro x b
   rcases Fm.mp b with e | b
   .subst e
    exact rR ok (by rw[<- hq.1];exact hq.2.1)
   .exact ih x b
 exact all r x b
theorem ug (ok:HOk P w H h) (e:RdT H a kvs):kvs.length<=sizeLine/\(a == sysModules)=false /\
  ∃ xs,KT H kvs xs/\h.DictOfH (tupleKind (aU P w)) a xs:=let #[_,e]:=e;let #[z,y,xs,r,d]:=mj ok e;#[z,y,xs,r,d.of]
end
def DGet (H:Hp) (a:Addr) (y:V) (r:Option V):Prop :=
 (∃ kvs k,Rd H a (.dK kvs)/\y=kV k/\r=kH kvs k)\/∃ kvs k b,RdT H a kvs/\y=.ref b/\H b=some (.tup (k.map kV))/\r=kH kvs k
def DPut (H:Hp) (a:Addr) (y v:V) (H':Hp):Prop :=
 (∃ kvs k,H a=some (.dK kvs)/\y=kV k/\kvs.length < sizeLine/\H'=upd H a (.dK (fQ kvs k v))) \/
 ∃ kvs k b,∃ n,H a=some (.dT kvs n)/\y=.ref b/\H b=some (.tup (k.map kV))/\kvs.length < sizeLine/\H'=upd H a (.dT (fQ kvs k v) n)
theorem DGet.t {n:Nat} (e:H a=some (.dT kvs n)) (c:H b=some (.tup (k.map kV))):DGet H a (.ref b) (kH kvs k):=.inr #[kvs,k,b,#[n,.inl e],rfl,c,rfl]
theorem DPut.t {n:Nat} (e:H a=some (.dT kvs n)) (d:H b=some (.tup (k.map kV))) (c:kvs.length < sizeLine) :
  DPut H a (.ref b) v (upd H a (.dT (fQ kvs k v) n)):=.inr #[kvs,k,b,n,e,rfl,d,c,rfl]
section
variable {X:Cx} {pins:List (Addr×Obj)} {Y:St} {H:Hp} {s:Shared} {a:Addr} {y v:V} {u r:Value} {o:Option V} {A:Around} {E:Value->Shared->Prop}
theorem Inv.big (I:Inv X pins Y H s):sysModules < s.heap.objs.size:=by
 have h:mainGlobals < s.heap.objs.size:=(I.mod.glob.keeps I.bk).lt
 exact Nat.lt_trans (by decide) h
theorem vH (hu:A.units+1 < cLine) (I:Inv X pins Y H s) (g:DGet H a y (some v)) (m:RelV y u) (h:∀ d s',Inv X pins Y H s'->RelV v d->Q d s') :
  wpAny (model X.prog X.w) A (getItem (.ref a) u) Q E s:=by
 rcases g with ⟨kvs,k,e,j,l⟩ | ⟨kvs,k,b,e,j,q,l⟩
 .subst j
  obtain ⟨z,hd,n,rel,i⟩:=Cr I.hok e
  obtain ⟨d,hw,c⟩:=RelO.some_of (v:=v) (o:=valueAt n k) (by rw[l];exact rel.val k)
  exact wpAny_getItem_of (yE m) i.mapOf hw (h d _ (I.tok _) c)
 .subst j
  cases (show u=Value.ref b from m)
  obtain ⟨z,hd,xs,rel,i⟩:=ug I.hok e
  obtain ⟨d,hw,c⟩:=RelO.some_of (v:=v) (o:=(atKey xs k).map (·.2)) (by rw[l];exact rel.val k)
  obtain ⟨p,r,f⟩:=Fh.mp hw
  refine wpAny_getItem_heap (tupleKind_room_in1 hu) (rR I.hok q) i r ?_
  rw[f]
  exact h d _ (I.tok _) c
theorem ul {t':Nat} (I:Inv X pins Y H s) (d:Mut (H a)) (c:Heap.SameBut a s.heap h') (he:∃ q,h'.get? a=some q) (new:ObjOk X.prog X.w (upd H a ob) h' a ob) :
  Inv X pins Y (upd H a ob) { s with heap:=h',toks:=t' } :=
 I.write (x:=a) (e:=a) d (.inl rfl) (λb q f z=>(c.2 b f).trans z) he new
theorem ER (z:kvs.length<=sizeLine) (hd:(a == sysModules)=false) (rel:KV kvs vs) (b:DictOfE (aU P w) h' a vs) :
  ObjOk P w H' h' a (.dK kvs):=#[z,hd,vs,rel,b]
theorem vG (hu:A.units+1 < cLine) (I:Inv X pins Y H s) (g:DPut H a y v H') (x:RelV y u) (t:RelV v r) (h:∀ s',Inv X pins Y H' s'->Q () s') :
  wpAny (model X.prog X.w) A (setItem (.ref a) u r) Q E s:=by
 rcases g with ⟨kvs,k,e,i,l,j⟩ | ⟨kvs,k,b,n,e,i,B,l,j⟩
 .subst i j
  obtain ⟨z,hd,D,rel,m⟩:=yX I.hok (.inl e)
  have hz:D.length<=sizeLine:=by rw[<- rel.length];exact z
  have p:(fQ kvs k v).length<=sizeLine:=by have:=kE kvs k v;omega
  refine lC (hsz:=hz) (yE x) m λh' d o=>h _ ?_
  have he:∃ q,h'.get? a=some q:=let #[q,_,_,f,_]:=d;#[q,f]
  exact ul I (by rw[e];exact True.intro) o he (ER p hd (rel.put k t) d)
 .subst i j
  cases (show u=Value.ref b from x)
  obtain ⟨z,hd,xs,rel,m⟩:=mj I.hok (.inl e)
  have hz:xs.length<=sizeLine:=by rw[<- Paired.length rel];exact z
  have p:(fQ kvs k v).length<=sizeLine:=by have:=kE kvs k v;omega
  refine mF (hsz:=hz) (tupleKind_room_in1 hu) (rR I.hok B) m λh' d o=>h _ ?_
  obtain ⟨q,es,ep,f,h2,h3,F,_,G⟩:=d
  refine ul I (by rw[e];exact True.intro) o #[q,f] #[p,hd,_,(rel.put k B t).keeps λc ys C=>?_,q,es,ep,f,h2,h3,F,G]
  rw[aD (ne_of C e (λz=>nomatch z))]
  exact C
end
theorem qv (I:Inv X pins Y H s) (g:DGet H a y o):s.TypeIs (.ref a) "dict":=by
 rcases g with ⟨kvs,k,e,_,_⟩ | ⟨kvs,k,b,e,_,_,_⟩
 .obtain ⟨_,_,d,_,c⟩:=Cr I.hok e
  exact c.typeIs
 .obtain ⟨_,_,xs,_,c⟩:=ug I.hok e
  exact c.typeIs
theorem yV (h:Heap) (a:sysModules < h.objs.size):ObjOk P w H (h.push { cls:=.type "dict",data:=.dict (List.toArray []) }) h.objs.size (.dT [] 0) :=
 #[Nat.zero_le _,beq_eq_false_iff_ne.mpr (Ne.symm (FD a)),[],.nil,_,(List.toArray []),0,Fs _ rfl,#[rfl,rfl,rfl],rfl,rfl,List.nodup_nil,rfl]
def C2:TE:=λ_ H Q=>∀ p,H p=none->Q (.ref p) (upd H p (.dT [] 0))
section
variable {X:Cx} {pos:Pos}
theorem xL:PE X (.Dict [] [] pos) C2:=λpins s Y H Q I h =>
 wpAny_Dict_empty #[.ref s.heap.objs.size,_,I.laid (a:=s.heap.objs.size) (o:=.dT [] 0) (t':=s.toks) (λ_ _ q=>Fg _ q) (FA _) (yV s.heap I.big),rfl,h _ (I.hok.fresh (FA _))]
end
end L2
namespace L2
open PySem PySem.Spec PyProof.Rows
end L2
end
section
namespace L2
open PySem PySem.Spec PyProof.Rows
def kN (cells:List (Str×Addr)) (cs:List (Str×Addr)) (x:Str×NameKind):List (Str×Addr) :=
 if x.2 == .free then (match cells.lookup x.1 with | some c=>(x.1,c)::cs | none=>cs) else cs
def clo (cells:List (Str×Addr)) (names:List (Str×NameKind)):List (Str×Addr):=names.foldl (kN cells) []
theorem me {α β:Type} {f:α->β->Sem (ForInStep β)} {g:β->α->β}:∀ {l:List α} {c:β},(∀ x∈l,∀ c,f x c=pure (.yield (g c x)))->forIn l c f=pure (l.foldl g c)
 | [],c,_=>rfl
 | x::l,c,h=>by
  rw[List.forIn_cons,h x Fe,pure_bind]
  exact me λy a=>h y (Ff _ a)
theorem iq (h:∀ x∈scope.names,x.2=.free->∃ c,env.cells.lookup x.1=some c):closureFor scope env=pure (clo env.cells scope.names):=by
 simp only[closureFor]
 rw[me (g:=kN env.cells) (λx i c=>by
  obtain ⟨n,kind⟩:=x
  unfold kN
  by_cases b:kind=.free
  .subst b
   obtain ⟨a,e⟩:=h _ i rfl
   have d:env.cells.lookup n=some a:=e
   simp[cellOf,d]
  .have f:(kind == NameKind.free)=false:=by simpa using b
   simp[f])]
 rfl
theorem nO:∀ {l:List (Str×NameKind)} {cs:List (Str×Addr)},(∀ y d,cs.lookup y=some d->cells.lookup y=some d)->(l.foldl (kN cells) cs).lookup x=some c->cells.lookup x=some c
 | [],cs,h,e=>h x c e
 | y::l,cs,h,e=>by
  refine nO (l:=l) (cs:=kN cells cs y) (λz d q=>?_) e
  unfold kN at q
  split at q
  .cases b:cells.lookup y.1 with
   | none=>rw[b] at q;exact h z d q
   | some a =>
    rw[b] at q
    simp only[List.lookup_cons] at q
    cases hz:z == y.1 with
    | true=>rw[hz] at q;have:=eq_of_beq hz;subst this;rw[b];exact q
    | false=>rw[hz] at q;exact h z d q
  .exact h z d q
theorem f9 (e:(clo cells l).lookup x=some c):cells.lookup x=some c:=nO (λ_ _ q=>by simp at q) e
theorem mf (d:cells.lookup x=some c):∀ {l:List (Str×NameKind)} {cs:List (Str×Addr)},cs.lookup x=some c->(l.foldl (kN cells) cs).lookup x=some c
 | [],_,e=>e
 | y::l,cs,e=>by
  refine mf d (l:=l) (cs:=kN cells cs y) ?_
  unfold kN
  split
  .cases b:cells.lookup y.1 with
   | none=>exact e
   | some a =>
    simp only[List.lookup_cons]
    cases hz:x == y.1 with
    | true=>have:=eq_of_beq hz;subst this;rw[d] at b;exact b.symm
    | false=>exact e
  .exact e
theorem nP (a:cells.lookup x=some c):∀ {l:List (Str×NameKind)} {cs:List (Str×Addr)},(x,NameKind.free)∈l->(l.foldl (kN cells) cs).lookup x=some c
 | [],_,m=>by simp at m
 | y::l,cs,m=>by
  rcases Fm.mp m with rfl | m
  .refine mf a (l:=l) ?_
   simp[kN,a]
  .exact nP a (l:=l) (cs:=kN cells cs y) m
theorem um (a:cells.lookup x=some c) (m:(x,NameKind.free)∈l):(clo cells l).lookup x=some c:=nP a m
theorem jt {env:Env}:∀ {names:List (Str×NameKind)} {x:Str},names.lookup x=some .free ->
  (names.map λ(n,k)=>if (k == NameKind.free && env.scope.kind == .function && env.kindOf n == some .cell) then (n,NameKind.cell) else (n,k)).lookup x=some .cell \/
  (names.map λ(n,k)=>if (k == NameKind.free && env.scope.kind == .function && env.kindOf n == some .cell) then (n,NameKind.cell) else (n,k)).lookup x=some .free
 | [],_,h=>by simp at h
 | (n,k)::r,x,h=>by
  have b:=@jt env r x
  show List.lookup x ((if (k == NameKind.free && env.scope.kind == .function && env.kindOf n == some .cell)=true then (n,NameKind.cell) else (n,k))::_)=_ \/
   List.lookup x ((if (k == NameKind.free && env.scope.kind == .function && env.kindOf n == some .cell)=true then (n,NameKind.cell) else (n,k))::_)=_
  cases a:x == n with
  | true =>
   simp only[List.lookup_cons,a] at h
   cases h
   split
   .left;simp[List.lookup_cons,a]
   .right;simp[List.lookup_cons,a]
  | false =>
   simp only[List.lookup_cons,a] at h
   split
   .simp only[List.lookup_cons,a];exact b h
   .simp only[List.lookup_cons,a];exact b h
theorem lI {env:Env}:∀ {names:List (Str×NameKind)} {x:Str},
  ((names.map λ(n,k)=>if (k == NameKind.free && env.scope.kind == .function && env.kindOf n == some .cell) then (n,NameKind.cell) else (n,k)).lookup x=some .cell \/
  (names.map λ(n,k)=>if (k == NameKind.free && env.scope.kind == .function && env.kindOf n == some .cell) then (n,NameKind.cell) else (n,k)).lookup x=some .free)->(x,NameKind.free)∈names\/(x,NameKind.cell)∈names
 | [],_,h=>by simp at h
 | (n,k)::r,x,h=>by
  have b:=@lI env r x
  have h':List.lookup x ((if (k == NameKind.free && env.scope.kind == .function && env.kindOf n == some .cell)=true then (n,NameKind.cell) else (n,k))::(r.map λ(n,k)=>if (k == NameKind.free && env.scope.kind == .function && env.kindOf n == some .cell) then (n,NameKind.cell) else (n,k)))=some .cell \/
   List.lookup x ((if (k == NameKind.free && env.scope.kind == .function && env.kindOf n == some .cell)=true then (n,NameKind.cell) else (n,k))::(r.map λ(n,k)=>if (k == NameKind.free && env.scope.kind == .function && env.kindOf n == some .cell) then (n,NameKind.cell) else (n,k)))=some .free:=h
  cases a:x == n with
  | true =>
   have e:=eq_of_beq a
   subst e
   by_cases hf:k=.free
   .subst hf;exact .inl Fe
   .have c:(k == NameKind.free)=false:=by simpa using hf
    simp[c,List.lookup_cons] at h'
    rcases h' with q | q
    .subst q;exact .inr Fe
    .exact (hf q).elim
  | false =>
   refine (b ?_).imp (Ff _) (Ff _)
   split at h'
   .simpa only [List.lookup_cons,a] using h'
   .simpa only [List.lookup_cons,a] using h'
theorem mo {x:Str} {c:Addr}:∀ {names:List (Str×NameKind)} {n:Nat} {acc:List (Str×Addr)},(cellsFrom n names acc).lookup x=some c->n<=c\/acc.lookup x=some c
 | [],_,_,h=>.inr h
 | (y,k)::r,n,acc,h=>by
  unfold cellsFrom at h
  split at h
  .rcases mo h with q | q
   .exact .inl (Nat.le_of_succ_le q)
   .rw[List.lookup_cons] at q
    split at q
    .cases q;exact .inl (FA _)
    .exact .inr q
  .exact mo h
theorem za {x:Str} {c:Addr} {lo:Nat}:∀ {names:List (Str×NameKind)} {n:Nat} {acc:List (Str×Addr)},lo<=n->((x,NameKind.cell)∈names\/∀ d,acc.lookup x=some d->lo<=d)->(cellsFrom n names acc).lookup x=some c->lo<=c
 | [],_,_,_,m,h=>m.elim (λm=>by simp at m) λm=>m c h
 | (y,k)::r,n,acc,hl,m,h=>by
  unfold cellsFrom at h
  split at h
  .refine za (Nat.le_succ_of_le hl) ?_ h
   by_cases e:x=y
   .refine .inr λd hd=>?_
    rw[List.lookup_cons,beq_iff_eq.mpr e] at hd
    cases hd;exact hl
   .refine m.imp (λm=>(Fm.mp m).resolve_left λz=>e (Prod.mk.inj z).1) λm d hd=>m d ?_
    rw[List.lookup_cons,beq_false_of_ne e] at hd
    exact hd
  .rename_i a
   exact za hl (m.imp_left λm=>(Fm.mp m).resolve_left λz=>a (by rw[<- (Prod.mk.inj z).2];rfl)) h
theorem sg {x:Str}:∀ {names:List (Str×NameKind)} {n:Nat} {acc:List (Str×Addr)},(x,NameKind.cell) ∉ names->(cellsFrom n names acc).lookup x=acc.lookup x
 | [],_,_,_=>rfl
 | (y,k)::r,n,acc,h=>by
  have h2:(x,NameKind.cell) ∉ r:=λm=>h (Ff _ m)
  unfold cellsFrom
  split
  .rename_i a
   rw[sg h2,List.lookup_cons,beq_false_of_ne λe=>h (by rw[e,<- eq_of_beq a];exact Fe)]
  .exact sg h2
theorem sh:∀ {names:List (Str×NameKind)} {n:Nat} {acc:List (Str×Addr)},(∀ x y c,acc.lookup x=some c->acc.lookup y=some c->x=y)->(∀ x c,acc.lookup x=some c->c < n)->∀ x y c,(cellsFrom n names acc).lookup x=some c->(cellsFrom n names acc).lookup y=some c->x=y
 | [],_,_,h,_=>h
 | (z,k)::r,n,acc,h,hl=>by
  unfold cellsFrom
  split
  .refine sh (λx y c e1 a=>?_) λx c e=>?_
   .rw[List.lookup_cons] at e1 a
    cases b:x == z <;> cases d:y == z <;> rw[b] at e1 <;> rw[d] at a
    .exact h x y c e1 a
    .cases a;exact absurd (hl _ _ e1) (Nat.lt_irrefl _)
    .cases e1;exact absurd (hl _ _ a) (Nat.lt_irrefl _)
    .rw[eq_of_beq b,eq_of_beq d]
   .rw[List.lookup_cons] at e
    split at e
    .cases e;exact Nat.lt_succ_self _
    .exact Nat.lt_succ_of_lt (hl x c e)
  .exact sh h hl
theorem oY:∀ {names:List (Str×NameKind)} {h:Heap} {acc:List (Str×Addr)},(∀ x c,acc.lookup x=some c->∃ v,h.IsCell c v)->∀ x c,(cellsFrom h.objs.size names acc).lookup x=some c->∃ v,(pushCells h names).IsCell c v
 | [],_,_,h=>h
 | (z,k)::r,hp,acc,h=>by
  unfold cellsFrom pushCells
  split
  .have:=oY (names:=r) (h:=hp.push { cls:=.type "cell",data:=.cell none }) (acc:=(z,hp.objs.size)::acc) λx c e=>by
    rw[List.lookup_cons] at e
    split at e
    .cases e;exact #[none,_,Fs _ rfl,rfl]
    .obtain ⟨v,q⟩:=h x c e
     exact #[v,q.keeps λb o e=>Fg _ e]
   rwa [FX] at this
  .exact oY h
theorem mB {M:Model} {A:Around} {E:Value->Shared->Prop} {s:Shared} {scope:Scope} {globals:Addr} {cl:List (Str×Addr)} {qual:Str} {env:Env} {Q:Env->Shared->Prop}
  (h:Q (newEnv scope s.heap.objs.size globals (cellsFrom (s.heap.objs.size+1) scope.names cl) qual none .none (some env) builtinsNs) { s with heap:=pushCells (s.heap.push { cls:=.type "dict",data:=.dict (List.toArray []) }) scope.names }) :
  wpAny M A (newFunctionEnv scope globals cl [] qual none .none (some env)) Q E s:=by
 simp only[newFunctionEnv,Option.isSome_some,if_true]
 refine Fb (wpAny_alloc ?_)
 refine Fb (wpAny_layCells _ (λname kind cells=>by cases a:kind == NameKind.cell <;> simp[a]) _ _ _ _ ?_)
 rw[show ({ s with heap:=s.heap.push { cls:=.type "dict",data:=.dict (List.toArray []) } }:Shared).heap.objs.size=s.heap.objs.size+1 from FX ..]
 exact Fb (by rw[List.forIn_nil];exact Fc (Fc h))
abbrev lh (X:Cx) (scope:Scope) (C:Addr):List (Str×Addr):=cellsFrom (C+1) scope.names (clo X.env.cells scope.names)
def aN (X:Cx) (NY:List Str) (scope:Scope) (s:Shared) (H:Hp) (C:Addr) (fp:List Addr):Cx where
 prog:=X.prog
 w:=X.w
 K:=X.K
 mg:=X.mg
 base:=X.base
 A:=X.A
 N:=NY
 s₀:=s
 H₀:=H
 env:=compEnvC scope (lh X scope C) C X.env
 outer:=X.stack
 stack:=X.stack
 ex:=fp
 fn:=λx=>scope.names.lookup x == some .cell
 calm:=X.calm
 pn:=[]
 xe:=λ_ _=>False
def cap (ix:List (Option Nat)) (Y:St):St:=ix.map λo=>match o with | some i=>(Y[i]?).getD none | none=>none
def il (sc:Scope) (b:List Str) (a:Scope) (NY:List Str) (ix:List (Option Nat)):Bool :=
 sc.kind == .function && sc.names.all (λy=>y.2 != .cell || sc.names.lookup y.1 == some .cell) && sc.names.all (λy=>y.2 != .local || sc.names.lookup y.1 == some .local) && sc.names.all (λy=>y.2 != .free || sc.names.lookup y.1 == some .free)
  && sc.names.all (λy=>y.2 != .free || (a.names.lookup y.1 == some .cell || a.names.lookup y.1 == some .free))
  && ix.length == NY.length && (NY.zip ix).all λp=>match p.2 with | none=>true | some i=>(b[i]? == some p.1) && sc.names.contains (p.1,NameKind.free)
structure CompOk (sc:Scope) (XN:List Str) (Xsc:Scope) (NY:List Str) (ix:List (Option Nat)):Prop where
 kind:sc.kind=.function
 cel:∀ y∈sc.names,y.2=.cell->sc.names.lookup y.1=some .cell
 loc:∀ y∈sc.names,y.2=.local->sc.names.lookup y.1=some .local
 fre:∀ y∈sc.names,y.2=.free->sc.names.lookup y.1=some .free
 out:∀ y∈sc.names,y.2=.free->Xsc.names.lookup y.1=some .cell\/Xsc.names.lookup y.1=some .free
 len:ix.length=NY.length
 cap:∀ (j:Nat) x i,NY[j]?=some x->ix[j]?=some (some i)->XN[i]?=some x/\(x,NameKind.free)∈sc.names
theorem CompOk.of (h:il sc XN Xsc NY ix=true):CompOk sc XN Xsc NY ix:=by
 simp only[il,Bool.and_eq_true,List.all_eq_true,beq_iff_eq] at h
 obtain ⟨⟨⟨⟨⟨⟨h1,h2⟩,h3⟩,g⟩,f⟩,c⟩,d⟩:=h
 refine #[h1,λy a e=>?_,λy a e=>?_,λy a e=>?_,λy a e=>?_,c,λj x i e1 b=>?_]
 .have:=h2 y a;rw[e] at this;simpa using this
 .have:=h3 y a;rw[e] at this;simpa using this
 .have:=g y a;rw[e] at this;simpa using this
 .have:=f y a;rw[e] at this;simpa using this
 .have m:(x,some i)∈NY.zip ix:=by
   refine Fv (i:=j) ?_
   rw[List.getElem?_zip_eq_some]
   exact #[e1,b]
  have:=d _ m
  simpa using this
section
variable {X:Cx}
theorem FpOk.of_upd (f:FpOk X pins H b) (h:b≠D):FpOk X pins (upd H D o) b:=#[by rw[aD h];exact f.1,f.2]
theorem HOk.track (x:HOk P w H h) (d:H a=none) (new:ObjOk P w (upd H a o) h a o):HOk P w (upd H a o) h:=λb u e=>by
 by_cases f:b=a
 .subst f;rw[a8] at e;cases e;exact new
 .rw[aD f] at e
  exact (x b u e).stay (λc v _ q=>q) (λc q=>by rw[aD (aQ q d)];exact q) λc xs q=>by rw[aD (aQ q d)];exact q
def PTs (σ:Cx) (ifs:List Expr) (t:TT):Prop :=
 ∀ (pins:List (Addr×Obj)) (s:Shared) (Y:St) (H:Hp) (Q:Bool->Hp->Prop),Inv σ pins Y H s->t Y H Q ->
  wpAny (model σ.prog σ.w) σ.A (forIn ifs true λc r=>if r=true then do let ok <- isTrue c σ.env (eval c σ.env);pure (ForInStep.yield ok) else pure (ForInStep.yield r)) (TP σ pins Y Q) σ.xe s
def tYes:TT:=λ_ H Q=>Q true H
theorem AI:PTs σ [] tYes:=λpins s Y H Q I h=>wpAny_tests_nil #[H,I,h]
theorem AH (h:PT σ c t):PTs σ [c] t:=λpins s Y H Q I q=>wpAny_tests_one (h pins s Y H Q I q)
def qP (J:It) (g:TG) (tc:TT) (te:TE) (ρ:List V->Hp->Prop) (U0:St) (H1:Hp):Prop :=
 ∃ W:Nat->Nat->List V->St->Hp->Prop,(∃ m,W 0 m [] U0 H1)/\∀ i m ys U H,W i m ys U H->ys.length < sizeLine /\
  ((J.stop i H/\ρ ys H)\/(J.go i H/\∃ N:List V->St->Hp->Prop,(∀ a U' H',N a U' H'->∃ d,d < m/\W (i+1) d a U' H')/\∀ x H',J.yld i H x H'->g x U H' λU2 H2=>tc U2 H2 λb c =>
   if b=true then te U2 c λy e=>N (ys++[y]) U2 e else N ys U2 c))
def B4 (a:TI) (g:TG) (tc:TT) (te:TE) (ix:List (Option Nat)):TE:=λY H Q =>
 a Y H λJ H1=>qP J g tc te (λys H2=>∀ p,H2 p=none->Q (.ref p) (upd H2 p (.lst ys))) (cap ix Y) H1
theorem sf (d:CompOk scope X.N X.env.scope NY ix) (I:Inv X pins Y H s) (f:∀ b∈fp,FpOk X pins H b) (g:s.heap.objs.size<=C) (t:∀ b∈fp,b < s.heap.objs.size) (P:s4.os=s.os) (S:s4.gens=s.gens) (keep:∀ b o,s.heap.get? b=some o->s4.heap.get? b=some o) (ns:s4.heap.Ns C λ_=>none) (A:∀ x c,(lh X scope C).lookup x=some c->∃ v,s4.heap.IsCell c v):Inv (aN X NY scope s H C fp) [] (cap ix Y) H s4:=by
 have J:FpOk X pins H C:=I.fpOk g (I.hok.fresh g)
 have sb:∀ x c,(lh X scope C).lookup x=some c->C+1<=c\/X.env.cells.lookup x=some c:=λx c e=>(mo e).imp_right f9
 have lt:∀ x c,X.env.cells.lookup x=some c->c < s.heap.objs.size:=λx c e=>let #[_,q]:=I.cell x c e;q.lt
 have n:∀ x,(x,NameKind.free)∈scope.names->∃ c,X.env.cells.lookup x=some c:=λx m=>by
  rcases d.out _ m rfl with q | q
  .exact I.ok.has x (.inl q)
  .exact I.ok.has x (.inr q)
 refine ⟨⟨I.ok.mod,d.kind,I.ok.glob,I.ok.blt,g,sh (λx y c e1 w=>I.ok.inj x y c (f9 e1) (f9 w)) (λx c e=>Nat.lt_succ_of_le (FZ (Nat.le_of_lt (lt x c (f9 e))) g)),λx E=>?_,λx c e h=>FZ g (Nat.le_of_succ_le (za (FA _) (.inl (PySem.mem_of_lookup (eq_of_beq e))) h)),λe=>I.ok.hd e,I.ok.frames,.inl rfl,λb j=>⟨FD (FJ (t b j) g),λx c e=>(sb x c e).elim (λz=>Nat.ne_of_gt (FJ (t b j) (FZ g (Nat.le_of_succ_le z)))) λz=>(f b j).2.2.2.2.1 x c z⟩,
  I.bs,FZ I.ok.bsz I.sz,λb o e j=>?_,λb j hz=>?_,I.stack,I.stkFree⟩,P,by rw[S];exact I.bare,Un.kept keep,⟨_,ns,λi x v e1 w T=>?_⟩,A,J.1,λx c e=>(sb x c e).elim (λz=>I.hok.fresh (FZ g (Nat.le_of_succ_le z))) λz=>I.freeC x c z,λp F=>absurd (show p∈([]:List (Addr×Obj)) from F) (by simp),I.hok.kept keep,?_⟩
 .refine Option.isSome_iff_exists.mp (PySem.W.cellsFrom_some _ _ _ ?_)
  rcases lI E with m | m
  .obtain ⟨c,e⟩:=n x m
   exact .inr (by rw[um e m];rfl)
  .exact .inl (d.cel _ m rfl)
 .rcases (f b j).2.2.2.1 with z | z
  .exact I.ok.noex b o e z
  .exact absurd (FJ (Fp e) (FZ I.ok.bsz z)) (Nat.lt_irrefl _)
 .rcases Fm.mp (I.stkSub b hz) with e | e
  .exact (f b j).2.1 e
  .exact (f b j).2.2.1 e
 .-- a captured name
  have q:∃ k,ix[i]?=some (some k)/\Y[k]?=some (some v):=by
   unfold cap at w
   grind
  obtain ⟨k,M,ev⟩:=q
  obtain ⟨G,m⟩:=d.cap i x k e1 M
  obtain ⟨τ,L,Q⟩:=I.loc
  have D:Vis X.env.scope x:=by
   rcases d.out _ m rfl with q | q
   .exact .inr (.inl q)
   .exact .inr (.inr q)
  obtain ⟨u,r,l⟩:=Q k x v G ev D
  refine #[u,r,.inr ?_]
  rcases l with ⟨B,_⟩ | ⟨_,c,R,O⟩
  .exfalso
   rcases d.out _ m rfl with q | q
   .have:=B.symm.trans q;cases this
   .have:=B.symm.trans q;cases this
  .obtain ⟨o,K,hd⟩:=O
   exact #[jt (d.fre _ m rfl),c,(sg λz=>by have h1:scope.names.lookup x=_:=d.cel _ z rfl;rw[show scope.names.lookup x=_ from d.fre _ m rfl] at h1;cases h1).trans (um R m),o,keep c o K,hd]
 .show (cap ix Y).length=NY.length
  unfold cap
  rw[Ft]
  exact d.len
theorem ip (I:Nat->Shared->Prop) (turn:∀ n s,I n s->wpAny (model prog w) A (pyNext it) (λr e=>match r with
   | none=>R (.ok .next) e
   | some v=>wpAny (model prog w) A (letOwnedTupleGo target it v) (λ_ a=>wpAny (model prog w) A (assign target env v) (λ_ k =>
     wpAny (model prog w) A (forIn ifs true λc r=>if r=true then do let ok <- isTrue c env (eval c env);pure (ForInStep.yield ok) else pure (ForInStep.yield r)) (λok b =>
      if ok=true then wpAny (model prog w) A (eval elt env) (λx j =>
       wpAny (model prog w) A (call (.builtin "list.append") [acc,x]) (λ_ f=>∃ m,m < n/\I m f) (λ_ _=>False) j) (λ_ _=>False) b
      else ∃ m,m < n/\I m b) (λ_ _=>False) k) (λ_ _=>False) a) (λ_ _=>False) e) (λ_ _=>False) s) (n:Nat) (h:I n s) :
  codeAny (model prog w) A (.compLoop (.ListComp elt [#[target,iter,ifs,0]] scope pos) 0 it acc env) R s:=by
 refine codeAny_loop rfl I (λn s o=>?_) n h
 show wpAny _ A ((compTurn (.ListComp elt [#[target,iter,ifs,0]] scope pos) 0 it acc env).onRaise (λx=>do noteFrame x env;theTreesLotGoes x)) _ _ s
 refine wpAny_noted ?_
 rw[compTurn_list]
 refine Fb (wpAny_standAt (Fb (wpAny_mono (turn n s o) (λr e g=>?_) λ_ _ h'=>h'.elim)))
 cases r with
 | none=>exact Fc g
 | some v =>
  refine Fb (wpAny_mono g (λ_ a d=>?_) λ_ _ h'=>h'.elim)
  refine Fb (wpAny_mono d (λ_ k p=>Fb (wpAny_mono p (λok b i=>?_) λ_ _ h'=>h'.elim)) λ_ _ h'=>h'.elim)
  cases ok with
  | false=>exact Fc #[rfl,i]
  | true =>
   exact Fb (Fb (wpAny_mono i (λx j q=>Fb (wpAny_mono q (λ_ f l=>Fc (Fc #[rfl,l])) λ_ _ h'=>h'.elim)) λ_ _ h'=>h'.elim))
theorem qz {RR:Value->Addr->Result->Shared->Prop} (hc:X.calm=true) (ck:CompOk scope X.N X.env.scope NY ix) (hg:∀ s H C fp,PG (aN X NY scope s H C fp) tg g) (ht:∀ s H C fp,PTs (aN X NY scope s H C fp) ifs tc) (he:∀ s H C fp,PE (aN X NY scope s H C fp) elt te) (I:Inv X pins Y H s) (T:Turn X.prog X.w X.K tg J fp it tn) (st:tn 0 s.heap) (f:∀ b∈fp,FpOk X pins H b) (hW:qP J g tc te ρ (cap ix Y) H) (b3:∀ D C s' ys H' m,s'.heap.Ns C m->H' D=none->FpOk X pins (upd H' D (.lst ys)) C->Inv X pins Y (upd H' D (.lst ys)) s'->ρ ys H'->RR (.ref D) C (.ok .next) s') :
  wpAny (model X.prog X.w) X.A (newList []) (λacc s₃=>wpAny (model X.prog X.w) X.A (newFunctionEnv scope X.env.globals (clo X.env.cells scope.names) [] X.env.qual none .none (some X.env)) (λt s₄ =>
   codeAny (model X.prog X.w) X.A (.compStart (.ListComp elt [#[tg,iter,ifs,0]] scope pos) 0 (.ref it) acc { t with scope:=relabel scope X.env }) (RR acc t.locals) s₄) E s₃) E s:=by
 obtain ⟨W,⟨m0,w0⟩,turn⟩:=hW
 refine wpAny_newObj_type (mB ?_)
 dsimp only
 generalize F:s.heap.push { cls:=.type "list",dict:=none,data:=.seq ([]:List Value).toArray }=H2
 have a0:H2.objs.size=s.heap.objs.size+1:=by rw[<- F,FX]
 have Q:s.heap.objs.size≠H2.objs.size:=by rw[a0];exact FD (Nat.lt_succ_self _)
 have j:s.heap.objs.size<=H2.objs.size:=by rw[a0];exact Nat.le_succ _
 generalize P:s.heap.objs.size=D at *
 generalize hC:H2.objs.size=C at *
 have below:∀ b o,s.heap.get? b=some o->b < D:=λb o e=>by rw[<- P];exact Fp e
 have kp:∀ b o,H2.get? b=some o->(pushCells (H2.push { cls:=.type "dict",data:=.dict (List.toArray []) }) scope.names).get? b=some o:=λb o e=>pushCells_keeps _ _ b o (Fg _ e)
 have B:∀ b o,s.heap.get? b=some o->H2.get? b=some o:=λb o e=>F ▸ Fg _ e
 have V:∀ x c,(lh X scope C).lookup x=some c->∃ v,(pushCells (H2.push { cls:=.type "dict",data:=.dict (List.toArray []) }) scope.names).IsCell c v:=by
  have:=oY (names:=scope.names) (h:=H2.push { cls:=.type "dict",data:=.dict (List.toArray []) }) (acc:=clo X.env.cells scope.names) λx c e=>let #[v,q]:=I.cell x c (f9 e);#[v,q.keeps λb o e=>Fg _ (B b o e)]
  rwa [FX,hC] at this
 have hns₁:(pushCells (H2.push { cls:=.type "dict",data:=.dict (List.toArray []) }) scope.names).Ns C λ_=>none:=hC ▸ (Heap.Ns.new H2 (.type "dict")).keeps (pushCells_keeps _ _)
 generalize pushCells (H2.push { cls:=.type "dict",data:=.dict (List.toArray []) }) scope.names=h₁ at kp V hns₁ ⊢
 have old:∀ b o,s.heap.get? b=some o->h₁.get? b=some o:=λb o e=>kp b o (B b o e)
 have L:H2.get? D=some { cls:=.type "list",dict:=none,data:=.seq ([]:List Value).toArray }:=by
  rw[<- F,<- P];exact Fs _ rfl
 have σ:h₁.PlainList D (List.toArray []):=#[_,kp _ _ L]
 have az:∀ b∈fp,b < s.heap.objs.size:=λb a=>by
  obtain ⟨o,e,_⟩:=T.obj 0 _ st b a
  exact Fp e
 have k:∀ b∈fp,b < D:=λb a=>by rw[<- P];exact az b a
 have IY:Inv (aN X NY scope s H C fp) [] (cap ix Y) H { s with heap:=h₁ } :=
  sf ck I f (by rw[P];exact j) az rfl rfl old hns₁ V
 have cp:H D=none:=I.hok.fresh (by rw[P];exact FA _)
 have l:∀ b∈frs X.stack,b < D:=λb a=>by
  obtain ⟨_,o,ho,_⟩:=I.stack.mem a
  exact below b o ho
 have loop:∀ s₃:Shared,s₃={ s with heap:=h₁ } ->
   codeAny (model X.prog X.w) X.A (.compLoop (.ListComp elt [#[tg,iter,ifs,0]] scope pos) 0 (.ref it) (.ref D) (aN X NY scope s H C fp).env) (RR (.ref D) C) s₃:=by
  rintro s₃ rfl
  refine ip (λn s'=>∃ i ys U H' its,Inv (aN X NY scope s H C fp) [] U H' s'/\H' D=none/\s'.heap.PlainList D its/\Vals ys its.toList/\tn i s'.heap/\(∀ b∈fp,H' b=none)/\W i n ys U H') ?_ m0
   #[0,[],cap ix Y,H,(List.toArray []),IY,cp,σ,.nil,T.keep _ _ _ st λb _ o e=>old b o e,λb a=>(f b a).1,w0]
  rintro n s3 ⟨i,ys,U,S,its,I3,d3,l3,v3,bb,ar,w3⟩
  obtain ⟨nl,e3⟩:=id l3
  have be:Inv (aN X NY scope s H C fp) [(D,{ cls:=.type "list",data:=.seq its nl })] U S s3:=I3.pins_of λp hp=>by
   have e:p=(D,{ cls:=.type "list",data:=.seq its nl }):=by simpa using hp
   subst e
   exact #[e3,d3,Q,λz=>Nat.lt_irrefl _ (l D z),λv z=>by cases z]
  have O:∀ {H':Hp} {pl:List (Addr×Obj)},(∀ b∈fp,H' b=none)->(∀ p∈pl,p.1=D)->∀ b∈fp,FpOk (aN X NY scope s H C fp) pl H' b:=λhn hp b a =>
   ⟨hn b a,FD (FJ (k b a) j),λz=>by
    rcases Fm.mp (I.stkSub b z) with e | e
    .exact (f b a).2.1 e
    .exact (f b a).2.2.1 e,.inl a,λx c e=>(mo e).elim (λz=>Nat.ne_of_gt (FJ (k b a) (FZ j (Nat.le_of_succ_le z)))) λz=>(f b a).2.2.2.2.1 x c (f9 z),λp b0=>by
    have e:p.1=D:=hp p ((Fq.mp b0).elim (λz=>absurd (show p∈([]:List (Addr×Obj)) from z) (by simp)) λz=>z)
    rw[e]
    exact Nat.ne_of_gt (k b a)⟩
  obtain ⟨zl,step⟩:=turn i n ys U S w3
  have single:∀ p∈[(D,({ cls:=.type "list",data:=.seq its nl }:Obj))],p.1=D:=λp hp=>by
   have e:p=(D,{ cls:=.type "list",data:=.seq its nl }):=by simpa using hp
   rw[e]
  rcases step with ⟨stop,qn⟩ | ⟨go,N,hN,step⟩
  .refine wpAny_mono (T.done (aN X NY scope s H C fp) rfl rfl rfl hc i _ s3 U S (λ_ _=>False) be (O ar single) bb stop) (λr s4 #[hr,G]=>?_) λ_ _ e=>e
   subst hr
   obtain ⟨mC,cm,_⟩:=id G.loc
   obtain ⟨e4,d4,_⟩:=G.pin (D,{ cls:=.type "list",data:=.seq its nl }) (by simp[aN])
   have b4:∀ b o,s.heap.get? b=some o->b≠D:=λb o e=>FD (below b o e)
   have R:=G.base
   refine b3 D C s4 ys S mC cm d4 ?_ ?_ qn
   .exact (I.fpOk (by rw[P];exact j) (by exact G.free)).of_upd (Ne.symm Q)
   .refine I.call' (ch:=fp) G.os (H':=upd S D (.lst ys)) #[R.keep,R.slot,λb o e n hx=>?_,R.there,λb xs e=>?_,λb o u e=>?_,λb ps e=>?_] ?_ G.bare λb a=>?_
    .rw[aD (b4 b o e)];exact R.free b o e n hx
    .have q:=R.tups b xs e;rw[aD (aQ q d4)];exact q
    .have q:=R.frzs b o u e;rw[aD (aQ q d4)];exact q
    .obtain ⟨more,q⟩:=R.tbls b ps e;exact #[more,by rw[aD (aQ q d4)];exact q]
    .exact G.hok.track d4 #[Nat.le_of_lt zl,its.toList,nl,v3,by simpa using e4]
    .exact #[(f b a).2.2.2.1,(f b a).2.1,(f b a).2.2.2.2.1,(f b a).2.2.2.2.2]
  .refine wpAny_mono (T.item (aN X NY scope s H C fp) rfl rfl rfl hc i _ s3 U S (λ_ _=>False) be (O ar single) bb go) (λr s4 #[u,hr,h4]=>?_) λ_ _ e=>e
   subst hr
   refine wpAny_mono h4 (λ_ s5 #[x,H5,I5,r5,y5,M,cw]=>?_) λ_ _ e=>e
   have cu:=I5.pinned (O cw single) (T.obj _ _ M)
   refine wpAny_mono (hg s H C fp _ s5 U H5 x u _ cu r5 (step x H5 y5)) (λ_ s6 #[U6,H6,I6,q6]=>?_) λ_ _ e=>e
   refine wpAny_mono (ht s H C fp _ s6 U6 H6 _ I6 q6) (λb s7 #[H7,I7,q7]=>?_) λ_ _ e=>e
   have after:∀ {s':Shared} {H':Hp},Inv (aN X NY scope s H C fp) ([(D,{ cls:=.type "list",data:=.seq its nl })]++lM fp s5.heap) U6 H' s'->tn (i+1) s'.heap/\(∀ b∈fp,H' b=none)/\H' D=none/\s'.heap.PlainList D its:=λ{s' H'} I' =>
    ⟨T.keep _ _ _ M λb a o e=>(I'.pin (b,o) (Fj _ (Fj _ (fS a e)))).1,λb a=>by
     obtain ⟨o,e,d⟩:=T.obj _ _ M b a
     exact (I'.pin (b,o) (Fj _ (Fj _ (fS a e)))).2.1,(I'.pin (D,_) (Fj _ (Fi _ (FT.mpr rfl)))).2.1,
     nl,(I'.pin (D,_) (Fj _ (Fi _ (FT.mpr rfl)))).1⟩
   cases b with
   | false =>
    rw[if_neg FC]
    rw[if_neg FC] at q7
    obtain ⟨m',hm,w7⟩:=hN _ _ _ q7
    obtain ⟨a1,a2,a3,a4⟩:=after I7
    exact #[m',hm,i+1,ys,U6,H7,its,I7.pins_of (λ_ z=>absurd z (by simp)),a3,a4,v3,a1,a2,w7]
   | true =>
    rw[if_pos rfl]
    rw[if_pos rfl] at q7
    refine wpAny_mono (he s H C fp _ s7 U6 H7 _ I7 q7) (λy s8 #[yv,H8,I8,r8,n8]=>?_) λ_ _ e=>e
    obtain ⟨m',hm,w8⟩:=hN _ _ _ n8
    obtain ⟨a1,a2,a3,a4⟩:=after I8
    have c3:ys.length=its.size:=by simpa using v3.length
    have hsz:its.size<=sizeLine:=by lia
    refine wpAny_list_append_plain (hsz:=hsz) a4 λh9 l9 τ=>?_
    have I9:Inv (aN X NY scope s H C fp) [] U6 H8 { s8 with heap:=h9,toks:=s8.toks }:=(I8.pins_of (pins':=[]) λ_ z=>absurd z (by simp)).turned (it:=D) (λb o a e=>(τ.2 b a).trans e) a3 Q (.inr (by show s.heap.objs.size<=D;rw[P];exact FA _)) (λx c e z=>?_) λp z=>absurd (show p∈([]:List (Addr×Obj)) from z) (by simp)
    .refine #[m',hm,i+1,ys++[yv],U6,H8,its.push y,I9,a3,l9,?_,T.keep _ _ _ a1 λb a o e=>(τ.2 b (FD (k b a))).trans e,a2,w8]
     rw[Array.toList_push]
     exact v3.append (.cons r8 .nil)
    .rcases mo e with q | q
     .rw[z] at q;exact Nat.lt_irrefl _ (FJ (Nat.lt_of_le_of_lt j (Nat.lt_succ_self _)) q)
     .obtain ⟨v,o,ho,_⟩:=I.cell x c (f9 q)
      exact Nat.lt_irrefl _ (z ▸ below c o ho)
 exact codeAny_compStart_list (loop _ rfl) (T.self X.A 0 _ _ _ (T.keep _ _ _ st λb _ o e=>old b o e) (loop _ rfl))
theorem AW (NY:List Str) (ix:List (Option Nat)) (p:X.calm=true) (hi:PI X tg iter wi) (E:∀ s H C fp,PG (aN X NY scope s H C fp) tg g) (y:∀ s H C fp,PTs (aN X NY scope s H C fp) ifs tc) (he:∀ s H C fp,PE (aN X NY scope s H C fp) elt te) (a:il scope X.N X.env.scope NY ix=true) (u:∀ x,foldedSetIterable iter X.env x=pure x:=by intro _;rfl):PE X (.ListComp elt [#[tg,iter,ifs,0]] scope pos) (B4 wi g tc te ix):=by
 intro pins s Y H Q I h
 have a:=CompOk.of a
 rw[eval_ListComp]
 refine wpAny_comprehension_free (use:=none) rfl u (iq (scope:=scope) (env:=X.env) λx m e=>?_) a.kind a.loc (thn (hi pins s Y H _ I h) λv s1 h1=>thn h1 λk s2 h2=>?_)
 .rcases a.out x m e with q | q
  .exact I.ok.has x.1 (.inl q)
  .exact I.ok.has x.1 (.inr q)
 .obtain ⟨it,fp,F,J,H2,e,r,T,c,f2,t⟩:=h2
  subst e
  refine qz (RR:=λacc C=>compPost (model X.prog X.w) X.A X.xe none (EP X pins Y Q) acc C) p a E y he r T c f2 t ?_
  intro D C s' ys H' m i f l B d
  obtain ⟨f0,f1,f2,n,f4,j⟩:=l
  exact #[m,i,λh' sb=>#[.ref D,_,B.turned (t':=s'.toks) (λb o z e=>(sb.2 b z).trans e) f0 f1 n f4 j,rfl,d D f]]
def B7 (i:Nat) (a:TI) (g:TG) (tc:TT) (te:TE) (ix:List (Option Nat)):TS:=λD Y H =>
 a Y H λJ H1=>qP J g tc te (λys H2=>∀ p,H2 p=none->D.nx (Y.set i (some (.ref p))) (upd H2 p (.lst ys))) (cap ix Y) H1
theorem rh {i:Nat} (W:X.N.Nodup) (S:X.N[i]?=some y) (E:Loc X.env.scope y) (NY:List Str) (ix:List (Option Nat)) (O:X.calm=true) (hi:PI X tg iter wi) (hg:∀ s H C fp,PG (aN X NY scope s H C fp) tg g) (V:∀ s H C fp,PTs (aN X NY scope s H C fp) ifs tc) (he:∀ s H C fp,PE (aN X NY scope s H C fp) elt te) (c:il scope X.N X.env.scope NY ix=true) (n:swapsWith (.ListComp elt [#[tg,iter,ifs,0]] scope pos) (some (.Name y py)) spos.line X.env=pure true:=by rfl) (hf:X.fn y=true\/X.env.scope.names.lookup y=some .local:=by first | exact .inl rfl | exact .inr rfl | assumption) (τ:∀ x,foldedSetIterable iter X.env x=pure x:=by intro _;rfl):PS X (.Assign [.Name y py] (.ListComp elt [#[tg,iter,ifs,0]] scope pos) spos) (B7 i wi g tc te ix):=by
 intro pins s Y H D I h
 have c:=CompOk.of c
 rw[exec_Assign_Name_used _ _ _ _ n]
 refine Fb (wpAny_standAt (Fb ?_))
 show wpAny _ X.A (do let _ <- comprehension (.ListComp elt [#[tg,iter,ifs,0]] scope pos) scope X.env _ (newList []) false (eval iter X.env) (some (assign (.Name y py) X.env))) _ _ s
 refine Fb (wpAny_mono (wpAny_comprehension_free (use:=some (assign (.Name y py) X.env)) (Q:=λ_ s'=>SP X pins D .next s') rfl τ (iq (scope:=scope) (env:=X.env) λx m e=>?_) c.kind c.loc
  (thn (hi pins s Y H _ I h) λv s1 h1=>thn h1 λF s2 h2=>?_)) (λ_ s' L=>Fc (Fc L)) λ_ _ e=>e)
 .rcases c.out x m e with q | q
  .exact I.ok.has x.1 (.inl q)
  .exact I.ok.has x.1 (.inr q)
 .obtain ⟨it,fp,tn,J,H2,e,P,T,d,f2,R⟩:=h2
  subst e
  refine qz (RR:=λacc C=>compPost (model X.prog X.w) X.A X.xe (some (assign (.Name y py) X.env)) (λ_ s'=>SP X pins D .next s') acc C) O c hg V he P T d f2 R ?_
  intro k C s' ys H' m u t G ρ r
  obtain ⟨f0,f1,f2,M,f4,B⟩:=G
  show wpAny _ X.A (assign (.Name y py) X.env (.ref k)) _ _ _
  refine wpAny_assign_Name (m9 ρ W S E (v:=.ref k) rfl (λp f #[a,sb,K]=>?_) hf)
  have l:C≠a:=by
   rcases K with e | e
   .rw[e];exact f1
   .exact λz=>f4 y a e z.symm
  exact #[m,u.sameBut sb l,λh' j=>#[_,_,f.turned (t':=p.toks) (λb o σ e=>(j.2 b σ).trans e) f0 f1 M f4 B,r k t]]
end
section
variable {X:Cx}
inductive KindOf (K:FG) (H:Hp):V->String->Prop
 | int (i:Int):KindOf K H (.int i) "int"
 | bool (b:Bool):KindOf K H (.bl b) "bool"
 | str (x:Str):KindOf K H (.str x) "str"
 | non:KindOf K H .non "NoneType"
 | tuple {a:Addr} {xs:List V}:SqT K H a xs->KindOf K H (.ref a) "tuple"
 | list {a:Addr} {xs:List V}:SqL K H a xs->KindOf K H (.ref a) "list"
 | dK {a:Addr} {kvs}:H a=some (.dK kvs)->KindOf K H (.ref a) "dict"
 | dT {a:Addr} {kvs n}:H a=some (.dT kvs n)->KindOf K H (.ref a) "dict"
def oO (k t:String):Bool:=k == t || (k == "bool" && t == "int")
theorem Inv.clsK (I:Inv X pins Y H s) (h:KindOf X.K H (.ref a) k):∃ o,s.heap.get? a=some o/\o.cls=.type k:=by
 cases h with
 | tuple h=>obtain ⟨its,_,⟨o,e,c,_⟩,_⟩:=I.tuple h;exact #[o,e,c]
 | list h=>obtain ⟨its,_,⟨o,n,e,c,_⟩,_⟩:=I.list h;exact #[o,e,c]
 | dK h=>obtain ⟨_,_,_,_,o,_,_,e,c,_⟩:=I.hok a _ h;exact #[o,e,c.1]
 | dT h=>obtain ⟨_,_,_,_,o,_,_,e,c,_⟩:=I.hok a _ h;exact #[o,e,c.1]
theorem oZ:CallR X (.builtin "isinstance") (λxs H Q=>∃ x k,xs=[x,.ty "int"]/\KindOf X.K H x k/\Q (.bl (oO k "int")) H):=by
 intro pins s Y H xs us Q I r h
 obtain ⟨x,k,rfl,f,q⟩:=h
 obtain ⟨u,v,rfl,a,d⟩:=lu r
 cases (show v=Value.type "int" from d)
 cases f with
 | int i=>obtain ⟨tk,rfl⟩:=a;exact IsiPair.int_int #[.bl true,H,I,rfl,q]
 | bool b=>cases (show u=Value.bool b from a);exact IsiPair.bool_int #[.bl true,H,I,rfl,q]
 | str z=>obtain ⟨tk,rfl⟩:=a;exact IsiPair.str_int #[.bl false,H,I.tok _,rfl,q]
 | non=>cases (show u=Value.none from a);exact IsiPair.NoneType_int #[.bl false,H,I.tok _,rfl,q]
 | tuple hh=>cases a;obtain ⟨o,e,c⟩:=I.clsK (.tuple hh);exact IsiPair.tuple_int e c #[.bl false,H,I.tok _,rfl,q]
 | list hh=>cases a;obtain ⟨o,e,c⟩:=I.clsK (.list hh);exact IsiPair.list_int e c #[.bl false,H,I.tok _,rfl,q]
 | dK hh=>cases a;obtain ⟨o,e,c⟩:=I.clsK (.dK hh);exact IsiPair.dict_int e c #[.bl false,H,I.tok _,rfl,q]
 | dT hh=>cases a;obtain ⟨o,e,c⟩:=I.clsK (.dT hh);exact IsiPair.dict_int e c #[.bl false,H,I.tok _,rfl,q]
theorem mR:CallR X (.builtin "isinstance") (λxs H Q=>∃ x k,xs=[x,.ty "bool"]/\KindOf X.K H x k/\Q (.bl (oO k "bool")) H):=by
 intro pins s Y H xs us Q I r h
 obtain ⟨x,k,rfl,f,q⟩:=h
 obtain ⟨u,v,rfl,a,d⟩:=lu r
 cases (show v=Value.type "bool" from d)
 cases f with
 | int i=>obtain ⟨tk,rfl⟩:=a;exact IsiPair.int_bool #[.bl false,H,I.tok _,rfl,q]
 | bool b=>cases (show u=Value.bool b from a);exact IsiPair.bool_bool #[.bl true,H,I,rfl,q]
 | str z=>obtain ⟨tk,rfl⟩:=a;exact IsiPair.str_bool #[.bl false,H,I.tok _,rfl,q]
 | non=>cases (show u=Value.none from a);exact IsiPair.NoneType_bool #[.bl false,H,I.tok _,rfl,q]
 | tuple hh=>cases a;obtain ⟨o,e,c⟩:=I.clsK (.tuple hh);exact IsiPair.tuple_bool e c #[.bl false,H,I.tok _,rfl,q]
 | list hh=>cases a;obtain ⟨o,e,c⟩:=I.clsK (.list hh);exact IsiPair.list_bool e c #[.bl false,H,I.tok _,rfl,q]
 | dK hh=>cases a;obtain ⟨o,e,c⟩:=I.clsK (.dK hh);exact IsiPair.dict_bool e c #[.bl false,H,I.tok _,rfl,q]
 | dT hh=>cases a;obtain ⟨o,e,c⟩:=I.clsK (.dT hh);exact IsiPair.dict_bool e c #[.bl false,H,I.tok _,rfl,q]
theorem mq:CallR X (.builtin "isinstance") (λxs H Q=>∃ x k,xs=[x,.ty "tuple"]/\KindOf X.K H x k/\Q (.bl (oO k "tuple")) H):=by
 intro pins s Y H xs us Q I r h
 obtain ⟨x,k,rfl,f,q⟩:=h
 obtain ⟨u,v,rfl,a,d⟩:=lu r
 cases (show v=Value.type "tuple" from d)
 cases f with
 | int i=>obtain ⟨tk,rfl⟩:=a;exact IsiPair.int_tuple #[.bl false,H,I.tok _,rfl,q]
 | bool b=>cases (show u=Value.bool b from a);exact IsiPair.bool_tuple #[.bl false,H,I.tok _,rfl,q]
 | str z=>obtain ⟨tk,rfl⟩:=a;exact IsiPair.str_tuple #[.bl false,H,I.tok _,rfl,q]
 | non=>cases (show u=Value.none from a);exact IsiPair.NoneType_tuple #[.bl false,H,I.tok _,rfl,q]
 | tuple hh=>cases a;obtain ⟨o,e,c⟩:=I.clsK (.tuple hh);exact IsiPair.tuple_tuple e c #[.bl true,H,I,rfl,q]
 | list hh=>cases a;obtain ⟨o,e,c⟩:=I.clsK (.list hh);exact IsiPair.list_tuple e c #[.bl false,H,I.tok _,rfl,q]
 | dK hh=>cases a;obtain ⟨o,e,c⟩:=I.clsK (.dK hh);exact IsiPair.dict_tuple e c #[.bl false,H,I.tok _,rfl,q]
 | dT hh=>cases a;obtain ⟨o,e,c⟩:=I.clsK (.dT hh);exact IsiPair.dict_tuple e c #[.bl false,H,I.tok _,rfl,q]
theorem mQ:CallR X (.builtin "isinstance") (λxs H Q=>∃ x k,xs=[x,.ty "dict"]/\KindOf X.K H x k/\Q (.bl (oO k "dict")) H):=by
 intro pins s Y H xs us Q I r h
 obtain ⟨x,k,rfl,f,q⟩:=h
 obtain ⟨u,v,rfl,a,d⟩:=lu r
 cases (show v=Value.type "dict" from d)
 cases f with
 | int i=>obtain ⟨tk,rfl⟩:=a;exact IsiPair.int_dict #[.bl false,H,I.tok _,rfl,q]
 | bool b=>cases (show u=Value.bool b from a);exact IsiPair.bool_dict #[.bl false,H,I.tok _,rfl,q]
 | str z=>obtain ⟨tk,rfl⟩:=a;exact IsiPair.str_dict #[.bl false,H,I.tok _,rfl,q]
 | non=>cases (show u=Value.none from a);exact IsiPair.NoneType_dict #[.bl false,H,I.tok _,rfl,q]
 | tuple hh=>cases a;obtain ⟨o,e,c⟩:=I.clsK (.tuple hh);exact IsiPair.tuple_dict e c #[.bl false,H,I.tok _,rfl,q]
 | list hh=>cases a;obtain ⟨o,e,c⟩:=I.clsK (.list hh);exact IsiPair.list_dict e c #[.bl false,H,I.tok _,rfl,q]
 | dK hh=>cases a;obtain ⟨o,e,c⟩:=I.clsK (.dK hh);exact IsiPair.dict_dict e c #[.bl true,H,I,rfl,q]
 | dT hh=>cases a;obtain ⟨o,e,c⟩:=I.clsK (.dT hh);exact IsiPair.dict_dict e c #[.bl true,H,I,rfl,q]
theorem we {bs:List Bool}:((List.range bs.length).all λi=>bs.getD i false)=bs.all id:=by
 rw[Bool.eq_iff_iff]
 simp only[List.all_eq_true,List.mem_range,id]
 constructor
 .intro h b a
  obtain ⟨i,hi,rfl⟩:=List.mem_iff_getElem.mp a
  simpa[List.getD,hi] using h i hi
 .intro h i hi
  simpa[List.getD,hi] using h _ (List.getElem_mem hi)
theorem ze (B:X.calm=true):CallR X (.builtin "all") (λxs H Q=>∃ (a:Addr) (bs:List Bool),xs=[.ref a]/\SqL X.K H a (bs.map V.bl)/\Q (.bl (bs.all id)) H):=by
 intro pins s Y H xs us Q I r h
 obtain ⟨a,bs,rfl,w,q⟩:=h
 obtain ⟨u,rfl,f⟩:=eE r
 cases f
 obtain ⟨its,k,p,hz⟩:=I.list w
 have l:=k.length
 rw[Ft] at l
 have g:a < s.heap.objs.size:=by obtain ⟨o,_,e,_⟩:=id p;exact Fp e
 refine call_all_walk (wpAny_pyIter_list p.isList ?_)
 refine #[s.heap.objs.size,_,_,_,_,_,λi=>bs.getD i false,rfl,Walks.list (show X.A.in1.handled=none from I.ok.hd B) s.heap.objs.size a (FD g) its.toArray,#[#[_,Fs _ rfl,rfl,rfl],p.isList.at λo e=>Fg _ e],?_,?_]
 .intro i v s' t C m j
  have c:its[i]?=some v:=by simpa using m
  have hi:i < bs.length:=by
   have:=(Fu.mp c).1
   lia
  obtain ⟨u,hu,f⟩:=k.get (i:=i) (x:=V.bl (bs[i])) (by simp[hi])
  rw[c] at hu
  cases hu
  cases (show v=Value.bool bs[i] from f)
  refine FY ?_
  have e:bs.getD i false=bs[i]:=by simp[List.getD,hi]
  have d:t (bs.getD i false) s':=j
  rw[e] at d
  exact d
 .intro h' tk y
  have n:Inv X pins Y H { s with heap:=h',toks:=tk }:=I.kept λb o e=>y b o (by
   intro hm
   have z:b=s.heap.objs.size:=by simpa using hm
   exact absurd (z ▸ Fp e) (Nat.lt_irrefl _)) (Fg _ e)
  refine #[.bl (bs.all id),H,n,?_,q]
  show Value.bool _=Value.bool _
  rw[FE,<- l,we]
def Ite (K:FG) (a:Addr):It :=
 #[λi H=>∃ xs x,SqL K H a xs/\xs[i]?=some x,λi H x H'=>∃ T y,x=.ref T/\H T=none/\H'=upd H T (.tup [.int i,y])/\∀ xs,SqL K H a xs->xs[i]?=some y,λi H=>∃ xs,SqL K H a xs/\xs.length<=i]
theorem Inv.two {tk:Nat} (I:Inv X pins Y H s) (f:FpOk X pins H e) (g:FpOk X pins H it) (k:∀ b o,b≠e->b≠it->s.heap.get? b=some o->h'.get? b=some o):Inv X pins Y H { s with heap:=h',toks:=tk }:=by
 have j:∀ b u,H b=some u->b≠e/\b≠it:=λb u q=>#[aQ q f.1,aQ q g.1]
 have a:∀ b,b ∉ [e,it]->b≠e/\b≠it:=λb h=>#[λz=>h (by simp[z]),λz=>h (by simp[z])]
 refine I.step (g':=s.gens) (d':=s.drawn) (ch:=[e,it]) (λb h=>?_) (λb o _ _ d q _=>k b o (a b d).1 (a b d).2 q) (λb o _ _ d q _=>#[o.slots,k b o (a b d).1 (a b d).2 q]) (λ_ _ _ _ n=>n)
  (λb o d q=>#[o,k b o (a b d).1 (a b d).2 q]) (λ_ _ q=>q) (λ_ _ _ q=>q) (λb ps q=>#[(List.toArray []),by rw[q];simp]) (λm hm=>?_) (λb u q=>?_) I.bare
 .have i:b=e\/b=it:=by simpa using h
  rcases i with rfl | rfl
  .exact #[f.2.2.2.1,f.2.1,f.2.2.2.2.1,f.2.2.2.2.2]
  .exact #[g.2.2.2.1,g.2.1,g.2.2.2.2.1,g.2.2.2.2.2]
 .obtain ⟨o,es,ep,l,r⟩:=hm
  exact #[o,es,ep,k _ o (Ne.symm f.2.1) (Ne.symm g.2.1) l,r]
 .refine (I.hok b u q).stay (λc v d z=>?_) (λ_ z=>z) λ_ _ z=>z
  grind
theorem Inv.trackT (I:Inv X pins Y H s) (J:Inv X pins Y H s0) (f:s0.heap.objs.size<=T) (g:IsTupD s.heap T its.toArray) (y:Vals xs its) (hz:xs.length<=sizeLine):Inv X pins Y (upd H T (.tup xs)) s:=by
 have l:H T=none:=J.hok.fresh f
 obtain ⟨e1,r,t,a,G,w,z,B,F,i,h⟩:=id I
 have d:∀ b,H b=none->∀ o,s0.heap.get? b=some o->upd H T (.tup xs) b=none:=λb E o e=>by
  rw[aD (FD (FJ (Fp e) f))];exact E
 have k:∀ b u,H b=some u->upd H T (.tup xs) b=some u:=λb u e=>by rw[aD (aQ e l)];exact e
 have j:X.s₀.heap.objs.size<=T:=FZ J.sz f
 refine #[e1,r,t,#[a.keep,a.slot,λb o q n g=>?_,a.there,λb ys q=>k _ _ (a.tups b ys q),λb o u q=>k _ _ (a.frzs b o u q),λb ps q=>?_],G,w,?_,λx c q=>?_,λp m=>?_,?_,h]
 .rw[aD (FD (FJ (Fp q) j))];exact a.free b o q n g
 .obtain ⟨more,C⟩:=a.tbls b ps q;exact #[more,k _ _ C]
 .rw[aD (FD (FJ J.lt f))];exact z
 .obtain ⟨v,o,A,_⟩:=J.cell x c q
  exact d c (B x c q) o A
 .obtain ⟨a1,a2,D⟩:=F p m
  exact #[a1,d p.1 a2 p.2 (J.pin p m).1,D]
 .exact i.track l #[hz,its,y,g]
theorem uJ {P:Program} {w:World} {K:FG} {elts:List Expr} {k:Nat} {pos:Pos} (a e it:Addr) (t:e≠it):Turn P w K (.Tuple elts k pos) (Ite K a) [e,it] e (λi h=>(∃ old,IsEnum h e it i old)/\h.IsListIter it a i) where
 mem:=by simp
 obj:=λi h st b g=>by
  obtain ⟨⟨old,he⟩,o,j,c,d⟩:=st
  have M:b=e\/b=it:=by simpa using g
  rcases M with rfl | rfl
  .exact #[_,he,λv z=>by cases z]
  .exact #[o,j,λv z=>by rw[d] at z;cases z]
 keep:=λi h h' st k=>#[let #[old,he]:=st.1;#[old,k e (by simp) _ he],st.2.at λo q=>k it (by simp) o q]
 item:=by
  intro X D hw N O i pins s Y H E I hf st F
  subst D hw N
  obtain ⟨xs,x,A,C⟩:=F
  obtain ⟨its,J,p,hz⟩:=I.list A
  obtain ⟨u,hu,Q⟩:=J.get C
  obtain ⟨⟨old,he⟩,hit⟩:=st
  refine wpAny_pyNext_enum_item he hit p.isList (x:=u) (by simpa using hu) t λh' L n hT hsz σ=>?_
  refine #[_,rfl,wpAny_letOwnedTupleGo_enum L λy m f=>?_]
  have l:e < s.heap.objs.size:=Fp he
  have V:Inv X pins Y H { s with heap:=y,toks:=s.toks+1 }:=I.two (hf e (by simp)) (hf it (by simp)) λb o hb1 hb2 q=>(f.2 b hb1).trans (σ b o hb1 hb2 q)
  have B:y.get? s.heap.objs.size=some { cls:=.type "tuple",data:=.seq (List.toArray [.int i s.toks,u]) }:=(f.2 _ (Nat.ne_of_gt l)).trans hT
  have ρ:=V.trackT (s0:=s) (T:=s.heap.objs.size) (xs:=[.int i,x]) (its:=[.int i s.toks,u]) I (FA _) #[_,B,rfl,_,rfl] (.cons #[_,rfl] (.cons Q .nil)) (by show 2<=sizeLine;decide)
  refine #[.ref s.heap.objs.size,_,ρ,rfl,#[_,x,rfl,I.hok.fresh (FA _),rfl,λys S=>by rw[I.list_inj S A];exact C],#[#[_,by simpa using m],?_],λb g=>?_]
  .obtain ⟨o,j,r⟩:=n
   exact #[o,(f.2 it (Ne.symm t)).trans j,r]
  .have G:b < s.heap.objs.size:=by
    have M:b=e\/b=it:=by simpa using g
    rcases M with rfl | rfl
    .exact l
    .obtain ⟨o,j,r⟩:=hit;exact Fp j
   rw[aD (FD G)]
   exact (hf b g).1
 done:=by
  intro X D hw N O i pins s Y H E I hf st F
  subst D hw N
  obtain ⟨xs,A,C⟩:=F
  obtain ⟨its,J,p,hz⟩:=I.list A
  obtain ⟨⟨old,he⟩,hit⟩:=st
  have hl:=J.length
  obtain ⟨f0,f1,f2,W,f4,τ⟩:=hf it (by simp)
  exact wpAny_pyNext_enum_end (I.ok.hd O) he hit p.isList (by simp;lia) λh' R=>#[rfl,I.turned (t':=s.toks) (λb o g q=>R b o g q) f0 f1 W f4 τ]
 self:=λ_ _ _ _ _ st h=>let #[_,he]:=st.1;wpAny_pyIter_enum he h
def Cp (K:FG) (ta:TA):TI:=λY H R=>ta Y H λb H1=>∃ a,b=[.ref a]/\(∃ xs,SqL K H1 a xs)/\R (Ite K a) H1
theorem AT {k:Nat} (r:Gl X "enumerate") (hm:X.mg "enumerate"=none) (j:PA X [a] ta) (o:starEach [a] X.env=[(false,eval a X.env)]:=by rfl):PI X (.Tuple elts k tp) (.Call (.Name "enumerate" p) [a] [] pos) (Cp X.K ta):=by
 intro pins s Y H R I h
 refine Call_ (fW I r hm boot_enumerate (PyProof.Rows.callWith_type1 (thn (j pos pins s Y H _ I h) λus s1 #[v,H1,d,i,f]=>?_) o rfl))
 obtain ⟨a,e,⟨xs,l⟩,q⟩:=f
 subst e
 obtain ⟨u,rfl,g⟩:=eE i
 cases g
 obtain ⟨its,t,pl,hz⟩:=d.list l
 refine call_enumerate_list pl.isList λh' he hit hsz m=>?_
 refine wpAny_pyIter_enum he ?_
 have n:Inv X pins Y H1 { s1 with heap:=h' }:=d.kept (t':=s1.toks) m
 refine #[s1.heap.objs.size+1,[s1.heap.objs.size+1,s1.heap.objs.size],_,_,H1,rfl,n,uJ a _ _ (Nat.succ_ne_self _),#[#[_,he],hit],λb w=>?_,q]
 have c:s1.heap.objs.size<=b:=by
  grind
 exact d.fpOk c (d.hok.fresh c)
end
structure Callee (P:Program) (w:World) (K:FG) (mg:Str->Option Value) (base:Heap) (x:Str) (k:Nat) (ps:List Str) (sp:Sp):Prop where
 ex:∃ (f:Addr) (fd:FuncData),FnOk P w K mg base CX0 k f fd ps sp/\mg x=some (.ref f)/\PySem.W.keepIn K (.ref f)=true/\Binds K fd ps []
structure DefAt (K:FG) (mg:Str->Option Value) (x:Str) (st:Stmt) (f:Addr) (fd:FuncData):Prop where
 fn:Fun K x x st f fd
 mg:mg x=some (.ref f)
def Def (K:FG) (mg:Str->Option Value) (x:Str) (st:Stmt):Prop:=∃ f fd,DefAt K mg x st f fd
theorem Def.callee {K:FG} {st:Stmt} {k:Nat} (D:Def K mg x st) (b:∀ (kV doc pm:Value) (an:Option Addr) (a ct:Value) (us:List Value),us.length=ps.length->bindArgs (PySem.W.fnOf x x (aV st) (aO st) (ae st) .none kV doc pm an a ct) #[us,[]]=pure (ps.zip us)) (h:∀ f fd,Fun K x x st f fd->FnOk P w K mg base CX0 k f fd ps sp):Callee P w K mg base x k ps sp :=
 let #[f,fd,d]:=D
 #[f,fd,h f fd d.fn,d.mg,d.fn.kp,d.fn.binds b]
section
variable {X:Cx} {x:Str} {p pos:Pos} {e:Expr} {es:List Expr} {t:TA} {k:Nat} {ps:List Str} {sp:Sp}
def tFn (sp:Sp) (t:TA):TE:=λY H Q=>t Y H λa H1=>sp a H1 Q E0
theorem pe_fn (c:Callee X.prog X.w X.K X.mg X.base x k ps sp) (i:Room k X.A) (j:PA X (e::es) t) (n:Gl X x:=by rfl) (d:(x == ("__debug__":Str))=false:=by decide)
  (he:starEach (e::es) X.env=(false,eval e X.env)::starEach es X.env:=by rfl) (b:(backTo pos (starEach es X.env)).any (·.1)=false:=by rfl):PE X (.Call (.Name x p) (e::es) [] pos) (tFn sp t):=by
 obtain ⟨f,fd,F,hm,m,l⟩:=c.ex
 have h:=AY (pos:=pos) (p:=p) (dvs:=[]) (E:=E0) F i n hm m l .nil pass0 j d he b
 intro pins s Y H Q I q
 refine h pins s Y H Q I ?_
 show t Y H λa H1=>sp (a++[]) H1 Q E0
 have g:t Y H (λa H1=>sp a H1 Q E0):=q
 simpa using g
end
def But (p:Addr) (H H':Hp):Prop:=∀ b o,H b=some o->b≠p->H' b=some o
theorem But.trans (a:But p H H1) (b:But p H1 H2):But p H H2:=λc o h n=>b c o (a c o h n) n
abbrev Pt:=Int×Int
def aG (p q r:Pt):Int:=(q.1 - p.1) * (r.2 - p.2) - (q.2 - p.2) * (r.1 - p.1)
def Small (p:Pt):Prop:=-(2 ^ 62) < p.1/\p.1 < 2 ^ 62/\-(2 ^ 62) < p.2/\p.2 < 2 ^ 62
def Rising (ps:List Pt):Prop:=∀ (i j:Nat) (p q:Pt),i < j->ps[i]?=some p->ps[j]?=some q->p.1 < q.1
def NoLine (ps:List Pt):Prop:=∀ (i j k:Nat) (p q r:Pt),i < j->j < k->ps[i]?=some p->ps[j]?=some q->ps[k]?=some r->aG p q r≠0
structure GoodSh (ps:List Pt):Prop where
 pos:0 < ps.length
 most:ps.length<=24
 small:∀ p∈ps,Small p
 rising:Rising ps
 noline:NoLine ps
def kr:List Pt->List (Pt×Pt)
 | []=>[]
 | p::r=>r.map (λq=>(p,q))++kr r
theorem nB:∀ {ps:List Pt} {i j:Nat} {p q:Pt},i < j->ps[i]?=some p->ps[j]?=some q->(p,q)∈kr ps
 | [],_,_,_,_,_,h,_=>by simp at h
 | a::r,0,0,_,_,h,_,_=>by lia
 | a::r,0,j+1,p,q,_,h1,h2=>by
  simp at h1 h2;subst h1
  exact Fi _ (Fy.mpr #[q,Fv h2,rfl])
 | a::r,i+1,0,_,_,h,_,_=>by lia
 | a::r,i+1,j+1,p,q,h,h1,h2=>Fj _ (nB (ps:=r) (i:=i) (j:=j) (by lia) (by simpa using h1) (by simpa using h2))
theorem pR:∀ {ps:List Pt} {p q:Pt},(p,q)∈kr ps->∃ i j:Nat,i < j/\ps[i]?=some p/\ps[j]?=some q
 | [],_,_,h=>by simp[kr] at h
 | a::r,p,q,h=>by
  rcases Fq.mp h with h | h
  .obtain ⟨z,hz,e⟩:=Fy.mp h
   cases e
   obtain ⟨j,b,e⟩:=List.mem_iff_getElem.mp hz
   exact #[0,j+1,by lia,rfl,by simp[b,e]]
  .obtain ⟨i,j,h0,h1,h2⟩:=pR h
   exact #[i+1,j+1,by lia,by simpa using h1,by simpa using h2]
theorem nv:∀ ps:List Pt,(kr ps).length<=ps.length * ps.length
 | []=>by simp[kr]
 | a::r=>by
  have b:=nv r
  simp only[kr,FN,Ft,FO]
  have:(r.length+1) * (r.length+1)=r.length * r.length+2 * r.length+1:=by
   rw[Nat.add_mul,Nat.mul_add];lia
  lia
def zy (ps:List Pt) (z:Pt):Prop:=∀ (i j:Nat) (p q:Pt),i < j->ps[i]?=some p->ps[j]?=some q->aG p q z≠0
def above (ps:List Pt) (x y:Int):Nat:=((kr ps).filter λpr=>decide (aG pr.1 pr.2 (x,y)<=0)).length
theorem y8 {α:Type} {p q:α->Bool}:∀ {l:List α},(∀ a∈l,p a=true->q a=true)->(l.filter p).length<=(l.filter q).length
 | [],_=>by simp
 | a::l,h=>by
  have d:=y8 (l:=l) λb f=>h b (Ff _ f)
  have g:=h a Fe
  cases c:p a with
  | true=>rw[List.filter_cons_of_pos c,List.filter_cons_of_pos (g c)];simpa using d
  | false =>
   rw[List.filter_cons_of_neg (by simp[c])]
   cases e:q a with
   | true=>rw[List.filter_cons_of_pos e];simp;lia
   | false=>rw[List.filter_cons_of_neg (by simp[e])];exact d
theorem y7 {α:Type} {p q:α->Bool}:∀ {l:List α} {z:α},(∀ a∈l,p a=true->q a=true)->z∈l->q z=true->p z=false->(l.filter p).length < (l.filter q).length
 | [],_,_,hz,_,_=>by simp at hz
 | a::l,z,h,hz,h1,h2=>by
  have d:∀ b∈l,p b=true->q b=true:=λb g=>h b (Ff _ g)
  rcases Fm.mp hz with rfl | hz
  .rw[List.filter_cons_of_neg (by simp[h2]),List.filter_cons_of_pos h1]
   have:=y8 d
   simp;lia
  .have e:=y7 d hz h1 h2
   have i:=h a Fe
   cases c:p a with
   | true=>rw[List.filter_cons_of_pos c,List.filter_cons_of_pos (i c)];simpa using e
   | false =>
    rw[List.filter_cons_of_neg (by simp[c])]
    cases f:q a with
    | true=>rw[List.filter_cons_of_pos f];simp;lia
    | false=>rw[List.filter_cons_of_neg (by simp[f])];exact e
theorem ut (p q:Pt) (x y:Int):aG p q (x,y+1)=aG p q (x,y)+(q.1 - p.1):=by
 unfold aG
 grind
theorem zt {x y:Int} (R:Rising ps) {i j:Nat} (a:i < j) (hi:ps[i]?=some p) (c:ps[j]?=some q) (h0:aG p q (x,y)=0):above ps x (y+1) < above ps x y:=by
 refine y7 (z:=(p,q)) (λpr b h=>?_) (nB a hi c) (by simp[h0]) ?_
 .obtain ⟨f,e,h',e1,d⟩:=pR (p:=pr.1) (q:=pr.2) b
  have:=R f e _ _ h' e1 d
  have h:=of_decide_eq_true h
  rw[ut] at h
  exact FH (by lia)
 .have:=R i j _ _ a hi c
  show decide (aG p q (x,y+1)<=0)=false
  rw[ut,h0]
  exact FI (by lia)
theorem zu (ps:List Pt) (x y:Int):above ps x y<=ps.length * ps.length:=FZ (List.length_filter_le _ _) (nv ps)
theorem dI {α:Type} {l:List α} {z a:α} {i:Nat} (h:(l++[z])[i]?=some a):(l[i]?=some a/\i < l.length)\/(a=z/\i=l.length):=by grind
theorem Rising.snoc (R:Rising ps) (h:∀ p∈ps,p.1 < z.1):Rising (ps++[z]):=λi j p q a h1 h2=>by
 rcases dI h1 with ⟨a1,b1⟩ | ⟨rfl,b1⟩
 .rcases dI h2 with ⟨a2,b2⟩ | ⟨rfl,b2⟩
  .exact R i j p q a a1 a2
  .exact h p (Fv a1)
 .rcases dI h2 with ⟨a2,b2⟩ | ⟨rfl,b2⟩
  .lia
  .lia
theorem NoLine.snoc (N:NoLine ps) (F:zy ps z):NoLine (ps++[z]):=λi j k p q r a c h1 h2 h3=>by
 rcases dI h1 with ⟨a1,b1⟩ | ⟨rfl,b1⟩
 .rcases dI h2 with ⟨a2,b2⟩ | ⟨rfl,b2⟩
  .rcases dI h3 with ⟨d,b⟩ | ⟨rfl,b⟩
   .exact N i j k p q r a c a1 a2 d
   .exact F i j p q a a1 a2
  .rcases dI h3 with ⟨d,b⟩ | ⟨rfl,b⟩ <;> lia
 .rcases dI h2 with ⟨a2,b2⟩ | ⟨rfl,b2⟩ <;> lia
def iZ (a b c:Int) (p:Pt):Pt:=(a * p.1+c,b * p.2)
theorem sH (a b c:Int) (p q r:Pt):aG (iZ a b c p) (iZ a b c q) (iZ a b c r)=(a * b) * aG p q r:=by
 unfold aG iZ
 grind
theorem Rising.scale {a b c:Int} (h:0 < a) (R:Rising ps):Rising (ps.map (iZ a b c)):=λi j p q f h1 h2=>by
 rw[Fz] at h1 h2
 obtain ⟨d,e1,rfl⟩:=Fh.mp h1
 obtain ⟨e,g,rfl⟩:=Fh.mp h2
 have:=R i j d e f e1 g
 have h3:a * d.1 < a * e.1:=Int.mul_lt_mul_of_pos_left this h
 show a * d.1+c < a * e.1+c
 lia
theorem NoLine.scale {a b c:Int} (n:0 < a) (o:0 < b) (N:NoLine ps):NoLine (ps.map (iZ a b c)):=λi j k p q r d e h1 h2 h3=>by
 rw[Fz] at h1 h2 h3
 obtain ⟨f,e1,rfl⟩:=Fh.mp h1
 obtain ⟨l,g,rfl⟩:=Fh.mp h2
 obtain ⟨m,h,rfl⟩:=Fh.mp h3
 rw[sH]
 exact Int.mul_ne_zero (Int.mul_ne_zero (by lia) (by lia)) (N i j k f l m d e e1 g h)
section InBlock
variable {X:Cx} {NY:List Str} {scope:Scope} {s:Shared} {H:Hp} {C:Addr} {fp:List Addr}
end InBlock
mutual
inductive DV (K:FG) (H:Hp):V->PyData->Prop
 | non:DV K H .non .none
 | bl (b:Bool):DV K H (.bl b) (.bool b)
 | int (i:Int):DV K H (.int i) (.int i)
 | str (x:Str):DV K H (.str x) (.str x)
 | tup {a:Addr} {xs:List V} {ds:List PyData}:SqT K H a xs->DVs K H xs ds->DV K H (.ref a) (.tuple ds)
 | lst {a:Addr} {xs:List V} {ds:List PyData}:SqL K H a xs->DVs K H xs ds->DV K H (.ref a) (.list ds)
inductive DVs (K:FG) (H:Hp):List V->List PyData->Prop
 | nil:DVs K H [] []
 | cons {x:V} {d:PyData} {xs:List V} {ds:List PyData}:DV K H x d->DVs K H xs ds->DVs K H (x::xs) (d::ds)
end
section
variable {X:Cx} {pins:List (Addr×Obj)} {Y:St} {H:Hp} {s:Shared}
mutual
theorem DV.reads (I:Inv X pins Y H s):∀ {v:V} {d:PyData} {u:Value},DV X.K H v d->RelV v u->∃ as,Reads s.heap u d as
 | _,_,u,.non,r=>by cases (show u=Value.none from r);exact #[_,.none]
 | _,_,u,.bl b,r=>by cases (show u=Value.bool b from r);exact #[_,.bool b]
 | _,_,u,.int i,r=>by obtain ⟨t,rfl⟩:=r;exact #[_,.int i t]
 | _,_,u,.str x,r=>by obtain ⟨t,rfl⟩:=r;exact #[_,.str x t]
 | _,_,u,.tup (a:=a) h rs,r=>by
  cases (show u=Value.ref a from r)
  obtain ⟨its,f,⟨o,e,c,n,d⟩,_⟩:=I.tuple h
  obtain ⟨as,q⟩:=DVs.reads I rs f
  exact #[_,.tuple e c d (by simpa using q)]
 | _,_,u,.lst (a:=a) h rs,r=>by
  cases (show u=Value.ref a from r)
  obtain ⟨its,f,⟨o,n,e,c,_,d⟩,_⟩:=I.list h
  obtain ⟨as,q⟩:=DVs.reads I rs f
  exact #[_,.list e c d (by simpa using q)]
theorem DVs.reads (I:Inv X pins Y H s):∀ {v:List V} {d:List PyData} {us:List Value},DVs X.K H v d->Vals v us->∃ as,ReadsAll s.heap us d as
 | _,_,_,.nil,.nil=>#[_,.nil]
 | _,_,_,.cons h r,.cons q t=>by
  obtain ⟨as,e1⟩:=DV.reads I h q
  obtain ⟨bs,a⟩:=DVs.reads I r t
  exact #[_,.cons e1 a]
end
end
section
variable {X:Cx}
theorem oP (r:Vals (ns.map V.int) us):∃ xs:Array (Int×Tok),us.toArray=intItems xs/\ns=xs.toList.map (·.1):=by
 induction ns generalizing us with
 | nil=>cases r;exact #[(List.toArray []),by simp[intItems],rfl]
 | cons n ns ih =>
  cases r with
  | cons q t =>
   obtain ⟨k,rfl⟩:=q
   obtain ⟨xs,e1,b⟩:=ih t
   refine #[((n,k)::xs.toList).toArray,?_,by simp[b]]
   have a:=congrArg Array.toList e1
   simp only[intItems,List.toList_toArray,Array.toList_map] at a
   simp[intItems,a]
theorem jU {i:Nat} (h:i < xs.size):numAt xs i∈xs.toList.map (·.1):=by
 have e:(xs.toList.map (·.1))[i]?=some (numAt xs i):=by simp[numAt,h]
 exact Fv e
theorem jV {n:Int} (h:n∈xs.toList.map (·.1)):∃ i,i < xs.size/\numAt xs i=n:=by
 obtain ⟨i,hi,e⟩:=List.mem_iff_getElem.mp h
 have a:i < xs.size:=by simpa using hi
 refine #[i,a,?_]
 rw[<- e]
 simp[numAt,a]
theorem vO (f:X.calm=true):CallR X (.builtin "min") (λxs H Q=>∃ (l:Addr) (ns:List Int),xs=[.ref l]/\SqL X.K H l (ns.map V.int)/\ns≠[]/\∀ m,m∈ns->(∀ n∈ns,m<=n)->Q (.int m) H):=by
 intro pins s Y H xs us Q I r h
 obtain ⟨l,ns,rfl,j,k,q⟩:=h
 obtain ⟨u,rfl,b⟩:=eE r
 cases (show u=Value.ref l from b)
 obtain ⟨its,d,p,hz⟩:=I.list j
 obtain ⟨ys,e1,a⟩:=oP d
 have g:0 < ys.size:=by
  grind
 have pl:=p.isList
 rw[e1] at pl
 refine min_intList (I.ok.hd f) pl g λv h' tk c e=>?_
 obtain ⟨t,rfl⟩:=intItems_at c
 obtain ⟨b1,b2⟩:=argBest_lt (numAt ys) (ys.size - 1)
 refine #[.int _,H,I.kept e,#[t,rfl],q _ (by rw[a];exact jU (by omega)) λn hm=>?_]
 rw[a] at hm
 obtain ⟨i,hi,rfl⟩:=jV hm
 exact b2 i (by omega)
end
def Cu (b:Option (Int×Tok)):Array Value:=match b with | none=>(List.toArray []) | some p=>(List.toArray [.int p.1 p.2,.int p.1 p.2])
def o9 (xs:Array (Int×Tok)) (j:Nat) (b:Option (Int×Tok)):Prop:=match b with
 | none=>j=0
 | some p=>(∃ i,i < j/\numAt xs i=p.1)/\∀ i,i < j->numAt xs i<=p.1
section
variable {prog:Program} {w:World} {A:Around} {R:Result->Shared->Prop}
theorem vg (W:A.handled=none) (L:l≠I) (n:S≠I) (G:S≠l) (xs:Array (Int×Tok)) (d:Value):∀ (k j:Nat) (s:Shared) (b:Option (Int×Tok)) (c:Nat),xs.size - j=k->j<=xs.size->s.heap.IsListIter I l j->s.heap.IsList l (intItems xs) ->
  s.heap.get? S=some { cls:=.type "list",dict:=none,data:=.seq (Cu b) c,slots:=(List.toArray []) }->o9 xs j b ->
  (∀ v h' tk,((xs.size=0/\v=d)\/∃ p:Int×Tok,v=.int p.1 p.2/\o9 xs xs.size (some p))->(∀ a o,a≠I->a≠S->s.heap.get? a=some o->h'.get? a=some o)->R (.ok (.ret v)) { s with heap:=h',toks:=tk }) ->
  codeAny (model prog w) A (.builtin "max.loop" #[[.ref I,.none,.ref S],[("default",d)]]) R s:=by
 have nm:(toString "max"++toString ".loop":String)="max.loop":=by decide
 intro k
 induction k with
 | zero =>
  intro j s b c V X hit C y u fin
  obtain rfl:j=xs.size:=by lia
  refine codeAny_builtin F.entry_max_loop ?_
  rw[Around.under_plainId F.plain_max_loop _]
  show wpAny _ A.in1 (seqItems? (.ref S) >>= _) _ _ s
  refine Fb (wpAny_seqItems y rfl ?_)
  show wpAny _ A.in1 (tryCatch (pyNext (.ref I)) _ >>= _) _ _ s
  refine Fb (wpAny_tryCatch (wpAny_pyNext_list_end (show A.in1.handled=none from W) hit C (by simp[intItems]) λh' J=>?_))
  cases b with
  | none =>
   have h0:xs.size=0:=u
   show wpAny _ A.in1 (rule _ >>= λ_=>ret d) _ _ _
   exact Fb (wpAny_rule (Fc (fin d h' s.toks (.inl #[h0,rfl]) λa o g _ e=>J a o g e)))
  | some p =>
   have f:=J S _ n y
   show wpAny _ A.in1 (updateSeq S (λ_=>(List.toArray [])) >>= _) _ _ _
   refine Fb (wpAny_updateSeq f rfl (Fb (wpAny_letGo (Fc ?_))) (hz:=by show 2<=sizeLine;decide))
   exact fin _ _ s.toks (.inr #[p,rfl,u]) λa o g B e=>(FW _ _ (Ne.symm B)).trans (J a o g e)
 | succ k ih =>
  intro j s b c V X hit C y u fin
  have q:j < xs.size:=by lia
  obtain ⟨x,O⟩:∃ x,xs[j]?=some x:=#[xs[j],by simp[q]]
  have τ:(intItems xs)[j]?=some (.int x.1 x.2):=by simp[intItems,O]
  have h:numAt xs j=x.1:=by simp[numAt,O]
  refine codeAny_builtin F.entry_max_loop ?_
  rw[Around.under_plainId F.plain_max_loop _]
  show wpAny _ A.in1 (seqItems? (.ref S) >>= _) _ _ s
  refine Fb (wpAny_seqItems y rfl ?_)
  show wpAny _ A.in1 (tryCatch (pyNext (.ref I)) _ >>= _) _ _ s
  refine Fb (wpAny_tryCatch (wpAny_pyNext_list_item hit C τ λh' r sb=>?_))
  have f:h'.get? S=_:=(sb.2 S n).trans y
  have N:h'.IsList l (intItems xs):=C.at λo e=>(sb.2 l L).trans e
  have on:∀ (h2:Heap) (tk:Nat) (z:Option (Int×Tok)) (M:Nat),(∀ a o,a≠S->h'.get? a=some o->h2.get? a=some o)->h2.get? S=some { cls:=.type "list",dict:=none,data:=.seq (Cu z) M,slots:=(List.toArray []) }->o9 xs (j+1) z ->
    codeAny (model prog w) A (.builtin "max.loop" #[[.ref I,.none,.ref S],[("default",d)]]) R { s with heap:=h2,toks:=tk }:=λh2 tk z M k2 D E =>
   ih (j+1) _ z M (by lia) q (r.at λo e=>k2 I o (Ne.symm n) e) (N.at λo e=>k2 l o (Ne.symm G) e) D E λv h3 H K k3=>fin v h3 H K λa o g B e=>k3 a o g B (k2 a o B ((sb.2 a g).trans e))
  cases b with
  | none =>
   have h0:j=0:=u
   show wpAny _ A.in1 (updateSeq S (λ_=>(List.toArray [.int x.1 x.2,.int x.1 x.2])) >>= _) _ _ _
   refine Fb (wpAny_updateSeq f rfl ?_)
   rw[nm]
   refine Fc #[plainId_quiet F.plain_max_loop _,on _ s.toks (some x) _ (λa o g e=>(FW _ _ (Ne.symm g)).trans e) (FL _ f rfl) #[#[j,by lia,h],λi hi=>?_]]
   obtain rfl:i=j:=by lia
   lia
  | some p =>
   obtain ⟨⟨T,Q,P⟩,hle⟩:=u
   show wpAny _ A.in1 (tryCatch (holding [.int x.1 x.2,.int x.1 x.2] (richCompare .Gt (.int x.1 x.2) (.int p.1 p.2) >>= _)) _ >>= _) _ _ _
   refine Fb (wpAny_tryCatch (Fd (Fb ?_)))
   refine (gt_int (a:=x.1) (b:=p.1) ?_:wpAny (model prog w) A.in1 (compareOp .Gt (.int x.1 x.2) (.int p.1 p.2)) _ _ _)
   refine Fb (Fd (FY (Fb (wpAny_letGo (Fc ?_)))))
   by_cases t:p.1 < x.1
   .rw[FH t,if_pos rfl]
    refine Fb (wpAny_updateSeq f rfl (Fb (wpAny_letGo ?_)) (hz:=by show 2<=sizeLine;decide))
    rw[nm]
    refine Fc #[plainId_quiet F.plain_max_loop _,on _ s.toks (some x) _ (λa o g e=>(FW _ _ (Ne.symm g)).trans e) (FL _ f rfl) #[#[j,by lia,h],λi hi=>?_]]
    by_cases m:i=j
    .subst m;lia
    .have:=hle i (by lia);lia
   .rw[FI t,if_neg FC]
    refine Fb (wpAny_letGo ?_)
    rw[nm]
    refine Fc #[plainId_quiet F.plain_max_loop _,on h' s.toks (some p) c (λa o _ e=>e) f #[#[T,by lia,P],λi hi=>?_]]
    by_cases m:i=j
    .subst m;lia
    .exact hle i (by lia)
end
section
variable {prog:Program} {w:World} {A:Around} {E:Value->Shared->Prop} {s:Shared} {l:Addr} {xs:Array (Int×Tok)}
theorem u6 {h':Heap} (a:∀ b o,b ∉ [s.heap.objs.size]->(s.heap.push { cls:=.type "tuple_iterator",data:=.fields (List.toArray [.ref t,.int 0 0]) }).get? b=some o->h'.get? b=some o) :
  ∀ b o,s.heap.get? b=some o->h'.get? b=some o:=λb o e=>by
 refine a b o (λhm=>?_) (Fg _ e)
 rcases Fm.mp hm with e1 | hm
 .exact absurd (e1 ▸ Fp e) (Nat.lt_irrefl _)
 .cases hm
theorem mN (d:s.heap.IsTuple t items) (h:∀ a:Shared,a={ s with heap:=s.heap.push { cls:=.type "tuple_iterator",data:=.fields (List.toArray [.ref t,.int 0 0]) } } ->
   (a.heap.IsTupleIter s.heap.objs.size t 0/\a.heap.IsTuple t items)->(∀ b∈[s.heap.objs.size,t],b < a.heap.objs.size)->t≠s.heap.objs.size->Q (.ref s.heap.objs.size) a) :
  wpAny (model prog w) A (pyIter (.ref t)) Q E s:=by
 have c:t < s.heap.objs.size:=by obtain ⟨_,e,_⟩:=d;exact Fp e
 refine wpAny_pyIter_tuple d (h _ rfl #[#[_,Fs _ rfl,rfl,rfl],d.push _] (λb f=>?_) (FD c))
 show b < (s.heap.push _).objs.size
 rw[FX]
 grind
theorem oG (f:A.handled=none) (g:s.heap.IsTuple t (intItems xs)) (c:0 < xs.size) (h:∀ v h' tk,(intItems xs)[argBest (λi j=>decide (numAt xs i < numAt xs j)) (xs.size - 1)]?=some v->(∀ b o,s.heap.get? b=some o->h'.get? b=some o)->Q v { s with heap:=h',toks:=tk }) :
  wpAny (model prog w) A (call (.builtin "min") [.ref t]) Q E s:=by
 refine call_min_walk (mN g λm e st d a=>?_)
 subst e
 refine #[_,_,_,_,_,_,_,rfl,Walks.tuple (A:=A.in1) f _ t a (intItems xs),st,d,by simpa[intItems] using c,CmpOf.ints_lt (numAt xs) (λ_ _=>intItems_at),λv h' tk k l=>?_]
 exact h v h' tk (by simpa[intItems] using k) (u6 l)
end
section
variable {X:Cx}
theorem vM (f:X.calm=true):CallR X (.builtin "min") (λxs H Q=>∃ (l:Addr) (ns:List Int),xs=[.ref l]/\SqT X.K H l (ns.map V.int)/\ns≠[]/\∀ m,m∈ns->(∀ n∈ns,m<=n)->Q (.int m) H):=by
 intro pins s Y H xs us Q I r h
 obtain ⟨l,ns,rfl,j,k,q⟩:=h
 obtain ⟨u,rfl,b⟩:=eE r
 cases (show u=Value.ref l from b)
 obtain ⟨its,d,p,hz⟩:=I.tuple j
 obtain ⟨ys,e1,a⟩:=oP d
 have g:0 < ys.size:=by
  grind
 have pl:s.heap.IsTuple l its.toArray:=p
 rw[e1] at pl
 refine oG (I.ok.hd f) pl g λv h' tk c e=>?_
 obtain ⟨t,rfl⟩:=intItems_at c
 obtain ⟨b1,b2⟩:=argBest_lt (numAt ys) (ys.size - 1)
 refine #[.int _,H,I.kept e,#[t,rfl],q _ (by rw[a];exact jU (by omega)) λn hm=>?_]
 rw[a] at hm
 obtain ⟨i,hi,rfl⟩:=jV hm
 exact b2 i (by omega)
end
section
variable {prog:Program} {w:World} {A:Around} {E:Value->Shared->Prop} {s:Shared}
theorem iP {id:String} (i:builtinKind id=none) (g:plainId id=true) (h:entryFor table id=some b) (c:argsOk id #[args,kw]) (d:wpAny (model prog w) A.in1 (b #[args,kw]) (λfin s'=>match fin with
   | .done f=>(match (Except.ok f:Result) with | .ok (.ret v)=>Q v s' | .ok _=>False | .error e=>E e s')
   | .again c'=>c'.quiet=true/\codeAny (model prog w) A c' (λr s'=>match r with | .ok (.ret v)=>Q v s' | .ok _=>False | .error e=>E e s') s') E s) :
  wpAny (model prog w) A (call (.builtin id) args kw) Q E s:=by
 refine wpAny_call (codeAny_call_builtin g h ?_)
 simp only[checkBuiltinCall,i]
 cases a:Manifest.signature? id with
 | none=>exact Fc d
 | some sig =>
  simp only[argsOk,a] at c
  have h2:Bind.checkArgs id sig #[args,kw]=pure ():=c
  show wpAny _ A.in1 (Bind.checkArgs id sig #[args,kw]) _ _ s
  rw[h2];exact Fc d
theorem wd (a d:Value):argsOk "max" #[[a],[("default",d)]]:=by unfold argsOk;kernel_rfl
theorem vR (j:A.handled=none) (g:s.heap.IsList l (intItems xs)) (h:∀ v h' tk,((xs.size=0/\v=d)\/∃ p:Int×Tok,v=.int p.1 p.2/\o9 xs xs.size (some p))->(∀ b o,s.heap.get? b=some o->h'.get? b=some o)->Q v { s with heap:=h',toks:=tk }) :
  wpAny (model prog w) A (call (.builtin "max") [.ref l] [("default",d)]) Q E s:=by
 have a:(toString "max"++toString ".loop":String)="max.loop":=by decide
 refine iP F.kind_max F.plain_max F.entry_max (wd _ _) ?_
 show wpAny _ A.in1 (Builtin.Builtins.bindParams "max" ["key","default"] 0 #[[],[("default",d)]] >>= _) _ _ s
 refine Fb (wpAny_of_eq (show Builtin.Builtins.bindParams "max" ["key","default"] 0 #[[],[("default",d)]]=pure [none,some d] from rfl) ?_)
 refine Fb (Fc ?_)
 refine Fb (iter_intList g λn e st k f=>?_)
 subst e
 refine Fb (wpAny_newObj_type ?_)
 rw[a]
 have c:l < s.heap.objs.size:=by obtain ⟨_,e,_⟩:=g;exact Fp e
 have hsz:(s.heap.push { cls:=.type "list_iterator",data:=.fields (List.toArray [.ref l,.int 0 0]) }).objs.size=s.heap.objs.size+1:=FX _ _
 have a1:(s.heap.push { cls:=.type "list_iterator",data:=.fields (List.toArray [.ref l,.int 0 0]) }).objs.size≠s.heap.objs.size:=by rw[hsz];exact Nat.succ_ne_self _
 have a2:(s.heap.push { cls:=.type "list_iterator",data:=.fields (List.toArray [.ref l,.int 0 0]) }).objs.size≠l:=by rw[hsz];exact Nat.ne_of_gt (Nat.lt_succ_of_lt c)
 refine Fc ⟨plainId_quiet F.plain_max_loop _,vg (A:=A) j f a1 a2 xs d xs.size 0 _ none 0 (by lia) (by lia)
  (st.1.at λo e=>Fg _ e) (st.2.at λo e=>Fg _ e) (Fs _ rfl) rfl λv h' tk i m=>?_⟩
 refine h v h' tk i λb o e=>m b o (λq=>?_) (λq=>?_) (Fg _ (Fg _ e))
 .exact absurd q (FD (Fp e))
 .exact absurd (q.trans hsz) (FD (Nat.lt_succ_of_lt (Fp e)))
end
section
variable {X:Cx}
theorem mD {xs:Array (Int×Tok)} (e:ns=xs.toList.map (·.1)):xs.size=0 ↔ ns=[]:=by
 rw[e];simp
def tf (K:FG) (P:List Int->Int->Prop) (x d:V) (H:Hp) (Q:VK):Prop:=∃ (l:Addr) (ns:List Int),x=.ref l/\SqL K H l (ns.map V.int)/\(ns=[]->Q d H)/\∀ m,m∈ns->P ns m->Q (.int m) H
theorem wR (k:X.calm=true) (I:Inv X pins Y H s) (e:RelV x u) (rd:RelV d ud) (h:tf X.K (λns m=>∀ n∈ns,n<=m) x d H Q) :
  wpAny (model X.prog X.w) X.A (call (.builtin "max") [u] [("default",ud)]) (EP X pins Y Q) X.xe s:=by
 obtain ⟨l,ns,rfl,t,h0,h1⟩:=h
 cases (show u=Value.ref l from e)
 obtain ⟨its,f,p,hz⟩:=I.list t
 obtain ⟨ys,e1,a⟩:=oP f
 have pl:=p.isList
 rw[e1] at pl
 refine vR (I.ok.hd k) pl λv h' tk c b=>?_
 rcases c with ⟨o,rfl⟩ | ⟨q,rfl,⟨⟨i,hi,g⟩,hle⟩⟩
 .exact #[d,H,I.kept b,rd,h0 ((mD a).mp o)]
 .refine #[.int q.1,H,I.kept b,#[q.2,rfl],h1 _ (by rw[a,<- g];exact jU hi) λn hm=>?_]
  rw[a] at hm
  obtain ⟨j,r,rfl⟩:=jV hm
  exact hle j r
def tKw1 (r:V->V->Hp->VK->Prop) (te a:TE):TE:=λY H Q=>te Y H λx H1=>a Y H1 λd H2=>r x d H2 Q
theorem DT {id:String} (c:∀ {pins:List (Addr×Obj)} {s:Shared} {Y:St} {H:Hp} {x d:V} {u i:Value} {Q:VK},Inv X pins Y H s->RelV x u->RelV d i->r x d H Q->wpAny (model X.prog X.w) X.A (call (.builtin id) [u] [("default",i)]) (EP X pins Y Q) X.xe s) (C:Gl X nm) (hm:X.mg nm=none) (q:bootBuiltins nm=some (.builtin id)) (he:PE X e te) (hd:PE X d td) (t:nm≠"__name__") (l:(nm == ("__debug__":Str))=false) (n:backTo pos (starEach [e] X.env)=(false,eval e X.env)::backTo pos (starEach [] X.env)) (m:backTo pos (starEach [] X.env)=[]) (a:(backTo pos (starEach [e] X.env)).any (·.1)=false) (b:(backToKw pos (keywordEach [#[some "default",d,kpos]] X.env)).all (·.1.isSome)=true) (g:(backToKw pos (keywordEach [#[some "default",d,kpos]] X.env)).any (·.1.isNone)=false) (f:(backToKw pos (keywordEach [#[some "default",d,kpos]] X.env)).filterMap (·.1)=(["default"]:List Str)) :
  PE X (.Call (.Name nm p) [e] [#[some "default",d,kpos]] pos) (tKw1 r te td):=by
 intro pins s Y H Q I h
 refine wpAny_Call_Name_kw (fW I C hm q ?_ t l)
 refine PyProof.Rows.callWith_kw ?_ n a b g
 rw[n,m]
 refine Calls.spliced_cons (thn (he pins s Y H _ I h) λu s1 #[x,H1,v,y,o]=>Calls.spliced_nil ?_)
 refine thn (AR (nm:=some "default") (kpos:=kpos) hd DL pos pins s1 Y H1 (λz H2=>match z with | [d]=>r x d H2 Q | _=>False) v o) λus s2 #[xs,H2,B,j,k]=>?_
 match xs,k,j with
 | [d'],k,j =>
  rw[f]
  obtain ⟨i,rfl,rd⟩:=eE j
  exact c B y rd k
end
def Itd (hi:Int) (n:Nat):It:=#[λi _=>i < n,λi H x H'=>H'=H/\x=.int (hi - i),λi _=>n<=i]
theorem pq {P:Program} {w:World} {K:FG} {tg:Expr} (it:Addr) (hi:Int) (n:Nat):Turn P w K tg (Itd hi n) [it] it (λi h=>IsRangeIter h it (hi+(i:Nat) * (-1)) ((n:Int) - (i:Nat)) (-1)) where
 mem:=by simp
 obj:=λi h st b a=>by
  grind
 keep:=λi h h' st k=>k it (by simp) _ st
 item:=by
  intro X f hw j l i pins s Y H E I hf st m
  subst f hw j
  obtain ⟨f0,f1,f2,g,f4,d⟩:=hf it (by simp)
  have W:=Walks.range (prog:=X.prog) (w:=X.w) (I.ok.hd l) it hi (-1) n
  refine W.item i s _ _ m st λv h' tk q c p=>?_
  obtain ⟨t,rfl⟩:=q
  have r:Inv X pins Y H { s with heap:=h',toks:=tk }:=I.turned (λb o a e=>p b o (by simpa using a) e) f0 f1 g f4 d
  refine #[_,rfl,nN (s:={ s with heap:=h',toks:=tk }) (n:="range_iterator") c rfl rfl (by decide) #[.int (hi - i),H,r,#[t,?_],#[rfl,rfl],c,λb a=>(hf b a).1]]
  rw[show hi+(i:Int) * (-1)=hi - i by omega]
 done:=by
  intro X f hw j l i pins s Y H E I hf st m
  subst f hw j
  obtain ⟨f0,f1,f2,g,f4,d⟩:=hf it (by simp)
  exact wpAny_pyNext_range_end (I.ok.hd l) st (by have:n<=i:=m;omega) λh' u=>#[rfl,I.turned (t':=s.toks) (λb o a e=>u b o a e) f0 f1 g f4 d]
 self:=λ_ _ _ _ _ st h=>wpAny_pyIter_rangeiter st h
section
variable {X:Cx} {tg:Expr}
theorem gv (a b:Int):Builtin.Range.rangeSize a b (-1)=if a > b then a - b else 0:=by
 unfold Builtin.Range.rangeSize
 grind
theorem qX {a b:Int} (h1:-(2 ^ 62)<=a) (h2:a < 2 ^ 62) (h3:-(2 ^ 62)<=b) (d:b < 2 ^ 62):Builtin.Range.small a b (-1)=true:=by
 unfold Builtin.Range.small
 rw[gv]
 have c:¬ ((-1:Int) > 0):=by decide
 simp only[Builtin.Range.rangeFitsLong,Bool.and_eq_true,Bool.or_eq_true,decide_eq_true_eq,beq_iff_eq,c,if_false]
 split <;> lia
def Cl (ta:TA):TI:=λY H R=>ta Y H λa H1=>∃ i j:Int,a=[.int i,.int j,.int (-1)]/\(-(2 ^ 62)<=i/\i < 2 ^ 62/\-(2 ^ 62)<=j/\j < 2 ^ 62)/\R (Itd i (i - j).toNat) H1
theorem uW {lo hi:Int} {tk:Nat} (I:Inv X pins Y H s) (h1:-(2 ^ 62)<=lo) (h2:lo < 2 ^ 62) (h3:-(2 ^ 62)<=hi) (d:hi < 2 ^ 62) (q:R (Itd lo (lo - hi).toNat) H):wpAny (model X.prog X.w) X.A (pyIter (.ref s.heap.objs.size)) (PIE X pins Y tg R) E { s with heap:=s.heap.push { cls:=.type "range",data:=.fields (List.toArray [.int lo t,.int hi u,.int (-1) v]) },toks:=tk }:=by
 refine wpAny_pyIter_range (IsRange.new ..) (qX h1 h2 h3 d) ?_
 have a:Inv X pins Y H { s with heap:=s.heap.push { cls:=.type "range",data:=.fields (List.toArray [.int lo t,.int hi u,.int (-1) v]) },toks:=tk }:=I.kept λb o e=>Fg _ e
 refine ⟨(s.heap.push { cls:=.type "range",data:=.fields (List.toArray [.int lo t,.int hi u,.int (-1) v]) }).objs.size,[(s.heap.push { cls:=.type "range",data:=.fields (List.toArray [.int lo t,.int hi u,.int (-1) v]) }).objs.size],_,_,H,rfl,
  a.kept (t':=tk) λb o e=>Fg _ e,pq _ lo (lo - hi).toNat,?_,λb f=>?_,q⟩
 .have e1:lo+((0:Nat):Int) * (-1)=lo:=by simp
  have c:(((lo - hi).toNat:Nat):Int) - ((0:Nat):Int)=Builtin.Range.rangeSize lo hi (-1):=by rw[gv];split <;> lia
  show IsRangeIter _ _ (lo+((0:Nat):Int) * (-1)) ((((lo - hi).toNat:Nat):Int) - ((0:Nat):Int)) (-1)
  rw[e1,c]
  exact Fs _ rfl
 .have e:b=(s.heap.push { cls:=.type "range",data:=.fields (List.toArray [.int lo t,.int hi u,.int (-1) v]) }).objs.size:=by simpa using f
  subst e
  exact a.fpOk (FA _) (a.hok.fresh (FA _))
theorem uY (w:Gl X "range") (hm:X.mg "range"=none) (v:PA X [a,b,c] ta) (k:starEach [a,b,c] X.env=(false,eval a X.env)::starEach [b,c] X.env) (f:(backTo pos (starEach [b,c] X.env)).any (·.1)=false) :
  PI X tg (.Call (.Name "range" p) [a,b,c] [] pos) (Cl ta):=by
 intro pins s Y H R I h
 refine Call_ (fW I w hm boot_range (PyProof.Rows.callWith_type1 (thn (v pos pins s Y H _ I h) λus s1 #[x,H1,l,n,d]=>?_) k f))
 obtain ⟨i,j,e,⟨d,o,m,g⟩,q⟩:=d
 subst e
 cases n with
 | cons r rr =>
  cases rr with
  | cons r' rr =>
   cases rr with
   | cons r'' rr =>
    cases rr
    obtain ⟨t,rfl⟩:=r
    obtain ⟨t',rfl⟩:=r'
    obtain ⟨u,rfl⟩:=r''
    exact call_range_3 (by decide) (uW l d o m g q) (.inl (PyProof.noPylong_small (by decide)))
end
end L2
end
section
namespace PySem
open Sem (wp)
def RawAt (h:Heap) (d:Addr) (es:Array DictEntry) (ep:Nat):Prop:=∃ o,h.get? d=some o/\o.ExactDict/\o.data=.dict es ep
section
variable {prog:Program} {w:World} {A:Around} {E:Value->Shared->Prop} {s:Shared}
theorem RawAt.typeIs {ep:Nat} (x:RawAt s.heap d es ep):s.TypeIs (.ref d) "dict":=let #[o,a,b,_]:=x;#[o,a,b.1]
theorem kn {i ep:Nat} (hit:s.heap.IsKeyIter it d i es.size ep) (hm:RawAt s.heap d es ep) (e:i < es.size) (c:∀ h',h'.IsKeyIter it d (i+1) es.size ep->Heap.SameBut it s.heap h'->Q (some es[i].key) { s with heap:=h' }) :
  wpAny (model prog w) A (pyNext (.ref it)) Q E s:=by
 have ty:=hit.typeIs
 obtain ⟨⟨c1,l,m,s1⟩,h1,e1,a⟩:=hit
 obtain ⟨⟨c2,k,f,s2⟩,h2,_,b⟩:=hm
 obtain ⟨j,g,h,tk,os⟩:=s
 simp only at e1 a b
 subst e1 a b
 have hi:(if (i:Int) < 0 then none else es[(i:Int).toNat]?)=some es[i]:=by simp[e]
 unfold pyNext
 refine Fb (wpAny_attempt (wpAny_callSpecial?_slot ty F.slot_dict_keyiterator_next
  (wpAny_call_entry F.slot_dict_keyiterator_next ty F.entry_dict_keyiterator_next ?_ (F.args_dict_keyiterator_next_1 _))))
 wp_walk
 rw[hi]
 wp_walk
 exact #[_,rfl,Fc (c _ #[_,FL _ h1 rfl,rfl,rfl] (Heap.SameBut.update ..))]
theorem lK {i ep:Nat} (h:A.handled=none) (hit:s.heap.IsKeyIter it d i es.size ep) (hm:RawAt s.heap d es ep) (j:es.size<=i) (f:∀ h',Heap.ExtBut it s.heap h'->Q none { s with heap:=h' }):wpAny (model prog w) A (pyNext (.ref it)) Q E s:=by
 have ty:=hit.typeIs
 obtain ⟨⟨c1,o,p,s1⟩,h1,e1,c⟩:=hit
 obtain ⟨⟨c2,n,k,s2⟩,h2,_,e⟩:=hm
 obtain ⟨m,g,l,tk,os⟩:=s
 simp only at e1 c e
 subst e1 c e
 have hi:(if (i:Int) < 0 then none else es[(i:Int).toNat]?)=none:=by simp[j]
 have a:A.in1.handled=none:=h
 unfold pyNext
 refine Fb (wpAny_attempt (wpAny_callSpecial?_slot ty F.slot_dict_keyiterator_next
  (wpAny_call_entry F.slot_dict_keyiterator_next ty F.entry_dict_keyiterator_next ?_ (F.args_dict_keyiterator_next_1 _))))
 wp_walk
 rw[hi]
 wp_walk
 refine wpAny_raiseNew_none a ?_
 refine Fb (wpAny_isInstance (v:=.ref _) (T:="StopIteration") (b:=true) ?_ isSubtype_stop ?_)
 .exact #[_,Fs _ rfl,rfl]
 .exact Fc (f _ (((Heap.SameBut.update ..).extBut.push _).push _))
theorem pK {i ep:Nat} (hit:s.heap.IsValIter it d i es.size ep) (hm:RawAt s.heap d es ep) (e:i < es.size) (c:∀ h',h'.IsValIter it d (i+1) es.size ep->Heap.SameBut it s.heap h'->Q (some es[i].val) { s with heap:=h' }) :
  wpAny (model prog w) A (pyNext (.ref it)) Q E s:=by
 have ty:=hit.typeIs
 obtain ⟨⟨c1,l,m,s1⟩,h1,e1,a⟩:=hit
 obtain ⟨⟨c2,k,f,s2⟩,h2,_,b⟩:=hm
 obtain ⟨j,g,h,tk,os⟩:=s
 simp only at e1 a b
 subst e1 a b
 have hi:(if (i:Int) < 0 then none else es[(i:Int).toNat]?)=some es[i]:=by simp[e]
 unfold pyNext
 refine Fb (wpAny_attempt (wpAny_callSpecial?_slot ty F.slot_dict_valueiterator_next
  (wpAny_call_entry F.slot_dict_valueiterator_next ty F.entry_dict_valueiterator_next ?_ (F.args_dict_valueiterator_next_1 _))))
 wp_walk
 rw[hi]
 wp_walk
 exact #[_,rfl,Fc (c _ #[_,FL _ h1 rfl,rfl,rfl] (Heap.SameBut.update ..))]
theorem rg {i ep:Nat} (h:A.handled=none) (hit:s.heap.IsValIter it d i es.size ep) (hm:RawAt s.heap d es ep) (j:es.size<=i) (f:∀ h',Heap.ExtBut it s.heap h'->Q none { s with heap:=h' }):wpAny (model prog w) A (pyNext (.ref it)) Q E s:=by
 have ty:=hit.typeIs
 obtain ⟨⟨c1,o,p,s1⟩,h1,e1,c⟩:=hit
 obtain ⟨⟨c2,n,k,s2⟩,h2,_,e⟩:=hm
 obtain ⟨m,g,l,tk,os⟩:=s
 simp only at e1 c e
 subst e1 c e
 have hi:(if (i:Int) < 0 then none else es[(i:Int).toNat]?)=none:=by simp[j]
 have a:A.in1.handled=none:=h
 unfold pyNext
 refine Fb (wpAny_attempt (wpAny_callSpecial?_slot ty F.slot_dict_valueiterator_next
  (wpAny_call_entry F.slot_dict_valueiterator_next ty F.entry_dict_valueiterator_next ?_ (F.args_dict_valueiterator_next_1 _))))
 wp_walk
 rw[hi]
 wp_walk
 refine wpAny_raiseNew_none a ?_
 refine Fb (wpAny_isInstance (v:=.ref _) (T:="StopIteration") (b:=true) ?_ isSubtype_stop ?_)
 .exact #[_,Fs _ rfl,rfl]
 .exact Fc (f _ (((Heap.SameBut.update ..).extBut.push _).push _))
theorem ju {ep:Nat} (hd:(d == sysModules)=false) (hm:RawAt s.heap d es ep) (e:Q (.ref s.heap.objs.size) { s with heap:=s.heap.push { cls:=.type "dict_keyiterator",data:=.fields (List.toArray [.ref d,.int 0 0,.int es.size 0,.int ep 0]) } }) :
  wpAny (model prog w) A (pyIter (.ref d)) Q E s:=by
 have ty:=hm.typeIs
 obtain ⟨⟨c2,j,f,s2⟩,h2,c,a⟩:=hm
 obtain ⟨i,g,h,tk,os⟩:=s
 obtain ⟨b,_⟩:=c
 simp only at a b
 subst a b
 refine wpAny_pyIter_slot ty F.slot_dict_iter (wpAny_call_entry F.slot_dict_iter ty F.entry_dict_iter ?_ (F.args_dict_iter_1 _))
 wp_walk
 exact #[_,rfl,"dict_keyiterator",_,#[_,Fs _ rfl,rfl],F.slot_dict_keyiterator_next.lookup,e]
theorem kI (d:Addr) (hd:(d == sysModules)=false) :
  MeetsIn prog w (Builtin.«dict.values» #[[.ref d],[]]) (λ_ R s=>(∃ es ep,RawAt s.heap d es ep) /\
   R (.ok (.ret (.ref s.heap.objs.size))) { s with heap:=s.heap.push { cls:=.type "dict_values",data:=.fields (List.toArray [.ref d]) } }) :=
 .of_wp λA R s #[#[es,ep,hm],h]=>by
  have ty:=hm.typeIs
  obtain ⟨⟨c2,j,e,s2⟩,h2,c,a⟩:=hm
  obtain ⟨i,g,f,tk,os⟩:=s
  obtain ⟨b,_⟩:=c
  simp only at a b
  subst a b
  wp_walk
  exact #[_,rfl,h]
theorem lJ {ep:Nat} (c:s.heap.IsValuesView v d) (hm:RawAt s.heap d es ep) (e:Q (.ref s.heap.objs.size) { s with heap:=s.heap.push { cls:=.type "dict_valueiterator",data:=.fields (List.toArray [.ref d,.int 0 0,.int es.size 0,.int ep 0]) } }) :
  wpAny (model prog w) A (pyIter (.ref v)) Q E s:=by
 have ty:=c.typeIs
 obtain ⟨⟨c1,k,l,s1⟩,h1,e1,a⟩:=c
 obtain ⟨⟨c2,j,f,s2⟩,h2,_,b⟩:=hm
 obtain ⟨i,g,h,tk,os⟩:=s
 simp only at e1 a b
 subst e1 a b
 refine wpAny_pyIter_slot ty F.slot_dict_values_iter (wpAny_call_entry F.slot_dict_values_iter ty F.entry_dict_values_iter ?_ (F.args_dict_values_iter_1 _))
 wp_walk
 exact #[_,rfl,"dict_valueiterator",_,#[_,Fs _ rfl,rfl],F.slot_dict_valueiterator_next.lookup,e]
end
end PySem
end
section
namespace L2
open PySem PySem.Spec PyProof.Rows
theorem lR:∀ {c:List α} {d:List β},Paired F c d->∀ {i:Nat} {a:α},c[i]?=some a->∃ b,d[i]?=some b/\F a b
 | _,_,.nil,i,a,h=>by simp at h
 | _,_,.cons r t,0,a,h=>by
  simp only[List.getElem?_cons_zero,Option.some.injEq] at h
  subst h
  exact #[_,rfl,r]
 | _,_,.cons r t,i+1,a,h=>by
  simp only[List.getElem?_cons_succ] at h
  exact lR t h
theorem Rd.dT_inj {n m:Nat} (h:Rd H a (.dT x n)) (h':Rd H a (.dT y m)):x=y:=by
 rcases h with h | ⟨o,h⟩ <;> rcases h' with h' | ⟨o',h'⟩ <;> rw[h] at h' <;> cases h' <;> rfl
section
variable {P:Program} {w:World} {H:Hp} {h:Heap} {a:Addr}
theorem lg {kvs:List (List Key×V)} {n:Nat} (ok:HOk P w H h) (e:Rd H a (.dT kvs n)):(a == sysModules)=false/\∃ (es:Array DictEntry) (ep:Nat),RawAt h a es ep/\es.size=ep+n/\es.size=kvs.length /\
  ∀ i (hi:i < es.size) c,kvs[i]?=some c->∃ b,es[i].key=.ref b/\H b=some (.tup (c.1.map kV))/\RelV c.2 es[i].val:=by
 obtain ⟨z,y,xs,r,o,es,ep,h1,h2,h3,g,t,s,j⟩:=mj ok e
 have k:es.size=xs.length:=by rw[<- Array.length_toList,g,Ft]
 refine #[y,es,ep,#[o,h1,h2,h3],j,by rw[k,<- Paired.length r],λi hi c p=>?_]
 obtain ⟨q,l,f1,f2,m⟩:=lR r p
 have f:es.toList[i]?=some (entryOfKey (tupleKind (aU P w)) q):=by rw[g,Fz,l];rfl
 have d:es[i]=entryOfKey (tupleKind (aU P w)) q:=by
  rw[Array.getElem?_toList,Array.getElem?_eq_getElem hi] at f
  exact F6 f
 rw[d]
 exact #[q.2.1,rfl,f2,m]
theorem oW (ok:HOk P w H h) (e:RdT H a kvs):(a == sysModules)=false/\∃ es:Array DictEntry,(∃ ep,RawAt h a es ep)/\es.size=kvs.length /\
  ∀ i (hi:i < es.size) kv,kvs[i]?=some kv->∃ b,es[i].key=.ref b/\H b=some (.tup (kv.1.map kV))/\RelV kv.2 es[i].val :=
 let #[_,e]:=e;let #[y,es,ep,raw,_,sz,ent]:=lg ok e;#[y,es,#[ep,raw],sz,ent]
end
def Itk (a:Addr) (n m:Nat):It:=⟨λi H=>∃ kvs,Rd H a (.dT kvs m)/\kvs.length=n/\i < n,
 λi H x H'=>H'=H/\∀ kvs c,Rd H a (.dT kvs m)->kvs[i]?=some c->∃ b,x=.ref b/\H b=some (.tup (c.1.map kV)),λi H=>∃ kvs,Rd H a (.dT kvs m)/\kvs.length=n/\n<=i⟩
theorem uI {P:Program} {w:World} {K:FG} {tg:Expr} (a it:Addr) (n m:Nat):Turn P w K tg (Itk a n m) [it] it (λi h=>h.IsKeyIter it a i n (n - m)) where
 mem:=by simp
 obj:=λi h st b f=>by
  have e:b=it:=by simpa using f
  subst e
  obtain ⟨o,e,c,d⟩:=st
  exact #[o,e,λv z=>by rw[d] at z;cases z]
 keep:=λi h h' st k=>st.at λo e=>k it (by simp) o e
 item:=by
  intro X r hw x D i pins s Y H E I hf st B
  subst r hw x
  obtain ⟨kvs,p,G,hi⟩:=B
  obtain ⟨y,es,ep,raw,F,sz,ent⟩:=lg I.hok p
  obtain rfl:n=es.size:=by lia
  obtain rfl:ep=es.size - m:=by omega
  obtain ⟨f0,f1,f2,u,f4,q⟩:=hf it (by simp)
  obtain ⟨t,j⟩:∃ t,kvs[i]?=some t:=#[kvs[i]'(by lia),Fo _]
  obtain ⟨b,b1,b2,N⟩:=ent i hi t j
  refine kn st raw hi λh' g sb=>?_
  have J:Inv X pins Y H { s with heap:=h' }:=I.turned (t':=s.toks) (λb o f e=>(sb.2 b f).trans e) f0 f1 u f4 q
  obtain ⟨o,e,c,d⟩:=id g
  refine #[_,rfl,nN (s:={ s with heap:=h' }) e c d (by decide) #[.ref b,H,J,b1,#[rfl,λC L A l=>?_],g,λb f=>(hf b f).1]]
  rw[A.dT_inj p,j] at l
  cases l
  exact #[b,rfl,b2]
 done:=by
  intro X r hw x D i pins s Y H E I hf st B
  subst r hw x
  obtain ⟨kvs,p,G,hi⟩:=B
  obtain ⟨y,es,ep,raw,F,sz,ent⟩:=lg I.hok p
  obtain rfl:n=es.size:=by lia
  obtain rfl:ep=es.size - m:=by omega
  obtain ⟨f0,f1,f2,u,f4,q⟩:=hf it (by simp)
  exact lK (I.ok.hd D) st raw hi λh' M=>#[rfl,I.turned (t':=s.toks) (λb o f e=>M b o f e) f0 f1 u f4 q]
 self:=λ_ _ _ _ _ st h=>wpAny_pyIter_keyiter st h
def Co (tl:TE):TI:=λY H R=>tl Y H λx H1=>∃ a kvs m,x=.ref a/\Rd H1 a (.dT kvs m)/\R (Itk a kvs.length m) H1
theorem AS (g:PE X l tl):PI X tg l (Co tl):=by
 intro pins s Y H R I h
 exact thn (g pins s Y H _ I h) λv s1 #[x,H1,c,f,d]=>by
  obtain ⟨a,kvs,m,e,j,q⟩:=d
  subst e
  cases f
  obtain ⟨y,es,ep,raw,k,sz,ent⟩:=lg c.hok j
  obtain rfl:ep=es.size - m:=by omega
  refine ju y raw ?_
  refine #[s1.heap.objs.size,[s1.heap.objs.size],_,_,H1,rfl,c.kept (t':=s1.toks) λb o e=>Fg _ e,uI a _ kvs.length m,#[_,Fs _ rfl,rfl,by rw[sz];rfl],λb i=>?_,q]
  have e:b=s1.heap.objs.size:=by simpa using i
  subst e
  exact c.fpOk (FA _) (c.hok.fresh (FA _))
section
variable {X:Cx}
def l7 (p a:Addr):HO:=.ext λh=>h.IsValuesView p a
theorem Bk:MtR X "dict.values" (λx b H Q=>∃ a kvs,x=.ref a/\b=[]/\RdT H a kvs/\∀ p,H p=none->Q (.ref p) (upd H p (l7 p a))):=by
 intro pins s Y H x b v us Q I d f h
 obtain ⟨a,kvs,rfl,rfl,g,q⟩:=h
 cases d
 cases f
 obtain ⟨y,es,⟨ep,raw⟩,sz,ent⟩:=oW I.hok g
 refine call_meetsIn PySem.F.slot_dict_values raw.typeIs PySem.F.entry_dict_values (PySem.F.args_dict_values_1 _) (kI a y) #[#[es,_,raw],?_]
 refine #[.ref s.heap.objs.size,_,I.laid (a:=s.heap.objs.size) (o:=l7 s.heap.objs.size a) (t':=s.toks) (λ_ _ q=>Fg _ q) (FA _) ?_,rfl,q _ (I.hok.fresh (FA _))]
 exact #[#[_,Fs _ rfl,rfl,rfl],#[_,Fs _ rfl],λh1 h2 #[o,e,c] k=>#[o,k o e,c]]
theorem Walks.rawVals {prog:Program} {w:World} {A:Around} (n:A.handled=none) (I d:Addr) (j:d≠I) (es:Array DictEntry) (ep:Nat) :
  Walks prog w A I [I,d] [I] es.size (λi v=>∃ h:i < es.size,v=es[i].val) (λi h=>h.IsValIter I d i es.size ep/\RawAt h d es ep) where
 sub:=λb a=>by simp at a;simp[a]
 frame:=λ_ _ _ st m=>#[st.1.at λo e=>m I (by simp) o e,let #[o,l,r]:=st.2;#[o,m d (by simp) o l,r]]
 item:=λi s Q E hi st c=>by
  refine pK st.1 st.2 hi λh' f g=>?_
  exact c _ h' s.toks #[hi,rfl] #[f,let #[o,l,r]:=st.2;#[o,g.extBut d o j l,r]] λb o a e=>g.extBut b o (λh=>a (by simp[h])) e
 done:=λs Q E st c=>rg n st.1 st.2 (FA _) λh' k=>c h' s.toks λb o a e=>k b o (λh=>a (by simp[h])) e
 self:=λ_ _ _ _ st c=>wpAny_pyIter_valiter st.1 c
def Cc:List V->Hp->VK->Prop:=λxs H Q=>∃ (p a:Addr) (kvs:List (List Key×V)) (ns:List Int),xs=[.ref p]/\H p=some (l7 p a)/\RdT H a kvs/\kvs.map (·.2)=ns.map V.int/\ns≠[]/\∀ m,m∈ns->(∀ n∈ns,n<=m)->Q (.int m) H
theorem vS (J:X.calm=true):CallR X (.builtin "max") Cc:=by
 intro pins s Y H xs us Q I B h
 obtain ⟨p,a,kvs,ns,rfl,D,F,f,m,q⟩:=h
 obtain ⟨u,rfl,z⟩:=B.one
 cases z
 obtain ⟨y,es,⟨ep,raw⟩,sz,ent⟩:=oW I.hok F
 have view:s.heap.IsValuesView p a:=(I.hok p _ D).1
 have hlen:kvs.length=ns.length:=by have:=congrArg List.length f;simpa using this
 have g:0 < es.size:=by rw[sz,hlen];exact List.length_pos_iff.mpr m
 have val:∀ i (hi:i < es.size),∃ t,es[i].val=.int (ns[i]'(by lia)) t:=λi hi=>by
  have d:kvs[i]?=some (kvs[i]'(by lia)):=Fo _
  obtain ⟨b,_,_,r⟩:=ent i hi _ d
  have e:(kvs[i]'(by lia)).2=V.int (ns[i]'(by lia)):=by
   have:=congrArg (λl=>l[i]?) f
   simp only[Fz] at this
   rw[d,Fo (show i < ns.length by lia)] at this
   simpa using this
  rw[e] at r
  exact r
 have c:a < s.heap.objs.size:=by obtain ⟨o,e,_⟩:=raw;exact Fp e
 refine call_max_walk (lJ view raw ?_)
 refine #[s.heap.objs.size,_,_,_,_,_,λi j=>decide ((ns[j]?).getD 0 < (ns[i]?).getD 0),rfl,Walks.rawVals (A:=X.A.in1) (I.ok.hd J) s.heap.objs.size a (FD c) es ep,#[#[_,Fs _ rfl,rfl,rfl],let #[o,E,r]:=raw;#[o,Fg _ E,r]],?_,g,?_,?_]
 .intro b k
  rw[FX]
  simp at k
  rcases k with e | e <;> rw[e]
  .exact Nat.lt_succ_self _
  .exact Nat.lt_succ_of_lt c
 .have:=CmpOf.ints_gt (prog:=X.prog) (w:=X.w) (A:=X.A.in1) (P:=λi v=>∃ h:i < es.size,v=es[i].val) (λi=>(ns[i]?).getD 0) λi v #[hi,e]=>by
   obtain ⟨t,x⟩:=val i hi
   exact #[t,by rw[e,x,Fo (show i < ns.length by lia)];rfl]
  exact this
 .intro v h' tk ⟨k,e⟩ G
  obtain ⟨t,x⟩:=val _ k
  obtain ⟨b1,b2⟩:=argBest_gt (λi=>(ns[i]?).getD 0) (es.size - 1)
  refine #[.int _,H,I.kept (λb o e=>G b o (by simp;exact FD (Fp e)) (Fg _ e)),#[t,by rw[e,x]],q _ (List.getElem_mem _) λn C=>?_]
  obtain ⟨i,hi,rfl⟩:=List.getElem_of_mem C
  have:=b2 i (by lia)
  rw[Fo hi,Fo (show argBest _ (es.size - 1) < ns.length by lia)] at this
  exact this
end
def mz (h:Heap) (b:Addr) (n:Int×Int):Prop:=∃ o t u m,h.get? b=some o/\o.cls=.type "tuple"/\o.data=.seq (List.toArray [.int n.1 t,.int n.2 u]) m
def ltP (x y:Int×Int):Bool:=decide (x.1 < y.1\/(x.1=y.1/\x.2 < y.2))
section
variable {prog:Program} {w:World} {A:Around} {E:Value->Shared->Prop} {s:Shared}
theorem oC (m:mz s.heap a x) (n:mz s.heap b y) (h:P (.done (.ret (.bool (ltP x y)))) s) :
  wpAny (model prog w) A (Builtin.«tuple.__lt__» #[[.ref a,.ref b],[]]) P E s:=by
 obtain ⟨p,t1,i,na,d,o,k⟩:=m
 obtain ⟨ob,l,f,nb,c,g,j⟩:=n
 show wpAny _ _ (isInstance (.ref b) (.type "tuple") >>= _) _ _ s
 refine Fb (wpAny_isInstance (T:="tuple") #[ob,c,g] isSubtype_tuple_tuple ?_)
 simp only[Bool.not_true,FU,if_false]
 refine Fb (wpAny_tupleItemsOf d k ?_)
 refine Fb (wpAny_tupleItemsOf c j ?_)
 refine Fb ?_
 show wpAny _ _ (forIn [(Value.int x.1 t1,Value.int y.1 l),(Value.int x.2 i,Value.int y.2 f)] _ _) _ _ s
 rw[List.forIn_cons]
 refine Fb ?_
 refine Fb ((intKind prog w).eqBool (a:=x.1) (b:=y.1) (by simp[intKind,Value.isInt]) (by simp[intKind,Value.isInt]) ?_)
 by_cases h1:x.1=y.1
 .rw[FH h1]
  simp only[Bool.not_true,FU,if_false]
  refine Fc ?_
  show wpAny _ _ (forIn [(Value.int x.2 i,Value.int y.2 f)] _ _) _ _ s
  rw[List.forIn_cons]
  refine Fb ?_
  refine Fb ((intKind prog w).eqBool (a:=x.2) (b:=y.2) (by simp[intKind,Value.isInt]) (by simp[intKind,Value.isInt]) ?_)
  by_cases h2:x.2=y.2
  .rw[FH h2]
   simp only[Bool.not_true,FU,if_false]
   refine Fc ?_
   show wpAny _ _ (forIn ([]:List (Value×Value)) _ _) _ _ s
   rw[List.forIn_nil]
   refine Fc (Fc ?_)
   have e:ltP x y=false:=by unfold ltP;simp;lia
   rw[e] at h
   exact h
  .rw[FI h2]
   simp only[Bool.not_false,if_true]
   refine Fb (wpAny_rule (Fb ?_))
   refine (lt_int (a:=x.2) (b:=y.2) ?_:wpAny (model prog w) A (compareOp .Lt (.int x.2 i) (.int y.2 f)) _ _ _)
   refine Fb (Fc (Fc (Fc (Fc ?_))))
   have e:ltP x y=decide (x.2 < y.2):=by unfold ltP;simp[h1]
   rw[e] at h
   exact h
 .rw[FI h1]
  simp only[Bool.not_false,if_true]
  refine Fb (wpAny_rule (Fb ?_))
  refine (lt_int (a:=x.1) (b:=y.1) ?_:wpAny (model prog w) A (compareOp .Lt (.int x.1 t1) (.int y.1 l)) _ _ _)
  refine Fb (Fc (Fc (Fc (Fc ?_))))
  have e:ltP x y=decide (x.1 < y.1):=by unfold ltP;simp[h1]
  rw[e] at h
  exact h
theorem A0 (hu:A.units < cLine) (f:mz s.heap a x) (d:mz s.heap b y) (h:Q (.bool (ltP x y)) s) :
  wpAny (model prog w) A (richCompare .Lt (.ref a) (.ref b)) Q E s:=by
 have ta:s.TypeIs (.ref a) "tuple":=let #[o,_,_,_,e,c,_]:=f;#[o,e,c]
 have tb:s.TypeIs (.ref b) "tuple":=let #[o,_,_,_,e,c,_]:=d;#[o,e,c]
 exact wpAny_richCompare_same_room (op:=.Lt) ta tb F.slot_tuple_lt (wpAny_call_entry F.slot_tuple_lt ta F.entry_tuple_lt (oC f d #[_,rfl,(λe=>nomatch e),h]) (F.args_tuple_lt_2 _ _)) hu
end
def my (ns:List (Int×Int)) (j:Nat) (k:Nat):Prop:=k < j/\∀ i,i < j->∀ x y,ns[i]?=some x->ns[k]?=some y->ltP x y=false
theorem vn (h1:ltP x y=true) (h2:ltP z y=false):ltP z x=false:=by
 unfold ltP at *
 simp at *
 lia
def mx (h:Heap) (bs:List Addr) (ns:List (Int×Int)):Prop:=∀ (i:Nat) (b:Addr),bs[i]?=some b->∃ n,ns[i]?=some n/\mz h b n
def Cv (b:Option Addr):Array Value:=match b with | none=>(List.toArray []) | some a=>(List.toArray [.ref a,.ref a])
section
variable {prog:Program} {w:World} {A:Around} {R:Result->Shared->Prop}
theorem vf (hh:A.handled=none) (hu:A.units+1 < cLine) (a3:l≠I) (z:S≠I) (W:S≠l) (bs:List Addr) (ns:List (Int×Int)) (X:∀ b∈bs,b≠I) (τ:∀ b∈bs,b≠S) :
  ∀ (k j:Nat) (s:Shared) (m:Option Nat) (c:Nat),bs.length - j=k->j<=bs.length->s.heap.IsListIter I l j->s.heap.IsList l (bs.map Value.ref).toArray->mx s.heap bs ns ->
  s.heap.get? S=some { cls:=.type "list",dict:=none,data:=.seq (Cv (m.bind (bs[·]?))) c,slots:=(List.toArray []) }->(match m with | none=>j=0 | some m=>my ns j m)->0 < bs.length ->
  (∀ m b h' tk,bs[m]?=some b->my ns bs.length m->(∀ a o,a≠I->a≠S->s.heap.get? a=some o->h'.get? a=some o)->R (.ok (.ret (.ref b))) { s with heap:=h',toks:=tk }) ->
  codeAny (model prog w) A (.builtin "min.loop" #[[.ref I,.none,.ref S],[]]) R s:=by
 have nm:(toString "min"++toString ".loop":String)="min.loop":=by decide
 intro k
 induction k with
 | zero =>
  intro j s m c hk hj hit P hp M f h fin
  obtain rfl:j=bs.length:=by lia
  refine codeAny_builtin F.entry_min_loop ?_
  rw[Around.under_plainId F.plain_min_loop _]
  show wpAny _ A.in1 (seqItems? (.ref S) >>= _) _ _ s
  refine Fb (wpAny_seqItems M rfl ?_)
  show wpAny _ A.in1 (tryCatch (pyNext (.ref I)) _ >>= _) _ _ s
  refine Fb (wpAny_tryCatch (wpAny_pyNext_list_end (show A.in1.handled=none from hh) hit P (by simp) λh' eb=>?_))
  cases m with
  | none=>have:bs.length=0:=f;lia
  | some m =>
   have hm:m < bs.length:=f.1
   have H:bs[m]?=some bs[m]:=Fo hm
   have d:=eb S _ z M
   simp only[Option.bind_some,H] at d ⊢
   show wpAny _ A.in1 (updateSeq S (λ_=>(List.toArray [])) >>= _) _ _ _
   refine Fb (wpAny_updateSeq d rfl (Fb (wpAny_letGo (Fc ?_))) (hz:=by show 2<=sizeLine;decide))
   exact fin m _ _ s.toks H f λa o p Q e=>(FW _ _ (Ne.symm Q)).trans (eb a o p e)
 | succ k ih =>
  intro j s m c hk hj hit P hp M f h fin
  have J:j < bs.length:=by lia
  have N:bs[j]?=some bs[j]:=Fo J
  have hv:(bs.map Value.ref).toArray[j]?=some (.ref bs[j]):=by simp[N]
  refine codeAny_builtin F.entry_min_loop ?_
  rw[Around.under_plainId F.plain_min_loop _]
  show wpAny _ A.in1 (seqItems? (.ref S) >>= _) _ _ s
  refine Fb (wpAny_seqItems M rfl ?_)
  show wpAny _ A.in1 (tryCatch (pyNext (.ref I)) _ >>= _) _ _ s
  refine Fb (wpAny_tryCatch (wpAny_pyNext_list_item hit P hv λh' K sb=>?_))
  have d:h'.get? S=_:=(sb.2 S z).trans M
  have bb:h'.IsList l (bs.map Value.ref).toArray:=P.at λo e=>(sb.2 l a3).trans e
  have pk:∀ {h1 h2:Heap},(∀ b∈bs,∀ o,h1.get? b=some o->h2.get? b=some o)->mx h1 bs ns->mx h2 bs ns:=λ{h1 h2} k q i b e=>by
   obtain ⟨n,e1,o,t,u,m,e2,e3⟩:=q i b e
   exact #[n,e1,o,t,u,m,k b (Fv e) o e2,e3]
  have r:mx h' bs ns:=pk (λb f o e=>(sb.2 b (X b f)).trans e) hp
  have on:∀ (h2:Heap) (tk:Nat) (O:Option Nat) (c':Nat),(∀ a o,a≠S->h'.get? a=some o->h2.get? a=some o)->h2.get? S=some { cls:=.type "list",dict:=none,data:=.seq (Cv (O.bind (bs[·]?))) c',slots:=(List.toArray []) }->(match O with | none=>j+1=0 | some m=>my ns (j+1) m) ->
    codeAny (model prog w) A (.builtin "min.loop" #[[.ref I,.none,.ref S],[]]) R { s with heap:=h2,toks:=tk }:=λh2 tk O c' k2 T V =>
   ih (j+1) _ O c' (by lia) J (K.at λo e=>k2 I o (Ne.symm z) e) (bb.at λo e=>k2 l o (Ne.symm W) e) (pk (λb f o e=>k2 b o (τ b f) e) r) T V h λv b h3 az a0 ar k3=>fin v b h3 az a0 ar λa o p Q e=>k3 a o p Q (k2 a o Q ((sb.2 a p).trans e))
  obtain ⟨nj,E,σ⟩:=r j _ N
  cases m with
  | none =>
   have h0:j=0:=f
   show wpAny _ A.in1 (updateSeq S (λ_=>(List.toArray [.ref bs[j],.ref bs[j]])) >>= _) _ _ _
   refine Fb (wpAny_updateSeq d rfl ?_ (hz:=by show 0<=sizeLine;exact Nat.zero_le _))
   rw[nm]
   refine Fc #[plainId_quiet F.plain_min_loop _,on _ s.toks (some j) (c+1) (λa o p e=>(FW _ _ (Ne.symm p)).trans e) ?_ #[by lia,λi hi x y h1 h2=>?_]]
   .simp only[Option.bind_some,N]
    exact FL _ d rfl
   .obtain rfl:i=j:=by lia
    rw[h1] at h2;cases h2
    unfold ltP;simp
  | some m =>
   obtain ⟨hm,hle⟩:=f
   have B:bs[m]?=some bs[m]:=Fo (by lia)
   obtain ⟨C,L,ρ⟩:=r m _ B
   simp only[Option.bind_some,B] at d ⊢
   show wpAny _ A.in1 (tryCatch (holding [.ref bs[j],.ref bs[j]] (richCompare .Lt (.ref bs[j]) (.ref bs[m]) >>= _)) _ >>= _) _ _ _
   refine Fb (wpAny_tryCatch (Fd (Fb ?_)))
   refine A0 (A:=A.in1) (show A.units+1 < cLine from hu) σ ρ ?_
   refine Fb (Fd (FY (Fb (wpAny_letGo (Fc ?_)))))
   by_cases G:ltP nj C=true
   .rw[G,if_pos rfl]
    refine Fb (wpAny_updateSeq d rfl (Fb (wpAny_letGo ?_)) (hz:=by show 2<=sizeLine;decide))
    rw[nm]
    refine Fc #[plainId_quiet F.plain_min_loop _,on _ s.toks (some j) c (λa o p e=>(FW _ _ (Ne.symm p)).trans e) ?_ #[by lia,λi hi x y h1 h2=>?_]]
    .simp only[Option.bind_some,N]
     exact FL _ d rfl
    .rw[E] at h2;cases h2
     by_cases D:i=j
     .subst D
      rw[E] at h1;cases h1
      unfold ltP;simp
     .exact vn G (hle i (by lia) x C h1 L)
   .have g:ltP nj C=false:=by simpa using G
    rw[g,if_neg FC]
    refine Fb (wpAny_letGo ?_)
    rw[nm]
    refine Fc #[plainId_quiet F.plain_min_loop _,on h' s.toks (some m) c (λa o _ e=>e) (by simp only[Option.bind_some,B];exact d) #[by lia,λi hi x y h1 h2=>?_]]
    by_cases D:i=j
    .subst D
     rw[E] at h1;cases h1
     rw[L] at h2;cases h2
     exact g
    .exact hle i (by lia) x y h1 h2
end
section
variable {prog:Program} {w:World} {A:Around} {E:Value->Shared->Prop} {s:Shared}
theorem vL (y:A.handled=none) (hu:A.units+1 < cLine) (p:s.heap.IsList l (bs.map Value.ref).toArray) (r:mx s.heap bs ns) (j:0 < bs.length) (h:∀ m b h' tk,bs[m]?=some b->my ns bs.length m->(∀ b o,s.heap.get? b=some o->h'.get? b=some o)->Q (.ref b) { s with heap:=h',toks:=tk }) :
  wpAny (model prog w) A (call (.builtin "min") [.ref l]) Q E s:=by
 have a:(toString "min"++toString ".loop":String)="min.loop":=by decide
 refine call_function_tree F.kind_min F.plain_min F.entry_min (F.args_min1 _) ?_
 show wpAny _ A.in1 (Builtin.Builtins.bindParams "min" ["key","default"] 0 #[[],[]] >>= _) _ _ s
 refine Fb (wpAny_of_eq (show Builtin.Builtins.bindParams "min" ["key","default"] 0 #[[],[]]=pure [none,none] from rfl) ?_)
 refine Fb (Fc ?_)
 refine Fb (wpAny_pyIter_list p ?_)
 refine Fb (wpAny_newObj_type ?_)
 rw[a]
 have d:l < s.heap.objs.size:=by obtain ⟨_,e,_⟩:=p;exact Fp e
 have hsz:(s.heap.push { cls:=.type "list_iterator",data:=.fields (List.toArray [.ref l,.int 0 0]) }).objs.size=s.heap.objs.size+1:=FX _ _
 have a1:(s.heap.push { cls:=.type "list_iterator",data:=.fields (List.toArray [.ref l,.int 0 0]) }).objs.size≠s.heap.objs.size:=by rw[hsz];exact Nat.succ_ne_self _
 have a2:(s.heap.push { cls:=.type "list_iterator",data:=.fields (List.toArray [.ref l,.int 0 0]) }).objs.size≠l:=by rw[hsz];exact Nat.ne_of_gt (Nat.lt_succ_of_lt d)
 have f:∀ b∈bs,b < s.heap.objs.size:=λb g=>by
  obtain ⟨i,hi,e⟩:=List.getElem_of_mem g
  obtain ⟨_,_,o,_,_,_,k,_⟩:=r i b (by rw[Fo hi,e])
  exact Fp k
 refine Fc ⟨plainId_quiet F.plain_min_loop _,vf (A:=A) y hu (I:=s.heap.objs.size) (l:=l) (FD d) a1 a2 bs ns (λb g=>FD (f b g)) (λb g=>by rw[hsz];exact FD (Nat.lt_succ_of_lt (f b g))) bs.length 0 _ none 0 (by lia) (by lia)
  ⟨_,Fg _ (Fs _ rfl),rfl,rfl⟩ (p.at λo e=>Fg _ (Fg _ e)) (λi b e=>?_) (Fs _ rfl) rfl j λm b h' tk hm z x=>?_⟩
 .obtain ⟨n,e1,o,t,u,m,k,v⟩:=r i b e
  exact #[n,e1,o,t,u,m,Fg _ (Fg _ k),v]
 .refine h m b h' tk hm z λc o e=>x c o (λq=>?_) (λq=>?_) (Fg _ (Fg _ e))
  .exact absurd q (FD (Fp e))
  .exact absurd (q.trans hsz) (FD (Nat.lt_succ_of_lt (Fp e)))
end
section
variable {X:Cx}
def Ca (K:FG):List V->Hp->VK->Prop:=λxs H Q=>∃ (l:Addr) (bs:List Addr) (ns:List (Int×Int)),xs=[.ref l]/\SqL K H l (bs.map V.ref)/\(∀ (i:Nat) (b:Addr),bs[i]?=some b->∃ n,ns[i]?=some n/\H b=some (.tup [.int n.1,.int n.2]))/\bs≠[] /\
 ∀ m b,bs[m]?=some b->my ns bs.length m->Q (.ref b) H
theorem m5:∀ {bs:List Addr} {its:List Value},Vals (bs.map V.ref) its->its=bs.map Value.ref
 | [],_,.nil=>rfl
 | b::bs,_,.cons r t=>by cases r;rw[m5 t];rfl
theorem vN (x:X.calm=true) (hu:X.A.units+1 < cLine):CallR X (.builtin "min") (Ca X.K):=by
 intro pins s Y H xs us Q I f h
 obtain ⟨l,bs,ns,rfl,z,j,a,q⟩:=h
 obtain ⟨u,rfl,d⟩:=eE f
 cases (show u=Value.ref l from d)
 obtain ⟨its,g,p,hz⟩:=I.list z
 have pl:=p.isList
 rw[m5 g] at pl
 refine vL (I.ok.hd x) hu pl (ns:=ns) (λi b e=>?_) (List.length_pos_iff.mpr a) λm b h' tk hm y v=>#[.ref b,H,I.kept v,rfl,q m b hm y]
 obtain ⟨n,e1,c⟩:=j i b e
 obtain ⟨_,its,r,o,h1,h2,k,h3⟩:=(show ObjOk X.prog X.w H s.heap b (.tup [.int n.1,.int n.2]) from I.hok b _ c)
 refine #[n,e1,?_]
 cases r with
 | cons r1 r =>
  cases r with
  | cons r2 r =>
   cases r
   obtain ⟨t,rfl⟩:=r1
   obtain ⟨u,rfl⟩:=r2
   exact #[o,t,u,k,h1,h2,congrArg Prod.fst h3]
end
end L2
end
section
namespace PyProof.Rows
open PySem
end PyProof.Rows
end
section
namespace L2
open PySem PySem.Spec PyProof.Rows
section
variable {prog:Program} {w:World} {A:Around} {E:Value->Shared->Prop} {s:Shared} {knd:KeyKind prog w Key}
theorem xS {xs:List (List Key×Addr×Value)} (b:(xs.map λx=>tupleKeyHash knd x.1).Nodup) {x:List Key×Addr×Value} (a:x∈xs) :
  ((xs.map (entryOfKey (tupleKind knd))).filter (·.hash == tupleKeyHash knd x.1)).length<=1:=by
 induction xs with
 | nil=>cases a
 | cons y ys ih =>
  obtain ⟨h1,h2⟩:=List.nodup_cons.mp b
  rw[FF,List.filter_cons]
  by_cases e:tupleKeyHash knd y.1=tupleKeyHash knd x.1
  .rw[if_pos (by exact beq_iff_eq.mpr e),FO]
   have:(ys.map (entryOfKey (tupleKind knd))).filter (·.hash == tupleKeyHash knd x.1)=[]:=by
    refine List.filter_eq_nil_iff.mpr λz hz h=>?_
    obtain ⟨u,hu,rfl⟩:=Fy.mp hz
    exact h1 (Fy.mpr #[u,hu,(beq_iff_eq.mp h).trans e.symm])
   rw[this];exact FA _
  .rw[if_neg (by intro h;exact e (beq_iff_eq.mp h))]
   rcases Fm.mp a with z | a
   .exact absurd (by rw[z]) e
   .exact ih h2 a
theorem lr {id:String} {d:Addr} {o:Obj} {es ep} {xs:List (List Key×Addr×Value)} {Q:Array DictEntry->Shared->Prop} (i:s.heap.get? d=some o) (hd:o.data=.dict es ep)
  (he:es.toList=xs.map (entryOfKey (tupleKind knd))) (j:∀ x∈xs,IsTupleKey knd s.heap x.1 x.2.1) (g:(xs.map λx=>tupleKeyHash knd x.1).Nodup) (h:Q es s) :
  wpAny (model prog w) A (Builtin.Dict.entriesForEmpty id d) Q E s:=by
 unfold Builtin.Dict.entriesForEmpty
 refine Fb (wpAny_dictEntries i hd ?_)
 refine Fb ?_
 rw[<- Array.forIn_toList]
 refine wpAny_forIn_list _ (λde _ s'=>s'=s/\∀ e∈de,e∈es.toList) _ ?_ ?_ _ _ #[rfl,λ_ h=>h]
 .rintro e de b s' ⟨rfl,a⟩
  have hm:=a e Fe
  rw[he] at hm
  obtain ⟨x,f,rfl⟩:=Fy.mp hm
  show wpAny _ _ (Builtin.Dict.quietEq (.ref x.2.1) >>= _) _ _ _
  refine Fb ?_
  unfold Builtin.Dict.quietEq
  refine Fb (wpAny_specialOf (j x f).typeIs F.slot_tuple_eq.lookup (Fc ?_))
  have c:¬ (es.filter (·.hash == tupleKeyHash knd x.1)).size > 1:=by
   have:=xS g f
   rw[<- he] at this
   have k:(es.filter (·.hash == tupleKeyHash knd x.1)).size=(es.toList.filter (·.hash == tupleKeyHash knd x.1)).length:=by
    rw[<- Array.toList_filter,Array.length_toList]
   lia
  rw[if_pos (by decide)]
  show wpAny _ _ (ite ((es.filter (·.hash == tupleKeyHash knd x.1)).size > 1) _ _) _ _ _
  rw[if_neg c]
  exact Fc #[rfl,λu hu=>a u (Ff _ hu)]
 .rintro b s' ⟨rfl,_⟩
  exact Fc h
theorem oH {nm:String} {d o:Addr} {i:Obj} {xs:List (List Key×Addr×Value)} {n:Nat} {Q:Unit->Shared->Prop} (l:d≠o) (J:(o == sysModules)=false)
  (c:s.heap.get? d=some i) (j:i.ExactDict) (b:i.data=.dict (List.toArray []) 0) (I:DictOfHE (tupleKind knd) s.heap o xs n) (K:(xs.map λx=>tupleKeyHash knd x.1).Nodup) (hsz:xs.length<=sizeLine)
  (r:∀ h',DictOfHE (tupleKind knd) h' d xs (xs.length - 1)->Heap.SameBut d s.heap h'->Q () { s with heap:=h' }) :
  wpAny (model prog w) A (Builtin.Dict.mergeDict nm d o) Q E s:=by
 obtain ⟨q,es,ep,f,z,a,he,p,v,F⟩:=id I
 have k:es.size=xs.length:=by rw[<- Array.length_toList,he,Ft]
 have D:(d == o)=false:=beq_eq_false_iff_ne.mpr l
 cases xs with
 | nil =>
  have t:es=(List.toArray []):=Array.toList_eq_nil_iff.mp he
  subst t
  have fin:=r s.heap #[i,(List.toArray []),0,c,j,b,rfl,λ_ h=>(by cases h),List.nodup_nil,rfl] (Heap.SameBut.refl _ _)
  obtain ⟨c1,G,H,s1⟩:=i
  obtain ⟨c2,C,u,s2⟩:=q
  obtain ⟨B,g,L,tk,os⟩:=s
  simp only at b a
  subst b a
  unfold Builtin.Dict.mergeDict
  wp_walk
  rw[if_neg (by simp)]
  refine Fb (wpAny_dictEpoch f rfl (Fb (wpAny_dictEntries f rfl (Fb ?_))))
  rw[Std.Legacy.Range.forIn_eq_forIn_range']
  exact Fc (Fc fin)
 | cons x xs =>
  have m:(decide (es.size<=8) && es.all λe=>(keyPart e.key).isSome)=false:=by
   rw[<- Array.all_toList,he,FF,List.all_cons]
   show (_ && (false && _))=false
   rw[Bool.false_and,Bool.and_false]
  have ne:es.isEmpty=false:=by
   cases h:es.isEmpty with
   | false=>rfl
   | true=>rw[Array.isEmpty_iff.mp h] at k;simp at k
  have fin:=λh' (h1:DictOfHE (tupleKind knd) h' d (x::xs) xs.length) h2=>r h' h1 h2
  have keep:=λh' (h2:Heap.SameBut d s.heap h') y (M:y∈x::xs)=>(tupleKind knd).keeps (p y M) c b h2
  have ent:=λ(A:Around) (E:Value->Shared->Prop) (Q:Array DictEntry->Shared->Prop)=>lr (A:=A) (E:=E) (Q:=Q) (id:=nm) (s:=s) f a he p K
  obtain ⟨c1,G,H,s1⟩:=i
  obtain ⟨c2,C,u,s2⟩:=q
  obtain ⟨B,g,L,tk,os⟩:=s
  simp only at b a
  subst b a
  unfold Builtin.Dict.mergeDict
  wp_walk
  rw[m,if_pos (by decide)]
  refine Fb (wpAny_dictEntries c rfl ?_)
  rw[if_pos (by decide)]
  refine Fb (ent _ _ _ ?_)
  rw[ne,if_pos (by decide)]
  refine Fb (wpAny_updateDictKeysTo c rfl (Fc (fin _ #[_,_,0+1,FL _ c rfl,j.mapDictKeys _,rfl,he,keep _ (Heap.SameBut.update ..),v,?_] (Heap.SameBut.update ..))) (by rw[k];omega))
  rw[k,FO];omega
end
section
variable {X:Cx}
def dG (ns:List Int):Int:=reduceHash (Builtin.Tuple.tupleHashOf (ns.map hashInt))
theorem qi {P:Program} {w:World} (ns:List Int):tupleKeyHash (aU P w) (ns.map Sum.inl)=dG ns:=by
 unfold tupleKeyHash dG
 rw[F4]
 rfl
def xx:List V->Hp->VK->Prop:=λxs H Q=>∃ (a:Addr) (kvs:List (List Key×V)) (ns:List (List Int)),xs=[.ref a]/\RdT H a kvs/\kvs.map (·.1)=ns.map (λn=>n.map Sum.inl)/\(ns.map dG).Nodup /\
 ∀ p,H p=none->Q (.ref p) (upd H p (.dT kvs (kvs.length - 1)))
theorem KT.keys {H:Hp} {kvs:List (List Key×V)} {xs:List (List Key×Addr×Value)} (r:KT H kvs xs):kvs.map (·.1)=xs.map (·.1):=by
 induction r with
 | nil=>rfl
 | cons h _ ih=>rw[FF,FF,ih,h.1]
theorem sk:CallR X (.type "dict") xx:=by
 intro pins s Y H xs us Q I C h
 obtain ⟨a,kvs,ns,rfl,⟨m,G⟩,K,D,q⟩:=h
 obtain ⟨u,rfl,v⟩:=C.one
 cases v
 obtain ⟨z,y,xs,r,L⟩:=mj I.hok G
 have S:kvs.length=xs.length:=by have:=congrArg List.length r.keys;simpa using this
 have N:(xs.map λx=>tupleKeyHash (aU X.prog X.w) x.1).Nodup:=by
  have e:(xs.map λx=>tupleKeyHash (aU X.prog X.w) x.1)=ns.map dG:=by
   have:(xs.map λx=>tupleKeyHash (aU X.prog X.w) x.1)=(xs.map (·.1)).map (tupleKeyHash (aU X.prog X.w)):=by rw[F4];rfl
   rw[this,<- r.keys,K,F4]
   exact F5 λn _=>qi n
  rw[e];exact D
 obtain ⟨o,es,ep,g1,g2,g3,g,k,i,f⟩:=id L
 have R:=Fp g1
 refine callType_codes (Q₁:=λobj p=>obj=.ref s.heap.objs.size/\p={ s with heap:=s.heap.push { cls:=.type "dict",data:=.dict (List.toArray []) } }) PySem.F.kt_called_dict (PySem.F.kt_typeCall_dict_1 _) PySem.F.entry_dict_init (kt_code_dict_new _ #[rfl,rfl]) ?_
 rintro obj p ⟨rfl,rfl⟩
 have l:(s.heap.push { cls:=.type "dict",data:=.dict (List.toArray []) }).get? s.heap.objs.size=some _:=Fs _ rfl
 have O:Shared.TypeIs { s with heap:=s.heap.push { cls:=.type "dict",data:=.dict (List.toArray []) } } (.ref s.heap.objs.size) "dict":=#[_,l,rfl]
 have d:=Fg { cls:=.type "dict",data:=.dict (List.toArray []) } g1
 have J:Shared.TypeIs { s with heap:=s.heap.push { cls:=.type "dict",data:=.dict (List.toArray []) } } (.ref a) "dict":=#[_,d,g2.1]
 refine #[O,PySem.F.args_dict_init_2 _ _,?_]
 have up:∀ c u,s.heap.get? c=some u->(s.heap.push { cls:=.type "dict",data:=.dict (List.toArray []) }).get? c=some u:=λc u e=>Fg _ e
 have sub:=isSubtype_dict_dict
 have T:=F.slot_dict_iter.lookup
 have c0:=g2.1
 obtain ⟨V,W,τ,M⟩:=o
 simp only at c0
 subst c0
 unfold Builtin.«dict.__init__»
 wp_walk
 show wpAny _ _ (Builtin.Dict.mergeDict "dict.__init__" s.heap.objs.size a) _ _ _
 refine oH (knd:=aU X.prog X.w) (n:=m) (Nat.ne_of_gt R) y l #[rfl,rfl,rfl] rfl #[_,es,ep,d,g2,g3,g,λx E=>?_,i,f] N (by omega) λh' d' P=>?_
 .obtain ⟨o,its,n,e1,t,B,A⟩:=k x E
  exact #[o,its,n,up _ _ e1,t,B,A]
 show wpAny _ _ (Builtin.Dict.addKeywords s.heap.objs.size [] >>= _) _ _ _
 refine Fb (Fc (Fc #[rfl,?_]))
 have j:=I.hok.fresh (FA s.heap.objs.size)
 refine #[.ref s.heap.objs.size,_,I.laid (a:=s.heap.objs.size) (o:=.dT kvs (kvs.length - 1)) (t':=s.toks) (λb u e=>?_) (FA _) #[z,beq_eq_false_iff_ne.mpr (Nat.ne_of_gt I.big),xs,r.keeps λb ys e=>?_,?_],rfl,q _ j]
 .exact (P.2 b (FD (Fp e))).trans (up b u e)
 .rw[aD]
  .exact e
  .intro x;rw[x] at e;rw[j] at e;cases e
 .obtain ⟨o,es,ep,g1,g2,g3,g,k,i,f⟩:=d'
  exact #[o,es,ep,g1,g2,g3,g,i,by rw[S];exact f]
end
def IsNts (h:Heap) (b:Addr) (n:List Int):Prop:=∃ it:Array Value,IsTup h b it/\IntsAre it.toList n
abbrev fJ (f:Bool):SortKind:=(sortPriv% PySem.Builtin.KeyKind.tuples) f
section
variable {prog:Program} {w:World} {A:Around} {E:Value->Shared->Prop} {s:Shared}
theorem rA (f:Bool) {a b:Int} (h:Q (decide (a < b)) s):wpAny (model prog w) A (oneLt' f (.int a t) (.int b u)) Q E s:=by
 cases f with
 | true=>exact oneLt_int h
 | false =>
  rw[oneLt'_eq]
  simp only[FU,if_false]
  refine Fb (HT.rcLt_int A s a t b u prog w E _ ?_)
  exact FY h
theorem nF (f:Bool) (n m:Nat) {k:Option Bool×Unit->Sem Bool} (l:∀ p q i c,g ((p,q),i) c=(do
          let b <- eqBool p q
          if (!b)=true then do
            let r <- oneLt' (f && i == 0) p q
            pure (ForInStep.done (some r,()))
          else pure (ForInStep.yield (none,())))) (h:∀ b,k (some b,())=pure b) (d:k (none,())=pure (decide (n < m))):∀ (j ws:List Value) (ns ms:List Int) (i:Nat),IntsAre j ns->IntsAre ws ms->ns.length+m=ms.length+n->Q (HT.lexLt ns ms) s ->
    wpAny (model prog w) A (forIn ((j.zip ws).zipIdx i) ((none,()):Option Bool×Unit) g) (λr s'=>wpAny (model prog w) A (k r) Q E s') E s
  | [],ws,ns,ms,i,h1,h2,hl,q=>by
    cases h1
    have e:HT.lexLt [] ms=decide (n < m):=by
      cases ms with
      | nil=>simp at hl;rw[HT.lexLt_nil_nil];exact (FI (by lia)).symm
      | cons a ms=>simp at hl;rw[HT.lexLt_nil_cons];exact (FH (by lia)).symm
    rw[e] at q
    rw[List.zip_nil_left]
    simp only[List.zipIdx_nil,List.forIn_nil]
    refine Fc ?_
    rw[d]
    exact Fc q
  | v::j,[],ns,ms,i,h1,h2,hl,q=>by
    cases h2
    cases h1 with
    | cons a t h1 =>
    rename_i ns
    have e:HT.lexLt (a::ns) []=decide (n < m):=by
      simp at hl;rw[HT.lexLt_cons_nil];exact (FI (by lia)).symm
    rw[e] at q
    rw[List.zip_nil_right]
    simp only[List.zipIdx_nil,List.forIn_nil]
    refine Fc ?_
    rw[d]
    exact Fc q
  | v::j,u::ws,ns,ms,i,h1,h2,hl,q=>by
    cases h1 with
    | cons a t h1 =>
    cases h2 with
    | cons b t2 h2 =>
    rename_i ns ms
    rw[List.zip_cons_cons,List.zipIdx_cons,List.forIn_cons,l]
    rw[HT.lexLt_cons] at q
    refine Fb (Fb ((intKind prog w).eqBool (a:=a) (b:=b) (by simp[intKind,Value.isInt]) (by simp[intKind,Value.isInt]) ?_))
    by_cases e:a=b
    . rw[if_pos e] at q
      rw[FH e]
      simp only[Bool.not_true,FU,if_false]
      refine Fc ?_
      exact nF f n m l h d j ws ns ms (i+1) h1 h2 (by simp at hl;lia) q
    . rw[if_neg e] at q
      rw[FI e]
      simp only[Bool.not_false,if_true]
      refine Fb (rA _ (Fc (Fc ?_)))
      rw[h]
      exact Fc q
theorem vx (j:IsNts s.heap a x) (l:IsNts s.heap b y) (h:Q (HT.lexLt x y) s):wpAny (model prog w) A (keyLt' (fJ f) (.ref a) (.ref b)) Q E s:=by
 obtain ⟨c,⟨q,e1,c1,p,n⟩,g⟩:=j
 obtain ⟨d,⟨r,i,c2,t,m⟩,e⟩:=l
 refine Fb (listItems_at e1 n ?_)
 refine Fb (listItems_at i m ?_)
 refine Fb ?_
 have o:x.length=c.size:=by rw[<- g.length];simp
 have k:y.length=d.size:=by rw[<- e.length];simp
 exact nF f c.size d.size (λ_ _ _ _=>rfl) (λ_=>rfl) rfl c.toList d.toList x y 0 g e (by lia) h
end
section
variable {prog:Program} {w:World} {A:Around} {E:Value->Shared->Prop} {s:Shared}
theorem yp {st:SortSt} {i j:Nat} (g:kindOf st=fJ f) (hi:(arrOf st)[i]?=some (.ref a,p)) (d:(arrOf st)[j]?=some (.ref b,q)) (e:IsNts s.heap a x) (c:IsNts s.heap b y) (h:Q (some (HT.lexLt x y)) st) :
  wpS (model prog w) A E s (ltAt' i j) Q st:=by
 rw[ltAt'_eq]
 refine wpS_bind (wpS_get ?_)
 show wpS _ _ _ _ (do let x <- elem' (arrOf st) i;let y <- elem' (arrOf st) j;lt' x y) Q st
 rw[elem'_eq,elem'_eq,hi,d]
 refine wpS_bind (wpS_pure (wpS_bind (wpS_pure ?_)))
 rw[lt'_eq]
 refine wpS_bind (wpS_get ?_)
 rw[g]
 refine wpS_bind (wpS_lift (wpAny_attempt (vx e c #[rfl,?_])))
 exact wpS_pure h
def li (h:Heap) (xs:Array Keyed):Prop:=∀ i,1<=i->i < xs.size->∃ a b p q x y,xs[i]?=some (.ref a,p)/\xs[i - 1]?=some (.ref b,q)/\IsNts h a x/\IsNts h b y/\HT.lexLt x y=false
theorem BS {st:SortSt} (j:kindOf st=fJ f) (n:li s.heap (arrOf st)) (h1:1<=(arrOf st).size) (h:Q (none,(arrOf st).size) st) :
  wpS (model prog w) A E s (ascLoop 1 (arrOf st).size) Q st:=by
 unfold ascLoop
 refine wpS_forRange (I:=λx c d=>d=st/\c=(none,x)) ?step ?fin #[rfl,rfl]
 case fin =>
  rintro c d ⟨rfl,rfl⟩
  rw[show max 1 (arrOf d).size=(arrOf d).size by lia]
  exact h
 case step =>
  rintro x c d g e ⟨rfl,rfl⟩
  dsimp only
  obtain ⟨a,b,p,q,o,k2,e1,i,k,l,m⟩:=n x g e
  refine wpS_bind (yp j e1 i k l ?_)
  rw[m]
  simp only[FU,if_false]
  exact wpS_pure #[rfl,rfl]
theorem vI {st:SortSt} (b:kindOf st=fJ f) (a:li s.heap (arrOf st)) (h1:1<=(arrOf st).size) (h:Q (some (arrOf st).size) st) :
  wpS (model prog w) A E s (countRun' 0 (arrOf st).size) Q st:=by
 rw[countRun0_eq]
 refine wpS_bind (BS b a h1 ?_)
 dsimp only
 rw[if_pos (by simp)]
 exact wpS_pure h
theorem nw:∀ (f n r:Nat),r<=1->n<=f->minRun' f n r<=n+r
 | 0,n,r,_,h=>by
  have:n=0:=by lia
  subst this
  first | exact FA _ | exact Nat.zero_le _
 | f+1,n,r,hr,h=>by
  rw[minRun'_succ]
  by_cases a:n < 64
  .rw[if_pos a];exact FA _
  .rw[if_neg a]
   have:=nw f (n / 2) (max r (n % 2)) (by lia) (by lia)
   lia
theorem wL {st:SortSt} (t:kindOf st=fJ f) (hf:failedOf st=none) (g:pendingOf st=(List.toArray [])) (p:li s.heap (arrOf st)) (h2:2<=(arrOf st).size) (h:∀ a,arrOf a=arrOf st->failedOf a=none->Q () a):wpS (model prog w) A E s sortRuns' Q st:=by
 rw[sortRuns'_eq]
 refine wpS_bind (wpS_get ?_)
 dsimp only
 have e:minRun' (arrOf st).size (arrOf st).size 0<=(arrOf st).size:=by simpa using nw (arrOf st).size (arrOf st).size 0 (by lia) (FA _)
 generalize minRun' (arrOf st).size (arrOf st).size 0=mr at e
 generalize i:(arrOf st).size=n at *
 refine wpS_bind (wpS_mono (wpS_forRange
  (I:=λx c a=>(x=0/\c=(none,0)/\a=st)\/(1<=x/\c=(none,n)/\arrOf a=arrOf st/\failedOf a=none/\pendingOf a=(List.toArray [(0,n,0)])))
  (Q:=λc a=>c=(none,n)/\arrOf a=arrOf st/\failedOf a=none/\pendingOf a=(List.toArray [(0,n,0)])) ?step ?fin (.inl #[rfl,rfl,rfl])) ?post)
 case fin =>
  rintro c a (⟨l,_,_⟩ | ⟨_,j,d⟩)
  .lia
  .exact #[j,d]
 case step =>
  rintro x c a _ l (⟨rfl,rfl,rfl⟩ | ⟨o,rfl,d⟩)
  .dsimp only
   rw[if_neg (by lia)]
   simp only[Nat.sub_zero,FK]
   subst i
   refine wpS_bind (vI t p (by lia) ?_)
   dsimp only
   rw[if_neg (by lia)]
   refine wpS_bind (wpS_get ?_)
   have r:(pendingOf a).back?=none:=by rw[g];rfl
   rw[r]
   dsimp only
   refine wpS_bind (wpS_modify (wpS_pure (.inr #[by lia,rfl,rfl,hf,?_])))
   show (pendingOf a).push _=_
   rw[g];rfl
  .dsimp only
   rw[if_pos (FA _)]
   exact wpS_pure #[rfl,d]
 case post =>
  rintro c a ⟨rfl,h3,m,q⟩
  dsimp only
  refine wpS_bind (wpS_mono (wpS_forRange (I:=λ_ c b=>b=a/\c=(none,())) (Q:=λc b=>b=a/\c=(none,())) ?_ (λ_ _ k=>k) #[rfl,rfl]) ?_)
  .rintro x c b _ _ ⟨rfl,rfl⟩
   refine wpS_bind (wpS_get ?_)
   rw[if_pos (by rw[q];exact FA 1)]
   exact wpS_pure #[rfl,rfl]
  .rintro c b ⟨rfl,rfl⟩
   exact wpS_pure (h _ h3 m)
end
section
variable {prog:Program} {w:World} {A:Around} {E:Value->Shared->Prop} {s:Shared}
theorem sd (v:Value):firstOfTuple' v=(do
  if (<- typeOf v) != .type "tuple" then return none
  return (<- Builtin.List.listItems v)[0]?):=rfl
theorem vE (f:IsNts s.heap b n) (h0:n≠[]) (h:∀ i t,Q (some (.int i t)) s):wpAny (model prog w) A (firstOfTuple' (.ref b)) Q E s:=by
 obtain ⟨it,⟨o,e,c,k,d⟩,j⟩:=f
 rw[sd]
 refine Fb (wpAny_typeOf (T:="tuple") #[o,e,c] ?_)
 rw[if_neg (by decide)]
 refine Fb (listItems_at e d ?_)
 cases a:it.toList with
 | nil=>rw[a] at j;cases j;exact absurd rfl h0
 | cons v vs =>
  rw[a] at j
  cases j with
  | cons i t j =>
   have:it[0]?=some (.int i t):=by rw[<- Array.getElem?_toList,a];rfl
   rw[this]
   exact Fc (h i t)
theorem mi:∀ (bs:List Addr),(∀ b∈bs,∃ n,n≠[]/\IsNts s.heap b n)->(∀ (a:List Value) (ns:List Int),IntsAre a ns->a.length=bs.length->Q (a.map some) s) ->
  wpAny (model prog w) A ((bs.map Value.ref).mapM firstOfTuple') Q E s
 | [],_,q=>by
  simp only[List.map_nil,List.mapM_nil]
  exact Fc (q [] [] .nil rfl)
 | b::bs,h,q=>by
  rw[FF,List.mapM_cons]
  obtain ⟨n,h0,f⟩:=h b Fe
  refine Fb (vE f h0 λi t=>?_)
  refine Fb (mi bs (λc e=>h c (Ff _ e)) λa ns hi d=>?_)
  exact Fc (q (.int i t::a) (i::ns) (.cons i t hi) (by simp[d]))
theorem yB (h2:bs≠[]) (e:∀ b∈bs,∃ n,n≠[]/\IsNts s.heap b n) (h:Q (fJ true) s):wpAny (model prog w) A (keyKind' (bs.map Value.ref).toArray) Q E s:=by
 rw[keyKind'_eq,List.mapM_toArray]
 refine Fb ?_
 rw[map_eq_pure_bind]
 refine Fb (mi bs e λa ns hi d=>Fc ?_)
 have f:(a.map some).toArray.all (·.isSome)=true:=by simp
 rw[if_pos f]
 refine Fb (wpAny_rule ?_)
 have hf:(a.map some).toArray.filterMap id=a.toArray:=by simp
 rw[hf,oneTypeOnly'_eq,List.mapM_toArray,mapM_typeOf_ints hi]
 simp only[map_pure,pure_bind]
 cases a with
 | nil=>exact absurd (F7.mp d.symm) h2
 | cons v a =>
  have c:((List.map (λ_=>Value.type "int") (v::a)).toArray.all λx=>x == Value.type "int")=true:=by
   simp only[List.all_toArray,List.all_map,List.all_eq_true]
   intro _ _
   rfl
  have h0:(List.map (λ_=>Value.type "int") (v::a)).toArray[0]?=some (Value.type "int"):=by simp
  rw[h0]
  simp only[c,if_true,pure_bind,Option.any_some]
  exact Fc h
end
theorem IsNts.at (x:IsNts h b n) (e:∀ o,h.get? b=some o->h'.get? b=some o):IsNts h' b n:=by
 obtain ⟨it,⟨o,e1,r⟩,j⟩:=x
 exact #[it,#[o,e o e1,r],j]
structure NRow (h:Heap) (bs:List Addr) (ns:List (List Int)):Prop where
 len:ns.length=bs.length
 at':∀ (i:Nat) (b:Addr) (n:List Int),bs[i]?=some b->ns[i]?=some n->IsNts h b n/\n≠[]
 asc:∀ (i:Nat) (x y:List Int),ns[i]?=some y->ns[i+1]?=some x->HT.lexLt x y=false
theorem NRow.mem (r:NRow h bs ns):∀ b∈bs,∃ n,n≠[]/\IsNts h b n:=λb c=>by
 obtain ⟨i,hi⟩:=List.getElem?_of_mem c
 have a:i < ns.length:=by rw[r.len];exact (Fu.mp hi).1
 obtain ⟨h1,h2⟩:=r.at' i b _ hi (Fo a)
 exact #[_,h2,h1]
theorem NRow.keep (r:NRow h bs ns) (k:∀ b∈bs,∀ o,h.get? b=some o->h'.get? b=some o):NRow h' bs ns :=
 #[r.len,λi b n e1 a=>#[(r.at' i b n e1 a).1.at (k b (Fv e1)),(r.at' i b n e1 a).2],r.asc]
theorem NRow.order (r:NRow h bs ns):li h ((bs.map Value.ref).toArray.zip (bs.map Value.ref).toArray):=λi h1 hi=>by
 have a:i < bs.length:=by simpa using hi
 have e1:bs[i]?=some bs[i]:=Fo a
 have b:bs[i - 1]?=some bs[i - 1]:=Fo (by lia)
 have c:=r.len
 have f1:ns[i]?=some ns[i]:=Fo (by lia)
 have f2:ns[i - 1]?=some ns[i - 1]:=Fo (by lia)
 refine #[bs[i],bs[i - 1],.ref bs[i],.ref bs[i - 1],_,_,?_,?_,(r.at' i _ _ e1 f1).1,(r.at' (i - 1) _ _ b f2).1,r.asc (i - 1) _ _ f2 (by rw[show i - 1+1=i by lia];exact f1)]
 .rw[List.zip_toArray]
  simp[List.getElem?_zip_eq_some,e1]
 .rw[List.zip_toArray]
  simp[List.getElem?_zip_eq_some,b]
section
variable {prog:Program} {w:World} {A:Around} {E:Value->Shared->Prop} {s:Shared}
theorem wG {n:Nat} (i:s.heap.get? a=some (seqObj "list" (bs.map Value.ref).toArray n)) (r:NRow s.heap bs ns) (hsz:bs.length<=sizeLine) (h:P (.done (.ret .none)) { s with heap:=sortedHeap s.heap a (bs.map Value.ref) (bs.map Value.ref).toArray }) :
  wpAny (model prog w) A (Builtin.«list.sort» #[[.ref a],[]]) P E s:=by
 rw[list_sort_plain]
 have t:a < s.heap.objs.size:=Fp i
 have hsz2:(bs.map Value.ref).toArray.size<=sizeLine:=by simpa using hsz
 have j:∀ b∈bs,b≠a:=λb l z=>by
  obtain ⟨m,_,it,⟨o,e1,c,_⟩,_⟩:=r.mem b l
  rw[z,i] at e1
  cases e1
  have c:Value.type "list"=Value.type "tuple":=c
  injection c with c
  exact absurd c (by decide)
 refine Fb (listItems_at i rfl ?_)
 refine Fb (listUpdate_at i rfl ?_)
 obtain ⟨e1,g⟩:∃ e1,(s.heap.update a (Obj.mapSeq λ_=>(List.toArray []))).get? a=some (seqObj "list" (List.toArray []) e1):=#[_,get?_update_seq i (λ_=>(List.toArray []))]
 refine Fb (seqEpoch_at g rfl ?_)
 refine Fb (wpAny_newTuple ?_)
 refine Fb (wpAny_newList ?_)
 refine Fd ?_
 have f:(((s.heap.update a (Obj.mapSeq λ_=>(List.toArray []))).push (seqObj "tuple" (bs.map Value.ref).toArray 0)).push (seqObj "list" (List.toArray []) 0)).get? a=some (seqObj "list" (List.toArray []) e1) :=
  Fg _ (Fg _ g)
 have p:NRow (((s.heap.update a (Obj.mapSeq λ_=>(List.toArray []))).push (seqObj "tuple" (bs.map Value.ref).toArray 0)).push (seqObj "list" (List.toArray []) 0)) bs ns:=r.keep λb l o e =>
  Fg _ (Fg _ ((FW _ _ (Ne.symm (j b l))).trans e))
 show wpAny (model prog w) A _ P E { s with heap:=((s.heap.update a (Obj.mapSeq λ_=>(List.toArray []))).push (seqObj "tuple" (bs.map Value.ref).toArray 0)).push (seqObj "list" (List.toArray []) 0) }
 dsimp only
 have out:((bs.map Value.ref).toArray.zip (bs.map Value.ref).toArray).map (·.2)=(bs.map Value.ref).toArray:=by
  rw[List.zip_toArray,List.map_toArray]
  congr 1
  exact List.map_snd_zip (FA _)
 by_cases h2:(bs.map Value.ref).toArray.size < 2
 .rw[if_pos h2,if_pos h2]
  refine Fb (Fc ?_)
  rw[StateT.run_pure]
  refine Fb (Fc ?_)
  dsimp only
  refine Fb (seqEpoch_at f rfl ?_)
  show wpAny _ _ (Builtin.List.listUpdate (.ref a) (λ_=>((bs.map Value.ref).toArray.zip (bs.map Value.ref).toArray).map (·.2)) >>= _) _ _ _
  rw[out]
  refine Fb (listUpdate_at f rfl ?_ (hsz2:=Nat.le_succ_of_le hsz2))
  simp only[bne_self_eq_false,FU,if_false]
  exact Fc h
 .rw[if_neg h2,if_neg h2]
  have k:bs≠[]:=λz=>by subst z;simp at h2
  refine Fb (yB k p.mem ?_)
  refine Fb (wpAny_mono (wL (st:=SortSt.mk' (fJ true) ((bs.map Value.ref).toArray.zip (bs.map Value.ref).toArray) (List.toArray []) 7 none)
   (Q:=λ_ d=>arrOf d=(bs.map Value.ref).toArray.zip (bs.map Value.ref).toArray/\failedOf d=none) rfl rfl rfl p.order (by show 2<=((bs.map Value.ref).toArray.zip (bs.map Value.ref).toArray).size;rw[List.zip_toArray];simp at h2 ⊢;lia) λd a1 a2=>#[a1,a2]) ?_ λ_ _ e=>e)
  rintro ⟨⟨⟩,d⟩ s' ⟨rfl,q,hf⟩
  dsimp only
  refine Fb (seqEpoch_at f rfl ?_)
  rw[q,out]
  refine Fb (listUpdate_at f rfl ?_ (hsz2:=Nat.le_succ_of_le hsz2))
  rw[hf]
  simp only[bne_self_eq_false,FU,if_false]
  exact Fc h
end
section
variable {prog:Program} {w:World} {A:Around} {R:Result->Shared->Prop}
theorem yQ (y:A.handled=none) (p:d≠I) (g:S≠I) (m:S≠d) {ep:Nat} (hz:es.size<=sizeLine) (res:Value) :
  ∀ (k i:Nat) (s:Shared) (c:Nat),es.size - i=k->i<=es.size->s.heap.IsKeyIter I d i es.size ep->RawAt s.heap d es ep ->
  s.heap.get? S=some { cls:=.type "list",dict:=none,data:=.seq ((es.toList.take i).map (·.key)).toArray c,slots:=(List.toArray []) } ->
  (∀ h' B tk,h'.get? S=some { cls:=.type "list",dict:=none,data:=.seq (es.toList.map (·.key)).toArray B,slots:=(List.toArray []) }->(∀ b o,b≠I->b≠S->s.heap.get? b=some o->h'.get? b=some o)->R (.ok (.ret res)) { s with heap:=h',toks:=tk }) ->
  codeAny (model prog w) A (.builtin "list.extend.loop" #[[.ref S,.ref I,res],[]]) R s:=by
 intro k
 induction k with
 | zero =>
  intro i s c x hi hit hm q fin
  obtain rfl:i=es.size:=by lia
  refine codeAny_builtin F.entry_extend_loop ?_
  rw[Around.under_plainId F.plain_extend_loop _]
  show wpAny _ A.in1 (pyNext (.ref I) >>= _) _ _ s
  refine Fb (lK (show A.in1.handled=none from y) hit hm (FA _) λh' t=>?_)
  have a:=t S _ g q
  rw[F1 (by simp)] at a
  exact Fc (fin h' c s.toks a λb o j _ e=>t b o j e)
 | succ k ih =>
  intro i s c x hi hit hm q fin
  have f:i < es.size:=by lia
  refine codeAny_builtin F.entry_extend_loop ?_
  rw[Around.under_plainId F.plain_extend_loop _]
  show wpAny _ A.in1 (pyNext (.ref I) >>= _) _ _ s
  refine Fb (kn hit hm f λh' h sb=>?_)
  have a:h'.get? S=_:=(sb.2 S g).trans q
  have v:((es.toList.take i).map (·.key)).toArray.size=i:=by simp;lia
  show wpAny _ A.in1 (updateSeq S (·.push es[i].key) >>= _) _ _ _
  refine Fb (wpAny_updateSeq a rfl (Fc #[plainId_quiet F.plain_extend_loop _,?_]) (by rw[v];lia) (by rw[Array.size_push,v];lia))
  obtain ⟨c2,l⟩:∃ c2,(h'.update S (Obj.mapSeq (·.push es[i].key))).get? S=some (seqObj "list" (((es.toList.take i).map (·.key)).toArray.push es[i].key) c2):=#[_,get?_update_seq a (·.push es[i].key)]
  refine ih (i+1) _ c2 (by lia) f (h.at λo e=>(FW _ _ g).trans e) ?_ ?_ λh3 z tk n k3=>?_
  .obtain ⟨o,e,r⟩:=hm
   exact #[o,(FW _ _ m).trans ((sb.2 d p).trans e),r]
  .have e:((es.toList.take i).map (·.key)).toArray.push es[i].key=((es.toList.take (i+1)).map (·.key)).toArray:=by
    rw[List.take_add_one,Array.getElem?_toList,Array.getElem?_eq_getElem f]
    simp
   rw[<- e]
   exact l
  .exact fin h3 z tk n λb o j u e=>k3 b o j u ((FW _ _ (Ne.symm u)).trans ((sb.2 b j).trans e))
end
section
variable {prog:Program} {w:World} {A:Around} {E:Value->Shared->Prop} {s:Shared}
theorem vC (a:s.TypeIs (.ref d) "dict") (h:Q false s):wpAny (model prog w) A (Builtin.List.listLengthHint (.ref d)) Q E s:=by
 unfold Builtin.List.listLengthHint
 refine Fb (wpAny_specialOf a F.slot_dict_len.lookup ?_)
 have c:splitId "dict.__len__"=some ("dict","__len__"):=by kernel_rfl
 dsimp only
 simp only[c]
 refine Fb (wpAny_isInstance (T:="dict") a (b:=true) (by rw[isSubtype_type];kernel_rfl) ?_)
 simp only[Bool.not_true,FU,if_false]
 rw[if_pos (by kernel_rfl)]
 refine Fb (wpAny_typeOf a ?_)
 exact Fc h
end
section
variable {prog:Program} {w:World} {A:Around} {E:Value->Shared->Prop} {s:Shared}
theorem oX {ep:Nat} (G:A.handled=none) (hd:(d == sysModules)=false) (hm:RawAt s.heap d es ep) (hz:es.size<=sizeLine) (h:∀ h' tk,s.heap.objs.size<=h'.objs.size->(∀ b o,s.heap.get? b=some o->h'.get? b=some o)->Q (es.toList.map (·.key)) { s with heap:=h',toks:=tk }):wpAny (model prog w) A (collect (.ref d)) Q E s:=by
 have a:d < s.heap.objs.size:=by obtain ⟨o,e,_⟩:=hm;exact Fp e
 unfold collect
 refine Fb (wpAny_runValue (codeAny_builtin F.entry_proto_collect ?_))
 rw[Around.under_plainId F.plain_proto_collect _]
 show wpAny _ A.in1 (newList [] >>= λl=>again (.builtin "list.__iadd__" #[[l,.ref d],[]])) _ _ s
 refine Fb (wpAny_newObj_type ?_)
 refine Fc #[plainId_quiet F.plain_list_iadd _,codeAny_builtin F.entry_list_iadd ?_]
 rw[Around.under_plainId F.plain_list_iadd _]
 show wpAny _ A.in1 (Builtin.List.listExtendWith (.ref s.heap.objs.size) (.ref d) (.ref s.heap.objs.size)) _ _ { s with heap:=s.heap.push { cls:=.type "list",data:=.seq ([]:List Value).toArray } }
 unfold Builtin.List.listExtendWith
 have f:RawAt (s.heap.push { cls:=.type "list",data:=.seq ([]:List Value).toArray }) d es ep:=by
  obtain ⟨o,e,r⟩:=hm
  exact #[o,Fg _ e,r]
 have C:Shared.TypeIs { s with heap:=s.heap.push { cls:=.type "list",data:=.seq ([]:List Value).toArray } } (.ref d) "dict":=RawAt.typeIs (s:={ s with heap:=s.heap.push { cls:=.type "list",data:=.seq ([]:List Value).toArray } }) f
 refine Fb (wpAny_typeOf C ?_)
 have h1:Builtin.List.listSameRef (.ref s.heap.objs.size) (.ref d)=false:=beq_false_of_ne (Nat.ne_of_gt a)
 have h2:(Value.type "dict" == Value.type "list")=false:=by decide
 have h3:(Value.type "dict" == Value.type "tuple")=false:=by decide
 simp only[h1,h2,h3,Bool.or_false,FU,if_false]
 have y:(s.heap.push { cls:=.type "list",data:=.seq ([]:List Value).toArray }).get? s.heap.objs.size=some (seqObj "list" (List.toArray []) 0):=Fs _ rfl
 generalize p:s.heap.push { cls:=.type "list",data:=.seq ([]:List Value).toArray }=H1 at *
 have m:H1.objs.size=s.heap.objs.size+1:=by rw[<- p];exact FX ..
 have D:∀ b o,s.heap.get? b=some o->H1.get? b=some o:=λb o e=>by rw[<- p];exact Fg _ e
 refine Fb (ju (s:={ s with heap:=H1 }) hd f ?_)
 have x:Shared.TypeIs { s with heap:=H1.push { cls:=.type "dict_keyiterator",data:=.fields (List.toArray [.ref d,.int 0 0,.int es.size 0,.int ep 0]) } } (.ref d) "dict":=let #[o,e,c]:=C;#[o,Fg _ e,c]
 refine Fb (Fd (vC x ?_))
 rw[if_pos (by kernel_rfl)]
 refine Fb (wpAny_rule ?_)
 have j:(H1.push { cls:=.type "dict_keyiterator",data:=.fields (List.toArray [.ref d,.int 0 0,.int es.size 0,.int ep 0]) }).get? s.heap.objs.size=some (seqObj "list" (List.toArray []) 0):=Fg _ y
 have v:Heap.IsKeyIter (H1.push { cls:=.type "dict_keyiterator",data:=.fields (List.toArray [.ref d,.int 0 0,.int es.size 0,.int ep 0]) }) H1.objs.size d 0 es.size ep:=#[_,Fs _ rfl,rfl,rfl]
 have u:RawAt (H1.push { cls:=.type "dict_keyiterator",data:=.fields (List.toArray [.ref d,.int 0 0,.int es.size 0,.int ep 0]) }) d es ep:=by
  obtain ⟨o,e,r⟩:=f
  exact #[o,Fg _ e,r]
 have k2:∀ b o,s.heap.get? b=some o->(H1.push { cls:=.type "dict_keyiterator",data:=.fields (List.toArray [.ref d,.int 0 0,.int es.size 0,.int ep 0]) }).get? b=some o:=λb o e=>Fg _ (D b o e)
 have K:s.heap.objs.size<=(H1.push { cls:=.type "dict_keyiterator",data:=.fields (List.toArray [.ref d,.int 0 0,.int es.size 0,.int ep 0]) }).objs.size:=by rw[FX];lia
 show wpAny (model prog w) A.in1 (Builtin.List.listTouch (.ref s.heap.objs.size) >>= λ_=>again (.builtin "list.extend.loop" #[[.ref s.heap.objs.size,.ref H1.objs.size,.ref s.heap.objs.size],[]])) _ _ { s with heap:=H1.push { cls:=.type "dict_keyiterator",data:=.fields (List.toArray [.ref d,.int 0 0,.int es.size 0,.int ep 0]) } }
 generalize H1.push { cls:=.type "dict_keyiterator",data:=.fields (List.toArray [.ref d,.int 0 0,.int es.size 0,.int ep 0]) }=H2 at *
 unfold Builtin.List.listTouch
 refine Fb (Fb (listUpdate_at (s:={ s with heap:=H2 }) j rfl ?_))
 obtain ⟨B,n⟩:∃ B,(H2.update s.heap.objs.size (Obj.mapSeq (·.push Value.none))).get? s.heap.objs.size=some (seqObj "list" ((List.toArray []).push Value.none) B):=#[_,get?_update_seq j (·.push Value.none)]
 refine listUpdate_at (s:={ s with heap:=H2.update s.heap.objs.size (Obj.mapSeq (·.push Value.none)) }) n rfl ?_
 obtain ⟨c4,z⟩:∃ c4,((H2.update s.heap.objs.size (Obj.mapSeq (·.push Value.none))).update s.heap.objs.size (Obj.mapSeq (·.pop))).get? s.heap.objs.size=some (seqObj "list" ((List.toArray []).push Value.none).pop c4):=#[_,get?_update_seq n (·.pop)]
 have g:∀ b o,b≠s.heap.objs.size->H2.get? b=some o->((H2.update s.heap.objs.size (Obj.mapSeq (·.push Value.none))).update s.heap.objs.size (Obj.mapSeq (·.pop))).get? b=some o:=λb o i e=>(FW _ _ (Ne.symm i)).trans ((FW _ _ (Ne.symm i)).trans e)
 have t:d≠s.heap.objs.size:=FD a
 have k:H1.objs.size≠s.heap.objs.size:=by lia
 refine Fc #[plainId_quiet F.plain_extend_loop _,yQ (I:=H1.objs.size) (d:=d) (S:=s.heap.objs.size) (es:=es) (ep:=ep) G (by rw[m];exact FD (Nat.lt_succ_of_lt a)) (Ne.symm k) (Ne.symm t) hz (.ref s.heap.objs.size) es.size 0 _ c4 (by lia) (Nat.zero_le _) (v.at λo e=>g _ _ k e) ?_ z λh' J tk q H=>?_]
 .obtain ⟨o,e,r⟩:=u
  exact #[o,g _ _ t e,r]
 .show wpAny (model prog w) A (load s.heap.objs.size >>= _) _ _ _
  refine Fb (wpAny_load q ?_)
  show wpAny _ _ (pure (es.toList.map (·.key)).toArray.toList) _ _ _
  refine Fc (h h' tk ?_ λb o e=>?_)
  .exact Nat.le_of_lt (Fp q)
  .have i:b < s.heap.objs.size:=Fp e
   exact H b o (by rw[m];exact FD (Nat.lt_succ_of_lt i)) (FD i) (g b o (FD i) (k2 b o e))
theorem pA {ep:Nat} (j:A.handled=none) (hd:(d == sysModules)=false) (hm:RawAt s.heap d es ep) (hz:es.size<=sizeLine) (g:es.toList.map (·.key)=bs.map Value.ref) (r:NRow s.heap bs ns) (h:∀ h' tk p,s.heap.objs.size<=p->(∀ b o,s.heap.get? b=some o->h'.get? b=some o)->(∃ e,h'.get? p=some (seqObj "list" (bs.map Value.ref).toArray e))->Q (.ref p) { s with heap:=h',toks:=tk }) :
  wpAny (model prog w) A (call (.builtin "sorted") [.ref d]) Q E s:=by
 refine Calls.call_function_entry kind_sorted plain_sorted entry_sorted (args_sorted1 _) ?_
 unfold Builtin.«sorted»
 refine Fb (m:=checkCount "sorted" 1 1 _) (Fc ?_)
 refine Fb (oX (A:=A.in1) j hd hm hz λh1 tk k i=>?_)
 rw[g]
 have f:bs.length<=sizeLine:=by
  have:(es.toList.map (·.key)).length=(bs.map Value.ref).length:=by rw[g]
  simp at this
  lia
 refine Fb (wpAny_newList ?_ (by rw[Ft];exact f))
 have a:(h1.push (seqObj "list" (bs.map Value.ref).toArray 0)).get? h1.objs.size=some (seqObj "list" (bs.map Value.ref).toArray 0):=Fs _ rfl
 have k2:∀ b o,s.heap.get? b=some o->(h1.push (seqObj "list" (bs.map Value.ref).toArray 0)).get? b=some o:=λb o e=>Fg _ (i b o e)
 show wpAny _ _ _ _ _ { s with heap:=h1.push (seqObj "list" (bs.map Value.ref).toArray 0),toks:=tk }
 refine Fb (Fd (wpAny_call_entry slot_list_sort #[_,a,rfl] entry_list_sort (wG (s:={ s with heap:=h1.push (seqObj "list" (bs.map Value.ref).toArray 0),toks:=tk }) a (r.keep λb _ o e=>k2 b o e) f #[_,rfl,?_]) (args_list_sort _)))
 refine Fc #[_,rfl,h _ tk h1.objs.size k (λb o e=>?_) ?_]
 .have hb1:b < h1.objs.size:=Fp (i b o e)
  unfold sortedHeap
  refine (FW _ _ (Nat.ne_of_gt hb1)).trans (Fg _ (Fg _ ?_))
  exact (FW _ _ (Nat.ne_of_gt hb1)).trans (k2 b o e)
 .unfold sortedHeap
  obtain ⟨e1,c⟩:∃ e1,((h1.push (seqObj "list" (bs.map Value.ref).toArray 0)).update h1.objs.size (Obj.mapSeq λ_=>(List.toArray []))).get? h1.objs.size=some (seqObj "list" (List.toArray []) e1):=#[_,get?_update_seq a (λ_=>(List.toArray []))]
  exact #[_,get?_update_seq (Fg _ (Fg _ c)) (λ_=>(bs.map Value.ref).toArray)]
end
theorem jd:∀ bs:List Addr,Vals (bs.map V.ref) (bs.map Value.ref)
 | []=>.nil
 | _::bs=>.cons rfl (jd bs)
section
variable {X:Cx}
def xr:List V->Hp->VK->Prop:=λxs H Q=>∃ (a:Addr) (kvs:List (List Key×V)) (ns:List (List Int)),xs=[.ref a]/\RdT H a kvs/\kvs.map (·.1)=ns.map (λn=>n.map Sum.inl)/\(∀ n∈ns,n≠[]) /\
 (∀ (i:Nat) (x y:List Int),ns[i]?=some y->ns[i+1]?=some x->HT.lexLt x y=false)/\ns.length<=sizeLine /\
 ∀ bs:List Addr,bs.length=ns.length->(∀ (i:Nat) (b:Addr) (n:List Int),bs[i]?=some b->ns[i]?=some n->H b=some (.tup (n.map V.int)))->∀ p,H p=none->Q (.ref p) (upd H p (.lst (bs.map V.ref)))
theorem sj (F:X.calm=true):CallR X (.builtin "sorted") xr:=by
 intro pins s Y H xs us Q I C h
 obtain ⟨a,kvs,ns,rfl,E,A,h0,c,hz,q⟩:=h
 obtain ⟨u,rfl,B⟩:=eE C
 cases (show u=Value.ref a from B)
 obtain ⟨y,es,⟨ep,raw⟩,sz,ent⟩:=oW I.hok E
 have J:kvs.length=ns.length:=by have:=congrArg List.length A;simpa using this
 have key:∀ (i:Nat) (n:List Int),ns[i]?=some n->∃ (hi:i < es.size) (b:Addr),es[i].key=.ref b/\H b=some (.tup (n.map V.int)):=λi n w=>by
  have hi:i < ns.length:=(Fu.mp w).1
  have d:kvs[i]?=some (kvs[i]'(by lia)):=Fo _
  obtain ⟨b,b1,b2,_⟩:=ent i (by lia) _ d
  refine #[by lia,b,b1,?_]
  have e1:(kvs[i]'(by lia)).1=n.map Sum.inl:=by
   have:(kvs.map (·.1))[i]?=(ns.map λn=>n.map Sum.inl)[i]?:=by rw[A]
   rw[Fz,Fz,d,w] at this
   exact F6 this
  rw[e1,F4] at b2
  exact b2
 obtain ⟨bs,g⟩:∃ bs:List Addr,es.toList.map (·.key)=bs.map Value.ref:=by
  have:∀ l:List DictEntry,(∀ e∈l,∃ b:Addr,e.key=.ref b)->∃ bs:List Addr,l.map (·.key)=bs.map Value.ref:=λl=>by
   induction l with
   | nil=>exact λ_=>#[[],rfl]
   | cons e l ih =>
    intro h
    obtain ⟨b,g⟩:=h e Fe
    obtain ⟨bs,v⟩:=ih λx D=>h x (Ff _ D)
    exact #[b::bs,by rw[FF,FF,g,v]]
  refine this es.toList λe he=>?_
  obtain ⟨i,hi⟩:=List.getElem?_of_mem he
  have m:i < es.size:=by have:=(Fu.mp hi).1;simpa using this
  obtain ⟨_,b,b1,_⟩:=key i _ (Fo (show i < ns.length by lia))
  rw[Array.getElem?_toList,Array.getElem?_eq_getElem m] at hi
  cases hi
  exact #[b,b1]
 have f:bs.length=ns.length:=by
  have:=congrArg List.length g
  simp at this
  lia
 have at':∀ (i:Nat) (b:Addr) (n:List Int),bs[i]?=some b->ns[i]?=some n->H b=some (.tup (n.map V.int)):=λi b n e1 j=>by
  obtain ⟨hi,G,b1,b2⟩:=key i n j
  have:(es.toList.map (·.key))[i]?=(bs.map Value.ref)[i]?:=by rw[g]
  rw[Fz,Fz,e1,Array.getElem?_toList,Array.getElem?_eq_getElem hi] at this
  have t:es[i].key=Value.ref b:=F6 this
  rw[b1] at t
  cases t
  exact b2
 refine pA (I.ok.hd F) y raw (by lia) g #[f.symm,λi b n e1 j=>#[?_,h0 n (Fv j)],c] λh' tk p z k #[e,he]=>?_
 .obtain ⟨its,r,p,_⟩:=I.tuple (SqT.of (at' i b n e1 j))
  exact #[_,p,rV r]
 .refine #[.ref p,_,I.laid (a:=p) (o:=.lst (bs.map V.ref)) (t':=tk) (λb o q=>k b o q) z #[by rw[Ft];lia,bs.map Value.ref,e,jd bs,he],rfl,q bs f at' p (I.hok.fresh z)]
end
end L2
end
section
namespace L2
open PySem
abbrev Up (xs:Array Nat):Prop:=xs.toList.Pairwise (· < ·)
theorem Up.at (h:Up xs) {i k:Nat} (a:i < k) (b:k < xs.size):xs[i]'(by omega) < xs[k]:=by
 have:=List.pairwise_iff_getElem.mp h i k (by simp;lia) (by simpa using b) a
 simpa using this
structure Tab (b:Bool) (t:SetTable):Prop where
 up:Up t.place
 led:t.led=b
theorem wm (n:Nat):Up (Array.range n):=by
 show (Array.range n).toList.Pairwise _
 rw[Array.toList_range]
 exact List.pairwise_lt_range
theorem Tab.stand (h:Tab b t) (n:Nat):Tab b (t.standIn n):=#[wm n,h.led]
theorem Tab.all (h:Tab b t) (es:Array (Int×Value)) (n:Nat):Tab b (relayAll t es n).2.1:=by
 unfold relayAll
 split
 .rename_i t' order e
  dsimp only
  split
  .unfold SetTable.relaid SetTable.laid at e
   simp only[Option.bind_eq_bind,FR,Option.pure_def,Option.some.injEq,Prod.mk.injEq] at e
   obtain ⟨k,_,e1,_⟩:=e
   subst e1
   refine #[?_,h.led]
   have aux:∀ (f:Nat->Option Nat) (m:Nat),((List.filterMap (λj=>(f j).map (j,·)) (List.range m)).map (·.1)).Pairwise (· < ·):=λf m=>by
    rw[List.pairwise_map,List.pairwise_filterMap]
    refine List.pairwise_lt_range.imp λ{a c} d x g y i=>?_
    rw[Fh] at g i
    obtain ⟨_,_,rfl⟩:=g
    obtain ⟨_,_,rfl⟩:=i
    exact d
   exact aux _ _
  .exact h.stand _
 .exact h.stand _
end L2
end
section
namespace L2
open PySem PyProof.Rows
abbrev Ci (w:World):Bool:=!w.params.followText "set-order"
def SetL (prog:Program) (w:World) (h:Heap) (a:Addr) (ns:List Int):Prop :=
 ∃ o es ep t ms,h.get? a=some o/\o.ExactSet/\o.data=.set es ep t/\ElemsOf (intKind prog w) es.toList/\IntsAre (es.toList.map (·.2)) ms/\ms.Perm ns/\es.size < scanBound/\t.fits es.size=true/\Tab (Ci w) t
theorem SetL.keep (x:SetL prog w h a ns) (k:∀ o,h.get? a=some o->h'.get? a=some o):SetL prog w h' a ns :=
 let #[o,es,ep,t,ms,e,r]:=x;#[o,es,ep,t,ms,k o e,r]
def met (ns:List Int) (k:Int):List Int:=if k∈ns then ns else ns++[k]
def SIt (w:World) (h:Heap) (I a:Addr) (es:Array (Int×Value)) (ep:Nat) (t:SetTable) (ord:List Value) (i:Nat):Prop :=
  ∃ first,h.get? I=some { cls:=.type "set_iterator",dict:=none,data:=.fields (List.toArray [first,rawInt i,.ref a,rawInt es.size,rawInt ep]),slots:=(List.toArray []) } /\
    ((w.params.followText "set-order"=true /\ first=rawInt 0 /\ ord=(pickOrder (w.params.setOrder a ep) es).toList.map (·.2)) \/
     (w.params.followText "set-order"=false /\ (!t.plain && es.size > 1)=false /\ (∃ k:Nat,first=rawInt k /\ SetTable.below t.place k=i) /\ ord=es.toList.map (·.2)) \/
     (∃ (T:Addr) (ps:List Nat),first=.ref T /\ T≠I /\ h.get? T=some { cls:=.type "tuple",data:=.seq (ps.map λ(p:Nat)=>rawInt p).toArray } /\ ps.Perm (List.range es.size) /\ ord=ps.filterMap λp=>es[p]?.map (·.2)))
structure SAt (w:World) (h:Heap) (a:Addr) (es:Array (Int×Value)) (ep:Nat) (t:SetTable):Prop where
 at':∃ o,h.get? a=some o/\o.data=.set es ep t
 fits:t.fits es.size=true
 tab:Tab (Ci w) t
section
variable {prog:Program} {w:World} {A:Around} {E:Value->Shared->Prop} {s:Shared}
theorem SAt.keep {ep:Nat} (x:SAt w h a es ep t) (k:∀ o,h.get? a=some o->h'.get? a=some o):SAt w h' a es ep t :=
 let #[#[o,e,d],f,t]:=x;#[#[o,k o e,d],f,t]
theorem SIt.keep {ep:Nat} {i:Nat} (x:SIt w h I a es ep t ord i) (j:I≠S) (l:∀ T ps,h.get? T=some { cls:=.type "tuple",data:=.seq ps }->T≠S) (k:∀ b o,b≠S->h.get? b=some o->h'.get? b=some o):SIt w h' I a es ep t ord i:=by
 obtain ⟨f,g,m⟩:=x
 refine #[f,k _ _ j g,?_]
 rcases m with m | m | ⟨T,ps,e1,d,c,e⟩
 .exact .inl m
 .exact .inr (.inl m)
 .exact .inr (.inr #[T,ps,e1,d,k _ _ (l _ _ c) c,e])
end
end L2
end
section
namespace L2
open PySem PySem.Spec PyProof.Rows
section
variable {prog:Program} {w:World} {K:Type} [DecidableEq K] {knd:HeapKind prog w K} {A:Around} {E:Value->Shared->Prop} {s:Shared}
def zD (xs ys:List (K×Addr×Value)):Prop:=xs.length=ys.length/\∀ (i:Nat) (x:K×Addr×Value),xs[i]?=some x->∃ (j:Nat) (y:K×Addr×Value) (n:Int) (t u:Tok),ys[j]?=some y/\y.1=x.1/\x.2.2=.int n t/\y.2.2=.int n u
theorem wJ {id:String} {a b:Addr} {xs ys:List (K×Addr×Value)} {Q:Bool->Shared->Prop} (z:(a == sysModules)=false) (F:(b == sysModules)=false) (da:s.heap.DictOfH knd a xs) (db:s.heap.DictOfH knd b ys) (hu:knd.room A) (al:zD xs ys) (q:Q true s) :
  wpAny (model prog w) A (Builtin.Dict.samePairs id a b) Q E s:=by
 obtain ⟨H,es,ep,g1,_,g2,g3,x,I⟩:=da
 obtain ⟨ob,fs,fp,f1,_,f2,d,f4,f⟩:=db
 have B:=size_of_entries g3
 have C:=size_of_entries d
 unfold Builtin.Dict.samePairs Builtin.Dict.showsAll
 rw[if_neg (by rw[z];exact FC),if_neg (by rw[F];exact FC)]
 refine Fb (Fc (Fb (Fc (Fb (wpAny_dictEntries g1 g2 (Fb (wpAny_dictEntries f1 f2 ?_)))))))
 rw[if_neg (by rw[B,C,al.1];simp)]
 refine Fb (wpAny_dictEpoch g1 g2 (Fb ?_))
 rw[Std.Legacy.Range.forIn_eq_forIn_range']
 simp only[Std.Legacy.Range.size,Nat.sub_zero,Nat.add_sub_cancel,Nat.div_one]
 refine wpAny_forIn_list _ (λde r s'=>s'=s/\r=(none,())/\∀ i∈de,i < es.size) _ ?_ ?_ _ _ #[rfl,rfl,λi hi=>by have:=List.mem_range'_1.mp hi;omega]
 .rintro i de r s' ⟨rfl,rfl,g⟩
  have lt:i < xs.length:=by have:=g i Fe;omega
  obtain ⟨e,y,n,t,u,e1,c,m,l⟩:=al.2 i _ (Fo lt)
  have ex:es[i]?=some (entryOfKey knd xs[i]):=by rw[entry_at g3,Fo lt];rfl
  have v:fs[e]?=some (entryOfKey knd y):=by rw[entry_at d,e1];rfl
  refine Fb (wpAny_dictEntries g1 g2 ?_)
  rw[ex]
  dsimp only
  refine Fb (Fd (Fb ?_))
  refine wpAny_dictFind_heap (s:=s') (a:=xs[i].2.1) (k:=xs[i].1) hu (x _ (List.getElem_mem lt)) f1 f2 d f4 f (λno=>?_) λj p D=>?_
  .obtain ⟨G,h⟩:=y
   exact absurd e1 (by have:=no e h;rw[<- c] at this;exact this)
  .have o:j=e:=by
    obtain ⟨G,h⟩:=y
    dsimp only at c
    subst c
    exact idxH_unique f D e1
   subst o
   refine Fb (wpAny_dictEntries f1 f2 ?_)
   rw[v]
   dsimp only
   have v1:(entryOfKey knd xs[i]).val=.int n t:=m
   have v2:(entryOfKey knd y).val=.int n u:=l
   rw[v1,v2]
   refine Fd ((intKind prog w).eqBool (a:=n) (b:=n) (intKind_is prog w n t) (intKind_is prog w n u) ?_)
   refine wpAny_ite_false (by simp) (Fb (wpAny_dictEpoch g1 g2 (wpAny_ite_false (by simp) (Fc #[rfl,rfl,λi hi=>g i (Ff _ hi)]))))
 .rintro r s' ⟨rfl,rfl,_⟩
  exact Fc q
theorem xY {a b:Addr} {xs ys:List (K×Addr×Value)} {Q:Value->Shared->Prop} (c:(a == sysModules)=false) (d:(b == sysModules)=false) (da:s.heap.DictOfH knd a xs) (db:s.heap.DictOfH knd b ys) (hu:A.units < cLine) (e:knd.room A.in1) (al:zD xs ys) (q:Q (.bool false) s) :
  wpAny (model prog w) A (compareOp .NotEq (.ref a) (.ref b)) Q E s:=by
 refine wpAny_richCompare_same_room (op:=.NotEq) da.typeIs db.typeIs PySem.F.slot_dict_ne (wpAny_call_entry PySem.F.slot_dict_ne da.typeIs PySem.F.entry_dict_ne ?_ (PySem.F.args_dict_ne_2 _ _)) hu
 refine Fb ?_
 refine Fb (wpAny_notOrdered_dict da.typeIs (Fc ?_))
 refine Fb (wpAny_isInstance db.typeIs PySem.F.sub_dict_dict (wpAny_ite_false rfl ?_))
 refine Fb (Fc (Fb (Fc (Fb (wJ c d da db e al (Fc #[_,rfl,?_,?_]))))))
 .exact λx=>nomatch x
 .exact q
end
theorem qO {H:Hp}:∀ {ns:List (List Key×Int)} {xs ys:List (List Key×Addr×Value)},KT H (ns.map λp=>(p.1,V.int p.2)) xs->KT H (ns.map λp=>(p.1,V.int p.2)) ys->zD xs ys
 | [],_,_,r1,r2=>by
  cases r1
  cases r2
  exact #[rfl,λi x e=>by simp at e]
 | p::ns,_,_,r1,r2=>by
  rw[FF] at r1 r2
  cases r1 with
  | cons h1 t1 =>
   cases r2 with
   | cons h2 t2 =>
    obtain ⟨l,al⟩:=qO t1 t2
    refine #[by simp[l],λi x e=>?_]
    cases i with
    | zero =>
     cases e
     obtain ⟨t,e1⟩:=h1.2.2
     obtain ⟨u,a⟩:=h2.2.2
     exact #[0,_,p.2,t,u,rfl,h2.1.symm.trans h1.1,e1,a]
    | succ i =>
     obtain ⟨j,r⟩:=al i x e
     exact #[j+1,r]
section
variable {X:Cx}
def rNeT:R2:=λx y H Q=>∃ (a b:Addr) (ns:List (List Key×Int)),x=.ref a/\y=.ref b/\RdT H a (ns.map λp=>(p.1,V.int p.2))/\RdT H b (ns.map λp=>(p.1,V.int p.2))/\Q (.bl false) H
theorem Ec (hu:X.A.units+64 < cLine):OpR X (compareOp .NotEq) rNeT:=by
 intro pins s Y H x y v u Q I d g h
 obtain ⟨a,b,ns,rfl,rfl,h1,h2,q⟩:=h
 cases d
 cases g
 obtain ⟨_,j,xs,f,i⟩:=ug I.hok h1
 obtain ⟨_,k,ys,c,e⟩:=ug I.hok h2
 refine xY j k i e (by omega) (tupleKind_room_in1 (by omega)) ?_ #[.bl false,H,I,rfl,q]
 exact qO f c
end
section
variable {prog:Program} {w:World} {A:Around} {E:Value->Shared->Prop} {s:Shared}
theorem Dy {d:Addr} {es:Array DictEntry} {ep:Nat} {Q:Value->Shared->Prop} (hd:(d == sysModules)=false) (hm:RawAt s.heap d es ep) (hz:(es.size:Int) < 2 ^ 63) (h:Q (.int es.size (s.toks+1)) { s with toks:=s.toks+1+1 }):wpAny (model prog w) A (call (.builtin "len") [.ref d]) Q E s:=by
 refine Calls.call_function_entry kind_len plain_len entry_len (args_len1 _) ?_
 have ty:=hm.typeIs
 obtain ⟨⟨c2,j,e,s2⟩,h2,c,a⟩:=hm
 obtain ⟨i,g,f,tk,os⟩:=s
 obtain ⟨b,_⟩:=c
 simp only at a b h2
 subst a b
 refine Fb (Fc (Fb (wpAny_callSpecial?_slot ty F.slot_dict_len (wpAny_call_entry F.slot_dict_len ty F.entry_dict_len ?_ (F.args_dict_len_1 _)))))
 wp_walk
 refine #[_,rfl,?_]
 rw[show ((es.size:Int)+((0:Nat):Int))=es.size by omega]
 refine Fb (Fd ?_)
 wp_walk
 rw[if_neg (by omega)]
 wp_walk
 exact #[_,rfl,h]
end
section
variable {X:Cx}
theorem vV:CallR X (.builtin "len") (λxs H Q=>∃ p ys,xs=[.ref p]/\RdT H p ys/\Q (.int ys.length) H):=by
 intro pins s Y H xs us Q I r h
 obtain ⟨p,ys,rfl,a,q⟩:=h
 obtain ⟨u,rfl,b⟩:=eE r
 cases b
 have c:=l5
 obtain ⟨y,es,⟨ep,raw⟩,sz,ent⟩:=oW I.hok a
 obtain ⟨_,a⟩:=a
 obtain ⟨hz,_⟩:=mj I.hok a
 exact Dy y raw (by omega) #[.int ys.length,H,I.tok _,#[s.toks+1,by rw[sz]],q]
end
end L2
end
section
namespace PySem
namespace F
theorem xN:Manifest.owners.lookup (String.ofList ['d','e','s','r','e','v','e','r'].reverse)=some Manifest.sig_reversed:=by kernel_rfl
theorem slot_rv_next:Slot "reversed" "__next__" "reversed.__next__" :=
 .of (owner:="reversed") (n:="__next__") (by rw[typeLookup_type,builtinLookup_eq_fast];kernel_rfl) (by decide +kernel) (by decide +kernel) (by decide +kernel)
  (by first | exact .inl (by decide +kernel) | exact .inr (by decide +kernel)) (by rw[isSubtype_type];kernel_rfl)
theorem entry_rv_next:entryFor table "reversed.__next__"=some Builtin.«reversed.__next__»:=entryFor_of_tree (by kernel_rfl)
theorem args_rv_next (a:Value):argsOk "reversed.__next__" #[[a],[]]:=by
 unfold argsOk;rw[signature?_of (id:="reversed.__next__") (n:=['_','_','t','x','e','n','_','_']) (o:=['d','e','s','r','e','v','e','r']) (by kernel_rfl) xN];kernel_rfl
theorem slot_rv_iter:Slot "reversed" "__iter__" "reversed.__iter__" :=
 .of (owner:="reversed") (n:="__iter__") (by rw[typeLookup_type,builtinLookup_eq_fast];kernel_rfl) (by decide +kernel) (by decide +kernel) (by decide +kernel)
  (by first | exact .inl (by decide +kernel) | exact .inr (by decide +kernel)) (by rw[isSubtype_type];kernel_rfl)
theorem args_rv_iter (a:Value):argsOk "reversed.__iter__" #[[a],[]]:=by
 unfold argsOk;rw[signature?_of (id:="reversed.__iter__") (n:=['_','_','r','e','t','i','_','_']) (o:=['d','e','s','r','e','v','e','r']) (by kernel_rfl) xN];kernel_rfl
theorem entry_rv_iter:entryFor table "reversed.__iter__"=some Builtin.«dict_keyiterator.__iter__» :=
 entryFor_alias (id':="dict_keyiterator.__iter__") (by kernel_rfl) (by first | rfl | decide +kernel | (unfold String.splitOn;simp +decide [String.splitOnAux])) (by decide +kernel) (by kernel_rfl)
theorem no_tuple_reversed:typeLookup (.type "tuple") "__reversed__"=pure none:=by rw[typeLookup_type,builtinLookup_eq_fast];kernel_rfl
end F
end PySem
namespace PySem
namespace F
theorem n5:Slot "reversed" "__init__" "object.__init__" :=
 .of (owner:="object") (n:="__init__") (by rw[typeLookup_type,builtinLookup_eq_fast];kernel_rfl) (by decide +kernel) (by decide +kernel) (by decide +kernel)
  (by first | exact .inl (by decide +kernel) | exact .inr (by decide +kernel)) (by rw[isSubtype_type];kernel_rfl)
theorem called_rv:TypeCalled "reversed" "reversed.__new__" "object.__init__" :=
 #[by decide +kernel,create_reversed,#[_,_,mro_reversed],made_reversed,plain_reversed_new,sub_reversed_self,n5]
end F
end PySem
end
section
namespace L2
open PySem PySem.Spec PyProof.Rows
def sS (a:Addr) (i:Int):Obj:={ cls:=.type "reversed",data:=.fields (List.toArray [.ref a,rawInt i]) }
def IsRv (h:Heap) (r a:Addr) (i:Int):Prop:=∃ o,h.get? r=some o/\o.cls=.type "reversed"/\o.data=.fields (List.toArray [.ref a,rawInt i])
section
variable {prog:Program} {w:World} {A:Around} {E:Value->Shared->Prop} {s:Shared}
theorem IsRv.typeIs {r a:Addr} {i:Int} (x:IsRv s.heap r a i):s.TypeIs (.ref r) "reversed":=let #[o,b,c,_]:=x;#[o,b,c]
theorem IsRv.at {h h':Heap} {r a:Addr} {i:Int} (x:IsRv h r a i) (e:∀ o,h.get? r=some o->h'.get? r=some o):IsRv h' r a i:=let #[o,b,q]:=x;#[o,e _ b,q]
theorem oI (a:Addr) (items:Array Value):Meets (Builtin.«reversed.__new__» #[[.type "reversed",.ref a],[]]) (λ_ R s=>IsTup s.heap a items/\items.size < 2 ^ 62 /\
   ∀ tk,R (.ok (.ret (.ref s.heap.objs.size))) { s with heap:=s.heap.push (sS a ((items.size:Int) - 1)),toks:=tk }) :=
 .of_wp λprog w A R s h=>by
  obtain ⟨c,hf,h⟩:=h
  unfold Builtin.«reversed.__new__»
  refine Fb (wpAny_of_eq (newClass_reversed _) ?_)
  try dsimp only
  refine Fb (wpAny_of_eq (a:=()) (by first | rfl | kernel_rfl) ?_)
  refine Fb (wpAny_of_eq (a:=()) (by first | rfl | kernel_rfl) ?_)
  try dsimp only
  refine Fb (wpAny_specialOf c.typeIs F.no_tuple_reversed ?_)
  try dsimp only
  refine Fb ?_
  show wpAny _ _ (isInstance (.ref a) (.type "dict") >>= _) _ _ _
  refine Fb (wpAny_isInstance (T:="tuple") c.typeIs (b:=false) (by rw[isSubtype_type];kernel_rfl) ?_)
  simp only[FU,if_false]
  refine Fb (wpAny_specialOf c.typeIs slot_tuple_getitem.lookup ?_)
  show wpAny _ _ (if (["tuple.__getitem__","str.__getitem__","bytes.__getitem__","bytearray.__getitem__","memoryview.__getitem__","numpy.ndarray.__getitem__","sqlite3.Row.__getitem__"].contains "tuple.__getitem__")=true then _ else _) _ _ _
  rw[if_pos (by decide +kernel)]
  refine Fc ?_
  simp only[Bool.not_true,FU,if_false]
  refine Fb (len_tuple c (by omega) ?_)
  refine Fb (wpAny_of_eq (a:=some (items.size:Int)) (by first | rfl | kernel_rfl) ?_)
  dsimp only
  unfold Builtin.SmallTypes.newRecord
  dsimp only
  refine Fb (wpAny_newObj_type (Fc #[_,rfl,h _]))
theorem BP {a:Addr} {items:Array Value} {Q:Value->Shared->Prop} (b:IsTup s.heap a items) (hf:items.size < 2 ^ 62) (h:∀ tk,Q (.ref s.heap.objs.size) { s with heap:=s.heap.push (sS a ((items.size:Int) - 1)),toks:=tk }) :
  wpAny (model prog w) A (call (.type "reversed") [.ref a]) Q E s :=
 callType_new F.called_rv (by decide) (F.typeCall_reversed_1 _) (F.newCall_reversed_1 _) (λobj=>F.args_object_init_2 obj _) F.entry_reversed_new (oI a items) #[b,hf,λtk=>#[#[_,Fs _ rfl,rfl],h tk]]
theorem t0 {r a:Addr} {i:Int} {Q:Value->Shared->Prop} (b:IsRv s.heap r a i) (h:Q (.ref r) s):wpAny (model prog w) A (pyIter (.ref r)) Q E s:=by
 refine wpAny_pyIter_slot b.typeIs F.slot_rv_iter (wpAny_call_entry F.slot_rv_iter b.typeIs F.entry_rv_iter ?_ (F.args_rv_iter _))
 show wpAny _ _ (ret (.ref r)) _ _ s
 exact Fc #[_,rfl,"reversed",_,b.typeIs,F.slot_rv_next.lookup,h]
theorem Bh {r a:Addr} {i:Nat} {items:Array Value} {x:Value} {Q:Option Value->Shared->Prop} (c:IsRv s.heap r a (i:Int)) (e:IsTup s.heap a items) (hf:items.size < 2 ^ 62) (d:items[i]?=some x)
  (f:∀ h' tk,IsRv h' r a ((i:Int) - 1)->Heap.SameBut r s.heap h'->Q (some x) { s with heap:=h',toks:=tk }):wpAny (model prog w) A (pyNext (.ref r)) Q E s:=by
 obtain ⟨o,b,g,hd⟩:=id c
 have hi:i < items.size:=(Array.getElem?_eq_some_iff.mp d).1
 unfold pyNext
 refine Fb (wpAny_attempt (wpAny_callSpecial?_slot (name:=Str.ofString "__next__") c.typeIs F.slot_rv_next
  (wpAny_call_entry F.slot_rv_next c.typeIs F.entry_rv_next ?_ (F.args_rv_next _))))
 unfold Builtin.«reversed.__next__»
 refine Fb (wpAny_of_eq (a:=(Value.ref r,[])) rfl ?_)
 try dsimp only
 refine Fb (wpAny_field b hd (x:=.ref a) rfl ?_)
 refine Fb (wpAny_field b hd (x:=rawInt (i:Int)) rfl ?_)
 show wpAny _ _ (if (i:Int) < 0 then _ else _) _ _ s
 rw[if_neg (by omega)]
 show wpAny _ _ (specialOf (.ref a) (Str.ofString "__getitem__") >>= _) _ _ s
 refine Fb (wpAny_specialOf e.typeIs slot_tuple_getitem.lookup ?_)
 simp only[Option.isNone_some,FU,if_false]
 refine Fb (wpAny_mkInt ?_)
 refine Fb (wpAny_attempt (getItem_tuple (j:=i) e (by omega) (by omega) (seqIndex_of (by omega) (by omega)) d ?_))
 dsimp only
 refine Fb (wpAny_field b hd (x:=rawInt (i:Int)) rfl ?_)
 show wpAny _ _ (setField (.ref r) 1 (rawInt ((i:Int) - 1)) >>= _) _ _ _
 refine Fb (wpAny_setField b hd (by simp) ?_)
 refine Fc #[x,rfl,Fc (f _ _ ?_ (Heap.SameBut.update ..))]
 exact ⟨_,FL _ b (Obj.isFreed_of_fields (Obj.data_mapFields hd _)),(Obj.cls_mapFields ..).trans g,by
  rw[Obj.data_mapFields hd];simp⟩
theorem EQ {r a:Addr} {Q:Option Value->Shared->Prop} (h:A.handled=none) (d:IsRv s.heap r a (-1))
  (g:∀ h',Heap.ExtBut r s.heap h'->Q none { s with heap:=h' }):wpAny (model prog w) A (pyNext (.ref r)) Q E s:=by
 obtain ⟨o,c,i,hd⟩:=id d
 unfold pyNext
 refine Fb (wpAny_attempt (wpAny_callSpecial?_slot (name:=Str.ofString "__next__") d.typeIs F.slot_rv_next
  (wpAny_call_entry F.slot_rv_next d.typeIs F.entry_rv_next ?_ (F.args_rv_next _))))
 unfold Builtin.«reversed.__next__»
 refine Fb (wpAny_of_eq (a:=(Value.ref r,[])) rfl ?_)
 try dsimp only
 refine Fb (wpAny_field c hd (x:=.ref a) rfl ?_)
 refine Fb (wpAny_field c hd (x:=rawInt (-1)) rfl ?_)
 show wpAny _ _ (if (-1:Int) < 0 then _ else _) _ _ s
 rw[if_pos (by decide)]
 refine Fb (wpAny_rule ?_)
 refine Fb ?_
 show wpAny _ _ (setField (.ref r) 1 (rawInt (-1)) >>= _) _ _ _
 refine Fb (wpAny_setField c hd (by simp) ?_)
 have e:(s.heap.update r (Obj.mapFields λx=>x.setIfInBounds 1 (rawInt (-1)))).get? r=some _:=FL _ c (Obj.isFreed_of_fields (Obj.data_mapFields hd _))
 refine wpAny_setField e (Obj.data_mapFields hd _) (by simp) ?_
 refine Fb ?_
 unfold Builtin.SmallTypes.stopIteration
 refine Fb ?_
 simp only[newExc,newTuple]
 refine Fb (wpAny_newObj_type ?_ (by size_fits))
 refine Fb (m:=firstArgMember _ _) (wpAny_of_eq (a:=Value.none) (by first | rfl | (simp only[firstArgMember];rfl)) ?_)
 refine wpAny_newObj_type ?_ (by size_fits)
 simp only[raiseNew]
 refine Fb (wpAny_handled ?_)
 rw[show A.in1.handled=none from h]
 refine Fb (Fc (wpAny_throw ?_))
 refine Fb (wpAny_isInstance (T:="StopIteration") (b:=true) #[_,Fs _ rfl,rfl] isSubtype_stop ?_)
 refine Fc (g _ λb ob f q=>Fg _ (Fg _ ?_))
 exact (FW _ _ (Ne.symm f)).trans ((FW _ _ (Ne.symm f)).trans q)
end
def Itv (K:FG) (a:Addr) (N:Nat):It :=
 #[λi H=>∃ xs x,SqT K H a xs/\xs.length=N/\xs.reverse[i]?=some x,λi H x H'=>H'=H/\∀ xs,SqT K H a xs->xs.reverse[i]?=some x,λi _=>i=N]
theorem zG {P:Program} {w:World} {K:FG} {tg:Expr} (a it:Addr) (N:Nat):Turn P w K tg (Itv K a N) [it] it (λi h=>IsRv h it a ((N:Int) - 1 - i)) where
 mem:=by simp
 obj:=λi h st b j=>by
  have e:b=it:=by simpa using j
  subst e
  obtain ⟨o,e,c,d⟩:=st
  exact #[o,e,λv z=>by rw[d] at z;cases z]
 keep:=λi h h' st k=>st.at λo e=>k it (by simp) o e
 item:=by
  intro X q hw t C i pins s Y H E I hf st m
  subst q hw t
  obtain ⟨xs,x,B,L,l⟩:=m
  obtain ⟨its,A,p,hz⟩:=I.tuple B
  have hi:i < xs.length:=by
   have:=(Fu.mp l).1
   simpa using this
  have y:xs[xs.length - 1 - i]?=some x:=by rw[List.getElem?_reverse hi] at l;exact l
  obtain ⟨u,hu,D⟩:=A.get y
  obtain ⟨f0,f1,f2,r,f4,n⟩:=hf it (by simp)
  have g:IsRv s.heap it a ((xs.length - 1 - i:Nat):Int):=by
   rw[show ((xs.length - 1 - i:Nat):Int)=(N:Int) - 1 - i by lia];exact st
  have hsz:its.toArray.size < 2 ^ 62:=by
   rw[FE,<- A.length]
   exact Nat.lt_of_le_of_lt hz (by decide)
  refine Bh g (show IsTup s.heap a its.toArray from p) hsz (x:=u) (by simpa using hu) λh' tk f sb=>?_
  have F:Inv X pins Y H { s with heap:=h',toks:=tk }:=I.turned (t':=tk) (λb o j e=>(sb.2 b j).trans e) f0 f1 r f4 n
  obtain ⟨o,e,c,d⟩:=id f
  refine #[u,rfl,nN (s:={ s with heap:=h',toks:=tk }) e c d (by decide) #[x,H,F,D,#[rfl,λys J=>by rw[I.tuple_inj J B];exact l],?_,λb j=>(hf b j).1]]
  show IsRv h' it a ((N:Int) - 1 - ((i+1:Nat):Int))
  rw[show (N:Int) - 1 - ((i+1:Nat):Int)=((xs.length - 1 - i:Nat):Int) - 1 by lia]
  exact f
 done:=by
  intro X q hw t C i pins s Y H E I hf st m
  subst q hw t
  have m:i=N:=m
  obtain ⟨f0,f1,f2,r,f4,n⟩:=hf it (by simp)
  have g:IsRv s.heap it a (-1):=by
   rw[show (-1:Int)=(N:Int) - 1 - i by lia];exact st
  exact EQ (I.ok.hd C) g λh' G=>#[rfl,I.turned (t':=s.toks) (λb o j e=>G b o j e) f0 f1 r f4 n]
 self:=λ_ _ _ _ _ st h=>t0 st h
section
variable {X:Cx}
def iRv (K:FG) (ta:TA):TI:=λY H R=>ta Y H λb H1=>∃ a xs,b=[.ref a]/\SqT K H1 a xs/\R (Itv K a xs.length) H1
theorem mY:bootBuiltins "reversed"=some (.type "reversed"):=by decide +kernel
theorem pi_rv {tg a:Expr} {ta:TA} {p pos:Pos} (t:Gl X "reversed") (hm:X.mg "reversed"=none) (l:PA X [a] ta) (n:starEach [a] X.env=[(false,eval a X.env)]:=by rfl):PI X tg (.Call (.Name "reversed" p) [a] [] pos) (iRv X.K ta):=by
 intro pins s Y H R I h
 refine Call_ (fW I t hm mY (PyProof.Rows.callWith_type1 (thn (l pos pins s Y H _ I h) λus s1 #[v,H1,c,k,g]=>?_) n rfl))
 obtain ⟨a,xs,e,m,q⟩:=g
 subst e
 obtain ⟨u,rfl,i⟩:=eE k
 cases i
 obtain ⟨its,j,pl,hz⟩:=c.tuple m
 have f:its.toArray.size=xs.length:=by rw[FE,<- j.length]
 refine BP (show IsTup s1.heap a its.toArray from pl) (by rw[f];exact Nat.lt_of_le_of_lt hz (by decide)) λtk=>?_
 have d:IsRv (s1.heap.push (sS a ((its.toArray.size:Int) - 1))) s1.heap.objs.size a ((its.toArray.size:Int) - 1):=#[_,Fs _ rfl,rfl,rfl]
 refine t0 (s:={ s1 with heap:=s1.heap.push (sS a ((its.toArray.size:Int) - 1)),toks:=tk }) d ?_
 refine #[s1.heap.objs.size,[s1.heap.objs.size],_,_,H1,rfl,c.kept (t':=tk) λb o e=>Fg _ e,zG a _ xs.length,?_,λb r=>?_,q]
 .show IsRv _ _ _ _
  rw[<- f]
  simpa using d
 .have e:b=s1.heap.objs.size:=by simpa using r
  subst e
  exact c.fpOk (FA _) (c.hok.fresh (FA _))
end
theorem xG (xs:Array Value):((List.range xs.size).filterMap λ(m:Nat)=>xs[(((xs.size:Int) - 1)+(m:Int) * (-1)).toNat]?)=xs.toList.reverse:=by
 have h:∀ (l:List Value) (k:Nat),k<=l.length->((List.range k).filterMap λm:Nat=>l[((l.length:Int) - 1+(m:Int) * (-1)).toNat]?)=l.reverse.take k:=by
  intro l k
  induction k with
  | zero=>intro _;simp
  | succ k ih =>
   intro a
   rw[List.range_succ,List.filterMap_append,ih (by lia),List.take_add_one]
   congr 1
   have e:((l.length:Int) - 1+(k:Int) * (-1)).toNat=l.length - 1 - k:=by lia
   rw[List.filterMap_cons,List.filterMap_nil,e,List.getElem?_reverse (by lia)]
   cases l[l.length - 1 - k]? <;> rfl
 have:=h xs.toList xs.size (by simp)
 simp only[Array.length_toList,Array.getElem?_toList] at this
 rw[this,F1 (by simp)]
section
variable {prog:Program} {w:World} {A:Around} {E:Value->Shared->Prop} {s:Shared}
theorem jQ {sl:Addr} {t:Tok} {n:Nat} {Q:Int×Int×Nat->Shared->Prop} (d:s.heap.IsSliceOf sl .none .none (.int (-1) t)) (h:Q ((n:Int) - 1,-1,n) s) :
  wpAny (model prog w) A (Builtin.Slice.sliceApplied (.ref sl) (pure (n:Int))) Q E s:=by
 obtain ⟨os,a,e,b⟩:=id d
 unfold Builtin.Slice.sliceApplied Builtin.Slice.sliceFields
 refine Fb (Fb (wpAny_field a b (x:=.none) rfl (Fb (wpAny_field a b (x:=.none) rfl (Fb (wpAny_field a b (x:=.int (-1) t) rfl (Fc ?_)))))))
 refine Fb (HT.slicePart_ (.int (-1) t) ?_)
 show wpAny _ _ (if ((-1:Int) == 0)=true then _ else _) _ _ s
 rw[if_neg (by decide)]
 refine Fb (HT.slicePart_ .none (Fb (HT.slicePart_ .none (Fb (Fc ?_)))))
 have e1:Builtin.Slice.sliceAdjust none none (-1) (n:Int)=((n:Int) - 1,-1):=rfl
 show wpAny _ _ (match Builtin.Slice.sliceAdjust none none (-1) (n:Int) with | (lo,hi)=>pure (lo,(-1:Int),Builtin.Slice.slicePlaces lo hi (-1))) _ _ s
 rw[e1]
 have c:Builtin.Slice.slicePlaces ((n:Int) - 1) (-1) (-1)=n:=by
  unfold Builtin.Slice.slicePlaces
  rw[if_neg (by decide)]
  by_cases q:(n:Int) - 1 > -1
  .rw[if_pos q]
   have:((n:Int) - 1 - -1 - 1) / (- -1)+1=n:=by
    rw[show (- -1:Int)=1 from rfl,Int.ediv_one];lia
   rw[this];simp
  .rw[if_neg q]
   have:n=0:=by lia
   subst this;rfl
 show wpAny _ _ (pure ((n:Int) - 1,(-1:Int),Builtin.Slice.slicePlaces ((n:Int) - 1) (-1) (-1))) _ _ s
 rw[c]
 exact Fc h
theorem jH {t sl:Addr} {items:Array Value} {u:Tok} {Q:Value->Shared->Prop} (b:IsTup s.heap t items) (f:s.heap.IsSliceOf sl .none .none (.int (-1) u))
  (h:Q (.ref s.heap.objs.size) { s with heap:=s.heap.push { cls:=.type "tuple",data:=.seq items.toList.reverse.toArray } })
  (hsz:items.size<=sizeLine):wpAny (model prog w) A (getItem (.ref t) (.ref sl)) Q E s:=by
 have a:sizeOk (.seq items.toList.reverse.toArray):=by
  show items.toList.reverse.toArray.size<=sizeLine
  rw[FE,List.length_reverse,Array.length_toList]
  exact hsz
 obtain ⟨os,c,e,g⟩:=id f
 have d:s.TypeIs (.ref sl) "slice":=#[os,c,e]
 unfold getItem
 try with_reducible refine Fd ?_
 first | refine Fb (Fc ?_) | skip
 refine Fb (wpAny_sequenceKey b.typeIs (by decide) ?_)
 refine Fb (wpAny_callSpecial?_slot (name:=Str.ofString "__getitem__") b.typeIs PyProof.Rows.slot_tuple_getitem
  (wpAny_call_entry PyProof.Rows.slot_tuple_getitem b.typeIs entry_tuple_getitem ?_ (args_tuple_getitem _ _)))
 show wpAny _ _ (Builtin.Tuple.tupleItemsOf (.ref t) >>= _) _ _ s
 refine Fb (tupleItemsOf_ b ?_)
 refine Fb (wpAny_typeOf d ?_)
 rw[if_pos (by decide)]
 refine Fb (jQ f ?_)
 show wpAny _ _ (if (((items.size:Int) - 1 == 0) && ((-1:Int) == 1) && (items.size == items.size))=true then _ else _) _ _ s
 rw[if_neg (by simp),xG]
 first
  | exact Fb (m:=Builtin.Tuple.tupleExact _) (wpAny_newObj_type (Fc #[_,rfl,Fc h]) a)
  | exact Fb (m:=Builtin.Tuple.tupleExact _) (wpAny_newObj_type (Fb (Fc (Fc #[_,rfl,Fc h]))) a)
  | exact Fb (Fb (m:=Builtin.Tuple.tupleExact _) (wpAny_newObj_type (Fc (Fc #[_,rfl,Fc h])) a))
  | exact Fb (Fb (m:=Builtin.Tuple.tupleExact _) (wpAny_newObj_type (Fc #[_,rfl,Fc h]) a))
end
section
variable {X:Cx}
def BW (K:FG) (te:TE) (b:TO):TE:=λY H Q=>te Y H λx H1=>b Y H1 λo H2=>∃ a xs,o=some (-1)/\x=.ref a/\SqT K H2 a xs/\∀ p,H2 p=none->Q (.ref p) (upd H2 p (.tup xs.reverse))
theorem Vals.rev:∀ {xs:List V} {us:List Value},Vals xs us->Vals xs.reverse us.reverse
 | [],_,.nil=>.nil
 | x::xs,_,.cons r t=>by
  rw[List.reverse_cons,List.reverse_cons]
  exact (Vals.rev t).append (.cons r .nil)
theorem AU {e st:Expr} {te:TE} {d:TO} {p2 pos:Pos} (he:PE X e te) (m:PO X (some st) d):PE X (.Subscript e (.Slice none none (some st) p2) pos) (BW X.K te d):=by
 intro pins s Y H Q I h
 refine Subscript_ (thn (he pins s Y H _ I h) λv s1 #[x,H1,l,n,g]=>?_)
 refine wpAny_Slice ?_
 rw[evalPart_none]
 refine Fc ?_
 refine Fc ?_
 refine thn (m pins s1 Y H1 _ l g) λy s3 #[o,j,u,po,k]=>?_
 obtain ⟨a,xs,rfl,rfl,p,q⟩:=k
 cases n
 cases po with
 | int i t =>
 have c:Inv X pins Y j { s3 with heap:=s3.heap.push { cls:=.type "slice",data:=.fields (List.toArray [.none,.none,.int (-1) t]) } }:=u.kept (t':=s3.toks) λb ob q=>Fg _ q
 obtain ⟨its,r,f,hz⟩:=c.tuple p
 have hlen:its.toArray.size=xs.length:=by rw[FE];exact r.length.symm
 show wpAny (model X.prog X.w) X.A (subscriptTail e (.Slice none none (some st) p2) (.ref a) (.ref s3.heap.objs.size)) (EP X pins Y Q) X.xe { s3 with heap:=s3.heap.push { cls:=.type "slice",data:=.fields (List.toArray [.none,.none,.int (-1) t]) } }
 refine tail_any (ops:=[.ref a,.ref s3.heap.objs.size]) f.typeIs PyProof.Rows.slot_tuple_getitem.lookup ?_ (by with_unfolding_all rfl)
 refine jH f (Heap.IsSliceOf.new ..) ?_ (by rw[hlen];exact hz)
 refine #[.ref (s3.heap.push { cls:=.type "slice",data:=.fields (List.toArray [.none,.none,.int (-1) t]) }).objs.size,_,c.laid (t':=s3.toks) (o:=.tup xs.reverse) (λb ob q=>Fg _ q) (FA _) ?_,rfl,q _ (c.hok.fresh (FA _))]
 exact #[by rw[List.length_reverse];exact hz,_,r.rev,IsTupD.new _ _]
end
end L2
end
section
namespace L2
open PySem PySem.W PySem.Spec PyProof.Rows
abbrev excO (a:Addr) (cls:Value):HO:=.ext λh=>∃ o,h.get? a=some o/\o.cls=cls
abbrev yS (ob:Obj) (a:Addr) (cls:Value):HO:=.frz ob (excO a cls)
structure ExcK (K:FG) (D:Addr):Prop where
 ga:findIn K (.ref D) "__getattribute__"=some (some (.builtin "BaseException.__getattribute__"))
 gt:findIn K (.ref D) "__getattr__"=some none
 cl:(clsIn K D).isSome=true
 ca:findIn K (.ref D) "__class__"=some (some (.builtin "object.__class__"))
 sp:specialIn K (.builtin "object.__class__") "__get__"=some (some (.builtin "getset_descriptor.__get__"))
 tk:takesIn K (.builtin "object.__class__")=some true
 ob:mroIn K D (.type "object")=some true
 be:mroIn K D (.type "BaseException")=some true
structure XName (K:FG) (c:String) (D:Addr):Prop where
 ns:nsIn K mainGlobals (Str.ofString c)=some (some (.ref D))
 ex:ExcK K D
theorem XName.inj {K:FG} (a:XName K c D) (b:XName K c D'):D=D':=by
 have:=a.ns.symm.trans b.ns
 cases this
 rfl
end L2
end
section
namespace L2
open PySem
section
variable {K:FG} {h:Heap} {mg:Str->Option Value}
theorem yr {h:Heap} {i:Nat} {p:Obj} {q:Nat×Obj} (a:h.objs[i]?=some p) (e:qh (i,p)=some q):q.1=i /\ h.get? i=some q.2:=by
  obtain ⟨c,d,x,y⟩:=p
  unfold Heap.get?
  rw[a]
  cases x <;> first | (cases e; exact #[rfl,rfl]) | cases e
theorem jX:∀ {is:List Nat} {l:List Obj} {a:Nat} {o:Obj},(∀ (j i:Nat) (p:Obj),is[j]?=some i->l[j]?=some p->h.objs[i]?=some p)->((is.zip l).filterMap qh).lookup a=some o->h.get? a=some o
 | [],_,_,_,_,e=>by cases e
 | _::_,[],_,_,_,e=>by cases e
 | b::is,p::l,a,o,hj,e=>by
  have m:=hj 0 b p rfl rfl
  have g:∀ (j i:Nat) (p:Obj),is[j]?=some i->l[j]?=some p->h.objs[i]?=some p:=λj i p h1 h2=>hj (j+1) i p (by simpa using h1) (by simpa using h2)
  rw[List.zip_cons_cons,List.filterMap_cons] at e
  cases d:qh (b,p) with
  | none=>rw[d] at e;exact jX g e
  | some q =>
   rw[d] at e
   obtain ⟨h1,h2⟩:=yr m d
   obtain ⟨f,k⟩:=q
   cases h1
   replace e:List.lookup a ((f,k)::(is.zip l).filterMap qh)=some o:=e
   rw[List.lookup_cons] at e
   cases c:a == f with
   | true=>rw[c] at e;cases eq_of_beq c;cases e;exact h2
   | false=>rw[c] at e;exact jX g e
theorem fragAt_in (h:Heap):(yO h).In h:=λ_ _ e=>jX (λj i p h1 h2=>by
 obtain ⟨a,rfl⟩:=Fu.mp h1
 simpa using h2) e
def stPos (s:Stmt):Pos:=match s with
 | .FunctionDef _ _ _ _ _ _ _ _ _ p=>p
 | _=>#[0,0,0,0]
theorem ES (X:K.In h) (G:h.Ns mainGlobals mg) (e:qr K n=mh n st):Def K mg n st:=by
 unfold qr at e
 split at e
 .rename_i f hf
  split at e
  .rename_i c d fd sl a
   unfold mh at e
   obtain ⟨name,qual,params,body,scope,globals,closure,defaults,kw,doc,pm,an,cd,ct,bi⟩:=fd
   simp only[Option.some.injEq,Prod.mk.injEq] at e
   obtain ⟨rfl,rfl,rfl,rfl,rfl,rfl,rfl,rfl,rfl,b⟩:=e
   exact #[f,_,EK (st:=st) a b (by unfold PySem.W.keepIn;simp only[a]),PySem.W.mg_of X G hf]
  .cases e
 .cases e
theorem rC {α β:Type} {f g:α->β} {l:List α} (e:l.map f=l.map g) (i:Nat) {a:α} (h:l[i]?=some a):f a=g a:=List.map_inj_left.mp e a (Fv h)
theorem aB {ds:List (Str×Stmt)} (X:K.In h) (G:h.Ns mainGlobals mg) (e:ds.map (λp=>qr K p.1)=ds.map (λp=>mh p.1 p.2)) (i:Nat) (hi:ds[i]?=some (n,st)):Def K mg n st:=ES X G (rC e i hi)
theorem ci {l:List Str} (X:K.In h) (G:h.Ns mainGlobals mg) (e:l.map (PySem.W.nsIn K mainGlobals)=l.map (λ_=>some none)) (i:Nat) (hi:l[i]?=some n):mg n=none:=PySem.W.mg_none_of X G (rC e i hi)
theorem rW {l:List (Str×Int)} {v:Int} (X:K.In h) (G:h.Ns mainGlobals mg) (e:l.map (λp=>oQ K p.1)=l.map (λp=>some p.2)) (i:Nat) (hi:l[i]?=some (n,v)):∃ t,mg n=some (.int v t):=by
 have e:=rC e i hi
 unfold oQ at e
 dsimp only at e
 split at e
 .rename_i b t a;cases e;exact #[t,PySem.W.mg_of X G a]
 .cases e
theorem walk_ofS {l:PySem.W.OpenLaw} {n k:Nat} {S:FG->Prop} {sp:FG->Sp} (B:l.most=some n) (m:n<=sizeLine) (j:d.params.defaults=[]) (C:Room k callerA) (I:∀ (w:World) (h:Heap),YP w h->∃ K:FG,K.In h/\S K) (F:∀ (w:World) (mg:Str->Option Value) (i:Addr) (h:Heap) (K:FG),S K->K.In h->h.Ns mainGlobals mg->mg d.name=some (.ref i) ->
   ∃ fd:FuncData,(∀ (s:Shared) (u:Value),BindsTo s fd #[[u],[]] [(x,u)]) /\
    ∀ base:Heap,K.In base->base.Ns mainGlobals mg->FnOk l.prog w K mg base CX k i fd [x] (sp K)) (t:∀ (K:FG) (H:Hp) (a:Addr) (ns:List Int),ns.length<=n->BV H->SqL K H a (ns.map V.int)->sp K [.ref a] H (λv _=>v=.bl true) λ_ _ _=>False) (r:∀ (H:Hp) (s:Shared) (e:Value) (s':Shared),CX [] H s (λ_ _ _=>False) e s'->False) :
  PySem.W.WalkO q loose XP YP l.row.toRowW d [] (λf A=>PySem.call f A):=by
 refine Att.attach_call B j λw s₀ L mg mb i o pm cd doc a A ns G σ O hd E p c hints hlen N=>?_
 obtain ⟨K,z,y⟩:=I w _ σ
 obtain ⟨fd,M,J⟩:=F w mg i _ K y z G.T.g p
 exact yy z G.T.g G.T.b G.T.builtins G.T.nolimit N c hints (FZ hlen m) C J M (λH D y=>t K H a ns hlen D y) λH e s'=>r H L e s'
end
end L2
end
section
namespace L3
open PySem L2
theorem nsE {α:Type} {p:α} {P:Prop} (e:(none:Option α)=some p):P:=nomatch e
inductive D where
 | non | bl (b:Bool) | int (i:Int) | str (x:Str)
 | tup (xs:List D) | lst (xs:List D) | fls (xs:List D) | dk (kvs:List (Key×D)) | dt (kvs:List (List Key×D))
 | exc (c:String) (fs:List (String×D))
def jE:D->Bool
 | .lst _=>true
 | .dk _=>true
 | .dt _=>true
 | _=>false
def FzL (K:FG) (H:Hp) (a:Addr) (b:List V):Prop:=(∃ o,H a=some (.frz o (.lst b)))\/∃ (o:Obj) (its:Array Value) (n:Nat),K.lookup a=some o/\o.cls=.type "list"/\o.dict=none/\o.data=.seq its n/\its.size<=sizeLine/\Vals b its.toList
theorem FzL.sq (h:FzL K H a vs):SqL K H a vs:=h.elim (λ#[o,e]=>.inl (.inr #[o,e])) .inr
inductive Reps (R:D->V->List Addr->Prop):List D->List V->List Addr->Prop where
 | nil:Reps R [] [] []
 | cons {d v L ds vs L'}:R d v L->Reps R ds vs L'->Reps R (d::ds) (v::vs) (L++L')
inductive Rep (K:FG) (H:Hp):D->V->List Addr->Prop where
 | non:Rep K H .non .non []
 | bl (b:Bool):Rep K H (.bl b) (.bl b) []
 | int (i:Int):Rep K H (.int i) (.int i) []
 | str (x:Str):Rep K H (.str x) (.str x) []
 | tup {xs a vs L}:H a=some (.tup vs)->Reps (Rep K H) xs vs L->Rep K H (.tup xs) (.ref a) L
 | lst {xs a vs L}:H a=some (.lst vs)->Reps (Rep K H) xs vs L->Rep K H (.lst xs) (.ref a) (a::L)
 | lstF {xs a vs L}:FzL K H a vs->Reps (Rep K H) xs vs L->Rep K H (.fls xs) (.ref a) L
 | dK {kvs a ps L}:H a=some (.dK ps)->kvs.map (·.1)=ps.map (·.1)->Reps (Rep K H) (kvs.map (·.2)) (ps.map (·.2)) L->Rep K H (.dk kvs) (.ref a) (a::L)
 | dT {kvs a ps n L}:H a=some (.dT ps n)->kvs.map (·.1)=ps.map (·.1)->Reps (Rep K H) (kvs.map (·.2)) (ps.map (·.2)) L->Rep K H (.dt kvs) (.ref a) (a::L)
 | exc {c a D ob}:XName K c D->H a=some (yS ob a (.ref D))->Rep K H (.exc c []) (.ref a) []
 | excV {c a D ob n x v d od u}:XName K c D->H a=some (yS ob a (.ref D))->ob.dict=some d->H d=some (yS od d od.cls)->PySem.W.lookIn (Str.ofString n) od=some (some u)->RelV v u->PySem.W.notCls ob=true->Rep K H x v []->Rep K H (.exc c [(n,x)]) (.ref a) []
def PayX (K:FG) (H:Hp) (da:Option Addr):List (String×D)->Prop
 | []=>True
 | [(n,x)]=>∃ v d a u,da=some d/\H d=some (yS a d a.cls)/\PySem.W.lookIn (Str.ofString n) a=some (some u)/\RelV v u/\Rep K H x v []
 | _=>False
def RepV (K:FG) (H:Hp) (d:D) (v:V) (L:List Addr):Prop:=match d with
 | .non=>v=.non/\L=[]
 | .bl b=>v=.bl b/\L=[]
 | .int i=>v=.int i/\L=[]
 | .str x=>v=.str x/\L=[]
 | .tup xs=>∃ a e,v=.ref a/\H a=some (.tup e)/\Reps (Rep K H) xs e L
 | .lst xs=>∃ a e L',v=.ref a/\L=a::L'/\H a=some (.lst e)/\Reps (Rep K H) xs e L'
 | .fls xs=>∃ a e,v=.ref a/\FzL K H a e/\Reps (Rep K H) xs e L
 | .dk kvs=>∃ a ps L',v=.ref a/\L=a::L'/\H a=some (.dK ps)/\kvs.map (·.1)=ps.map (·.1)/\Reps (Rep K H) (kvs.map (·.2)) (ps.map (·.2)) L'
 | .dt kvs=>∃ a ps L',v=.ref a/\L=a::L'/\HdT H a ps/\kvs.map (·.1)=ps.map (·.1)/\Reps (Rep K H) (kvs.map (·.2)) (ps.map (·.2)) L'
 | .exc c fs=>L=[]/\∃ a D ob,v=.ref a/\XName K c D/\H a=some (yS ob a (.ref D))/\PayX K H ob.dict fs/\(fs≠[]->PySem.W.notCls ob=true)
theorem Rep.view (r:Rep K H d v L):RepV K H d v L:=by
 cases r with
 | non=>exact #[rfl,rfl]
 | bl b=>exact #[rfl,rfl]
 | int i=>exact #[rfl,rfl]
 | str x=>exact #[rfl,rfl]
 | tup h r=>exact #[_,_,rfl,h,r]
 | lst h r=>exact #[_,_,_,rfl,rfl,h,r]
 | lstF h r=>exact #[_,_,rfl,h,r]
 | dK h k r=>exact #[_,_,_,rfl,rfl,h,k,r]
 | dT h k r=>exact #[_,_,_,rfl,rfl,#[_,h],k,r]
 | exc n h=>exact #[rfl,_,_,_,rfl,n,h,trivial,λz=>absurd rfl z]
 | excV n h1 h2 h3 h4 h5 h7 h6=>exact #[rfl,_,_,_,rfl,n,h1,#[_,_,_,_,h2,h3,h4,h5,h6],λ_=>h7]
def MutAt (H:Hp) (b:Addr):Prop:=(∃ xs,H b=some (.lst xs))\/(∃ ps,H b=some (.dK ps))\/∃ ps n,H b=some (.dT ps n)
theorem MutAt.ex (m:MutAt H b):∃ o,H b=some o:=by
 rcases m with ⟨_,h⟩ | ⟨_,h⟩ | ⟨_,_,h⟩ <;> exact #[_,h]
theorem MutAt.notup (m:MutAt H b) (h:H b=some (.tup vs)):False:=by
 rcases m with ⟨_,e⟩ | ⟨_,e⟩ | ⟨_,_,e⟩ <;> rw[e] at h <;> cases h
theorem MutAt.nofrz (m:MutAt H b) (h:H b=some (.frz o u)):False:=by
 rcases m with ⟨_,e⟩ | ⟨_,e⟩ | ⟨_,_,e⟩ <;> rw[e] at h <;> cases h
theorem FzL.keep {M:Addr->Prop} (h:FzL K H a vs) (k:∀ b o,H b=some o->¬ M b->H' b=some o) (hm:∀ b,M b->MutAt H b):FzL K H' a vs:=h.elim (λ#[o,e]=>.inl #[o,k a _ e λz=>(hm a z).nofrz e]) .inr
section
variable {K:FG} {H H':Hp} {d:D} {v:V} {L:List Addr}
theorem Rep.inH (r:Rep K H d v L):∀ b∈L,MutAt H b:=by
 refine Rep.rec (motive_1:=λ_ _ L _=>∀ b∈L,MutAt H b) (motive_2:=λ_ _ L _=>∀ b∈L,MutAt H b) ?_ ?_ ?_ ?_ ?_ ?_ ?_ ?_ ?_ ?_ ?_ ?_ ?_ r
 .intro b a;cases a
 .intro _ b a;cases a
 .intro _ b a;cases a
 .intro _ b a;cases a
 .intro _ _ _ _ _ _ c;exact c
 .intro _ _ _ _ h _ c b a
  rcases Fm.mp a with e | a
  .rw[e];exact .inl #[_,h]
  .exact c b a
 .intro _ _ _ _ _ _ c;exact c
 .intro _ _ _ _ h _ _ c b a
  rcases Fm.mp a with e | a
  .rw[e];exact .inr (.inl #[_,h])
  .exact c b a
 .intro _ _ _ _ _ h _ _ c b a
  rcases Fm.mp a with e | a
  .rw[e];exact .inr (.inr #[_,_,h])
  .exact c b a
 .intro _ _ _ _ _ _ b a;cases a
 .intros;rename_i a;cases a
 .intro b a;cases a
 .intro _ _ _ _ _ _ _ _ g f b a
  rcases Fq.mp a with h | h
  .exact g b h
  .exact f b h
theorem Reps.inH (r:Reps (Rep K H) ds vs L):∀ b∈L,MutAt H b:=by
 induction r with
 | nil=>intro b a;cases a
 | cons r _ ih =>
  intro b a
  rcases Fq.mp a with h | h
  .exact r.inH b h
  .exact ih b h
theorem Rep.keep {M:Addr->Prop} (k:∀ b o,H b=some o->¬ M b->H' b=some o) (hm:∀ b,M b->MutAt H b) (r:Rep K H d v L):(∀ b∈L,¬ M b)->Rep K H' d v L:=by
 refine Rep.rec (motive_1:=λd v L _=>(∀ b∈L,¬ M b)->Rep K H' d v L) (motive_2:=λds j L _=>(∀ b∈L,¬ M b)->Reps (Rep K H') ds j L) ?_ ?_ ?_ ?_ ?_ ?_ ?_ ?_ ?_ ?_ ?_ ?_ ?_ r
 .intro _;exact .non
 .intro b _;exact .bl b
 .intro b _;exact .int b
 .intro b _;exact .str b
 .intro xs a j L h _ g f
  exact .tup (k a _ h λz=>(hm a z).notup h) (g f)
 .intro xs a j L h _ g f
  exact .lst (k a _ h (f a Fe)) (g λb i=>f b (Ff _ i))
 .intro xs a j L h _ g f
  exact .lstF (h.keep k hm) (g f)
 .intro kvs a ps L h e _ g f
  exact .dK (k a _ h (f a Fe)) e (g λb i=>f b (Ff _ i))
 .intro kvs a ps n L h e _ g f
  exact .dT (k a _ h (f a Fe)) e (g λb i=>f b (Ff _ i))
 .intro c a D ob n h _
  exact .exc n (k a _ h λz=>(hm a z).nofrz h)
 .intro c a D ob n x v d A u e1 l p m y q w _ g _
  exact .excV e1 (k a _ l λz=>(hm a z).nofrz l) p (k d _ m λz=>(hm d z).nofrz m) y q w (g λ_ h=>nomatch h)
 .intro _;exact .nil
 .intro d v L ds j L' _ _ s t f
  exact .cons (s λb i=>f b (Fi _ i)) (t λb i=>f b (Fj _ i))
theorem Rep.same (r:Rep K H d v L) (s:Same H H'):Rep K H' d v L:=r.keep (M:=λ_=>False) (λb o h _=>s b o h) (λ_ z=>z.elim) λ_ _ z=>z
theorem Reps.keep {M:Addr->Prop} (k:∀ b o,H b=some o->¬ M b->H' b=some o) (hm:∀ b,M b->MutAt H b) (r:Reps (Rep K H) ds vs L):(∀ b∈L,¬ M b)->Reps (Rep K H') ds vs L:=by
 induction r with
 | nil=>intro _;exact .nil
 | cons r _ ih=>intro c;exact .cons (r.keep k hm λb a=>c b (Fi _ a)) (ih λb a=>c b (Fj _ a))
theorem Reps.same (r:Reps (Rep K H) ds vs L) (s:Same H H'):Reps (Rep K H') ds vs L:=r.keep (M:=λ_=>False) (λb o h _=>s b o h) (λ_ z=>z.elim) λ_ _ z=>z
end
inductive Fl where
 | u | l | z
 deriving DecidableEq
structure It3 where
 d:D
 v:V
 L:List Addr
 f:Fl
abbrev Sto:=List (Option (D×Fl))
structure Gm where
 H0:Hp
 bw:Addr->Prop
 pr:Nat->Bool
 Y0:St
 orig:Hp
 src:Addr->Prop
 lv:Nat->Option V
def OwnOk (G:Gm) (x:It3):Prop:=jE x.d=true/\∃ a L',x.v=.ref a/\x.L=a::L'/\a ∉ L'/\(x.f=.u->G.H0 a=none\/G.bw a)
structure ItOk (K:FG) (G:Gm) (H:Hp) (x:It3):Prop where
 rep:Rep K H x.d x.v x.L
 own:x.f≠.z->OwnOk G x
 src:∀ c∈x.L,G.H0 c=none\/G.src c
structure Fx (G:Gm) (H:Hp) (T:List It3) (g:Nat->Option It3):Prop where
 frT:∀ x∈T,x.f≠.z->∀ a,x.v=.ref a->G.orig a=none
 frS:∀ i x,g i=some x->G.pr i=false->x.f≠.z->∀ a,x.v=.ref a->G.orig a=none
 bin:∀ b,G.bw b->∃ o,H b=some o
 ob:∀ b o,G.orig b=some o->∃ o',H b=some o'
 lvS:∀ i x,g i=some x->x.f=.l->G.lv i=some x.v
def NoRoot (x y:It3):Prop:=x.f≠.z->∀ a,x.v=.ref a->a ∉ y.L
def Apart3 (x y:It3):Prop:=NoRoot x y/\NoRoot y x
structure Wf (K:FG) (G:Gm) (H:Hp) (Y:St) (Z:Sto) (T:List It3) (g:Nat->Option It3):Prop where
 len:Y.length=Z.length
 sl:∀ i,(g i).map (λx=>(x.d,x.f))=(Z[i]?).join
 sv:∀ i x,g i=some x->Y[i]?=some (some x.v)
 okS:∀ i x,g i=some x->ItOk K G H x
 okT:∀ x∈T,ItOk K G H x
 ss:∀ i j x y,i≠j->g i=some x->g j=some y->NoRoot x y
 st:∀ i x,g i=some x->∀ y∈T,Apart3 x y
 tt:T.Pairwise Apart3
 base:∀ b o,G.H0 b=some o->¬ G.bw b->H b=some o
 pro:∀ i,G.pr i=true->Y[i]?=G.Y0[i]?
 fx:Fx G H T g
structure Le (K:FG) (G:Gm) (W:D->Sto->Prop) (G0:Gm) (W0:D->Sto->Prop):Prop where
 pr:G.pr=G0.pr
 ex:∀ (H:Hp) (Y:St) (Z:Sto) (T:List It3) (g:Nat->Option It3) (e:D),Wf K G H Y Z T g->W e Z->∃ Z0 T0 g0,Wf K G0 H Y Z0 T0 g0/\W0 e Z0
theorem Le.refl (K:FG) (G:Gm) (W:D->Sto->Prop):Le K G W G W:=#[rfl,λ_ _ Z T g _ w h=>#[Z,T,g,w,h]]
theorem Le.trans (a:Le K G W G1 W1) (b:Le K G1 W1 G2 W2):Le K G W G2 W2:=⟨a.pr.trans b.pr,λH Y Z T g e w h=>by
 obtain ⟨Z1,c,g1,d,h1⟩:=a.ex H Y Z T g e w h
 exact b.ex H Y Z1 c g1 e d h1⟩
section
variable {K:FG} {G:Gm} {H H':Hp} {Y:St} {Z:Sto} {T T':List It3} {g:Nat->Option It3} {x y z:It3}
theorem ItOk.keep {M:Addr->Prop} (h:ItOk K G H x) (k:∀ b o,H b=some o->¬ M b->H' b=some o) (hm:∀ b,M b->MutAt H b) (a:∀ b∈x.L,¬ M b):ItOk K G H' x:=#[h.rep.keep k hm a,h.own,h.src]
theorem ItOk.same (h:ItOk K G H x) (s:Same H H'):ItOk K G H' x:=#[h.rep.same s,h.own,h.src]
theorem Fx.more (f:Fx G H T g) (s:∀ b o,H b=some o->∃ o',H' b=some o'):Fx G H' T g:=#[f.frT,f.frS,λb h=>let #[o,e]:=f.bin b h;s b o e,λb o h=>let #[o',e]:=f.ob b o h;s b o' e,f.lvS]
theorem Fx.sub (f:Fx G H T g) (h:∀ x∈T',x∈T):Fx G H T' g:=#[λx a=>f.frT x (h x a),f.frS,f.bin,f.ob,f.lvS]
theorem Wf.grow (w:Wf K G H Y Z T g) (s:Same H H'):Wf K G H' Y Z T g :=
 #[w.len,w.sl,w.sv,λi x e=>(w.okS i x e).same s,λx a=>(w.okT x a).same s,w.ss,w.st,w.tt,λb o e n=>s b o (w.base b o e n),w.pro,w.fx.more λb o h=>#[o,s b o h]]
theorem Wf.sub (w:Wf K G H Y Z T g) (h:T'.Sublist T):Wf K G H Y Z T' g :=
 #[w.len,w.sl,w.sv,w.okS,λx a=>w.okT x (h.subset a),w.ss,λi x e y b=>w.st i x e y (h.subset b),w.tt.sublist h,w.base,w.pro,w.fx.sub λx a=>h.subset a]
def Itm (T:List It3) (g:Nat->Option It3) (y:It3):Prop:=(∃ i,g i=some y)\/y∈T
def d7 (T:List It3) (g:Nat->Option It3) (c:Addr):Prop:=(∀ i z,g i=some z->z.f≠.z->z.v≠.ref c)/\∀ z∈T,z.f≠.z->z.v≠.ref c
theorem Wf.itm (w:Wf K G H Y Z T g) (h:Itm T g y):ItOk K G H y:=by
 rcases h with ⟨i,e⟩ | h
 .exact w.okS i y e
 .exact w.okT y h
theorem oB {α:Type} {R:α->α->Prop} {l:List α} (p:l.Pairwise R) (h:∀ a b,R a b->R b a):∀ a∈l,∀ b∈l,a≠b->R a b:=by
 induction p with
 | nil=>intro a d;cases d
 | @cons c l hc _ ih =>
  intro a d b e n
  rcases Fm.mp d with g | d
  .rcases Fm.mp e with f | e
   .exact absurd (g.trans f.symm) n
   .rw[g];exact hc b e
  .rcases Fm.mp e with f | e
   .rw[f];exact h _ _ (hc a d)
   .exact ih a d b e n
theorem Apart3.symm (h:Apart3 x y):Apart3 y x:=#[h.2,h.1]
theorem Wf.kid (w:Wf K G H Y Z T g) (h:Itm T g y) (d:c∈y.L) (m:y.f≠.z->y.v≠.ref c):d7 T g c:=by
 refine #[λi z e hz a=>?_,λz hm hz a=>?_]
 .rcases h with ⟨j,b⟩ | k
  .by_cases l:i=j
   .subst l
    rw[e] at b
    cases b
    exact m hz a
   .exact w.ss i j z y l e b hz c a d
  .exact (w.st i z e y k).1 hz c a d
 .rcases h with ⟨j,b⟩ | k
  .exact (w.st j y b z hm).2 hz c a d
  .by_cases e:z=y
   .subst e;exact m hz a
   .exact (oB w.tt (λ_ _=>Apart3.symm) z hm y k e).1 hz c a d
structure New (K:FG) (H H':Hp) (Ks:Addr->Prop) (x:It3):Prop where
 same:Same H H'
 rep:Rep K H' x.d x.v x.L
 sub:∀ c∈x.L,H c=none\/Ks c
 own:x.f≠.z->jE x.d=true/\∃ a L',x.v=.ref a/\x.L=a::L'/\a ∉ L'/\H a=none
theorem Wf.h0none (w:Wf K G H Y Z T g) (h:H a=none):G.H0 a=none:=by
 cases e:G.H0 a with
 | none=>rfl
 | some o =>
  by_cases b:G.bw a
  .obtain ⟨o,e⟩:=w.fx.bin a b
   rw[h] at e;cases e
  .have:=w.base a o e b
   rw[h] at this;cases this
theorem Wf.ornone (w:Wf K G H Y Z T g) (h:H a=none):G.orig a=none:=by
 cases e:G.orig a with
 | none=>rfl
 | some o =>
  obtain ⟨o,e⟩:=w.fx.ob a o e
  rw[h] at e;cases e
theorem Wf.push (w:Wf K G H Y Z T g) (n:New K H H' Ks x) (q:∀ c,Ks c->d7 T g c/\(G.H0 c=none\/G.src c)):Wf K G H' Y Z (x::T) g:=by
 have d:=w.grow n.same
 have a1:∀ y:It3,ItOk K G H y->(∀ c,Ks c->y.f≠.z->y.v≠.ref c)->Apart3 y x:=λy p b=>by
  refine #[λhf a e hm=>?_,λhf a e hm=>?_]
  .obtain ⟨_,u,L',e1,j,_,_⟩:=p.own hf
   rw[e] at e1
   cases e1
   rcases n.sub a hm with h | h
   .obtain ⟨o,l⟩:=(p.rep.inH a (by rw[j];exact Fe)).ex
    rw[h] at l;cases l
   .exact b a h hf e
  .obtain ⟨_,u,L',e1,j,_,h⟩:=n.own hf
   rw[e] at e1
   cases e1
   obtain ⟨o,l⟩:=(p.rep.inH a hm).ex
   rw[h] at l;cases l
 refine #[d.len,d.sl,d.sv,d.okS,?_,d.ss,?_,?_,d.base,d.pro,#[λy b hf a t=>?_,d.fx.frS,d.fx.bin,d.fx.ob,d.fx.lvS]]
 .intro y b
  rcases Fm.mp b with rfl | b
  .refine #[n.rep,λhf=>?_,λc k=>?_]
   .obtain ⟨r,a,L',e1,j,s,m⟩:=n.own hf
    exact #[r,a,L',e1,j,s,λ_=>.inl (w.h0none m)]
   .rcases n.sub c k with h | h
    .exact .inl (w.h0none h)
    .exact (q c h).2
  .exact d.okT y b
 .intro i z e y b
  rcases Fm.mp b with rfl | b
  .exact a1 z (w.okS i z e) λc k=>(q c k).1.1 i z e
  .exact d.st i z e y b
 .refine List.pairwise_cons.mpr #[λy b=>(a1 y (w.okT y b) λc k=>(q c k).1.2 y b).symm,d.tt]
 .rcases Fm.mp b with h | b
  .subst h
   obtain ⟨r,u,L',e1,j,s,m⟩:=n.own hf
   rw[t] at e1
   cases e1
   exact w.ornone m
  .exact d.fx.frT y b hf a t
def dR (ys:List It3) (c:Addr):Prop:=∃ y∈ys,c∈y.L/\(y.f≠.z->y.v≠.ref c)
theorem Wf.kids (w:Wf K G H Y Z T g) (a:∀ y∈ys,Itm T g y) (h:dR ys c):d7 T g c/\(G.H0 c=none\/G.src c):=by
 obtain ⟨y,m,b,d⟩:=h
 exact #[w.kid (a y m) b d,(w.itm (a y m)).src c b]
structure Arg (K:FG) (H:Hp) (p:It3):Prop where
 rep:Rep K H p.d p.v p.L
 own:p.f≠.z->jE p.d=true/\∃ a L',p.v=.ref a/\p.L=a::L'/\a ∉ L'
theorem ItOk.arg (h:ItOk K G H x):Arg K H x:=⟨h.rep,λhf=>by
 obtain ⟨m,a,L',v1,v2,b,_⟩:=h.own hf
 exact ⟨m,a,L',v1,v2,b⟩⟩
end
inductive R3 where
 | pl (i:Nat) | val (d:D) (f:Fl)
abbrev M3 (α:Type):=Sto->Option (Except D α×Sto)
abbrev EM:=M3 R3
noncomputable def ac {α β:Type} (m:M3 α) (k:α->M3 β):M3 β:=λZ=>match m Z with
 | none=>none
 | some (.error e,Z')=>some (.error e,Z')
 | some (.ok a,Z')=>k a Z'
noncomputable def aT {α:Type} (a:α):M3 α:=λZ=>some (.ok a,Z)
noncomputable def aX {α:Type} (o:Option α):M3 α:=λZ=>o.map λa=>(.ok a,Z)
noncomputable def der (r:R3):M3 D:=λZ=>match r with
 | .pl i=>((Z[i]?).join).map λp=>(.ok p.1,Z)
 | .val d _=>some (.ok d,Z)
inductive Ar (Y:St):R3->V->List It3->Prop where
 | pl {i:Nat} {v:V}:Y[i]?=some (some v)->Ar Y (.pl i) v []
 | val (x:It3):Ar Y (.val x.d x.f) x.v [x]
def Got (K:FG) (G:Gm) (Y:St) (Z:Sto) (T:List It3) (r:R3) (v:V) (H:Hp):Prop:=∃ Ts g,Wf K G H Y Z (Ts++T) g/\Ar Y r v Ts
def tE (K:FG) (G0:Gm) (W0:D->Sto->Prop) (m:EM):TE:=λY H Q=>∃ G W,Le K G W G0 W0/\∃ Z T g r Z',Wf K G H Y Z T g/\m Z=some (r,Z')/\match r with
 | .ok r=>∀ v H',Got K G Y Z' T r v H'->Q v H'
 | .error e=>W e Z'
def tT (K:FG) (G0:Gm) (W0:D->Sto->Prop) (m:M3 Bool):TT:=λY H Q=>∃ G W,Le K G W G0 W0/\∃ Z T g r Z',Wf K G H Y Z T g/\m Z=some (r,Z')/\match r with
 | .ok b=>∀ H' g',Wf K G H' Y Z' T g'->Q b H'
 | .error e=>W e Z'
inductive Ars (Y:St):List R3->List V->List It3->Prop where
 | nil:Ars Y [] [] []
 | cons {r v Ts rs vs Us}:Ar Y r v Ts->Ars Y rs vs Us->Ars Y (r::rs) (v::vs) (Us++Ts)
def tA (K:FG) (G0:Gm) (W0:D->Sto->Prop) (m:M3 (List R3)):TA:=λY H Q=>∃ G W,Le K G W G0 W0/\∃ Z T g r Z',Wf K G H Y Z T g/\m Z=some (r,Z')/\match r with
 | .ok rs=>∀ a H' Ts g',Wf K G H' Y Z' (Ts++T) g'->Ars Y rs a Ts->Q a H'
 | .error e=>W e Z'
inductive Flw where
 | nx | br | ct | rt (d:D) (f:Fl)
abbrev SM:=M3 Flw
def tS (K:FG) (G0:Gm) (W0:D->Sto->Prop) (m:SM):TS:=λE Y H=>∃ G W,Le K G W G0 W0/\∃ Z T g r Z',Wf K G H Y Z T g/\m Z=some (r,Z')/\match r with
 | .ok .nx=>∀ Y' H' g',Wf K G H' Y' Z' T g'->E.nx Y' H'
 | .ok .br=>∀ Y' H' g',Wf K G H' Y' Z' T g'->E.bk Y' H'
 | .ok .ct=>∀ Y' H' g',Wf K G H' Y' Z' T g'->E.ct Y' H'
 | .ok (.rt d f)=>∀ x Y' H' g',Wf K G H' Y' Z' (x::T) g'->x.d=d->x.f=f->E.rt x.v H'
 | .error e=>W e Z'
section
variable {K:FG} {G G0:Gm} {W W0:D->Sto->Prop} {H H':Hp} {Y:St} {Z Z':Sto} {T T':List It3} {g:Nat->Option It3} {x y z:It3} {α β:Type}
theorem aH (e:ac (der r) k Z=some (o,Z')):∃ d,der r Z=some (.ok d,Z)/\k d Z=some (o,Z'):=by
 cases r with
 | pl i =>
  have a:der (.pl i) Z=((Z[i]?).join).map λp=>(.ok p.1,Z):=rfl
  unfold ac at e
  rw[a] at e ⊢
  cases h:(Z[i]?).join with
  | none=>rw[h] at e;exact nsE e
  | some p=>rw[h] at e;exact #[p.1,rfl,e]
 | val d f=>exact #[d,rfl,e]
theorem bj (e:aX o Z=some (r,Z')):∃ a,o=some a/\r=.ok a/\Z'=Z:=by
 unfold aX at e
 cases o with
 | none=>exact nsE e
 | some a=>cases e;exact #[a,rfl,rfl,rfl]
theorem Wf.slot (w:Wf K G H Y Z T g) {i:Nat} (e:(Z[i]?).join=some (d,f)):∃ y,g i=some y/\y.d=d/\y.f=f/\Y[i]?=some (some y.v):=by
 have h:=w.sl i
 rw[e] at h
 cases q:g i with
 | none=>rw[q] at h;exact nsE h
 | some y =>
  rw[q] at h
  cases h
  exact #[y,rfl,rfl,rfl,w.sv i y q]
theorem Ar.item (w:Wf K G H Y Z T g) (a:Ar Y r v Ts) (j:∀ x∈Ts,x∈T) (e:der r Z=some (.ok d,Z)):∃ y,Itm T g y/\y.d=d/\y.v=v:=by
 cases a with
 | @pl i v h =>
  have k:der (.pl i) Z=((Z[i]?).join).map λp=>(.ok p.1,Z):=rfl
  rw[k] at e
  cases q:(Z[i]?).join with
  | none=>rw[q] at e;exact nsE e
  | some p =>
   rw[q] at e
   obtain ⟨y,e1,c,m,b⟩:=w.slot (d:=p.1) (f:=p.2) q
   have l:p.1=d:=by cases e;rfl
   rw[h] at b
   refine #[y,.inl #[i,e1],c.trans l,?_]
   cases b;rfl
 | val x=>cases e;exact #[x,.inr (j x (by simp)),rfl,rfl]
theorem Wf.done (w:Wf K G H Y Z (Us++T) g) (a:∀ y∈ys,Itm (Us++T) g y) (n:New K H H' (dR ys) x):Got K G Y Z T (.val x.d x.f) x.v H' :=
 #[[x],g,(w.push n λc h=>w.kids a h).sub (by simpa using List.Sublist.cons_cons x (Fw Us T)),.val x]
theorem tE.seq (le:Le K G W G0 W0) (w:Wf K G H Y Z T g) (e:ac ma k Z=some (r,Z')) (he:∀ x,r=.error x->W x Z') (h:∀ ra Z1,k ra Z1=some (r,Z')->∀ v H1,Got K G Y Z1 T ra v H1->P v H1):tE K G0 W0 ma Y H P:=by
 unfold ac at e
 cases q:ma Z with
 | none=>rw[q] at e;exact nsE e
 | some p =>
  obtain ⟨o,Z1⟩:=p
  rw[q] at e
  cases o with
  | error x=>cases e;exact #[G,W,le,Z,T,g,.error x,Z',w,q,he x rfl]
  | ok ra=>exact #[G,W,le,Z,T,g,.ok ra,Z1,w,q,h ra Z1 e]
theorem tT.seq (le:Le K G W G0 W0) (w:Wf K G H Y Z T g) (e:ac ma k Z=some (r,Z')) (he:∀ x,r=.error x->W x Z') (h:∀ b Z1,k b Z1=some (r,Z')->∀ H1 g1,Wf K G H1 Y Z1 T g1->P b H1):tT K G0 W0 ma Y H P:=by
 unfold ac at e
 cases q:ma Z with
 | none=>rw[q] at e;exact nsE e
 | some p =>
  obtain ⟨o,Z1⟩:=p
  rw[q] at e
  cases o with
  | error x=>cases e;exact #[G,W,le,Z,T,g,.error x,Z',w,q,he x rfl]
  | ok ra=>exact #[G,W,le,Z,T,g,.ok ra,Z1,w,q,h ra Z1 e]
theorem tA.seq (le:Le K G W G0 W0) (w:Wf K G H Y Z T g) (e:ac ma k Z=some (r,Z')) (he:∀ x,r=.error x->W x Z') (h:∀ rs Z1,k rs Z1=some (r,Z')->∀ a H1 Ts g1,Wf K G H1 Y Z1 (Ts++T) g1->Ars Y rs a Ts->P a H1):tA K G0 W0 ma Y H P:=by
 unfold ac at e
 cases q:ma Z with
 | none=>rw[q] at e;exact nsE e
 | some p =>
  obtain ⟨o,Z1⟩:=p
  rw[q] at e
  cases o with
  | error x=>cases e;exact #[G,W,le,Z,T,g,.error x,Z',w,q,he x rfl]
  | ok ra=>exact #[G,W,le,Z,T,g,.ok ra,Z1,w,q,h ra Z1 e]
def EndE (K:FG) (G:Gm) (W:D->Sto->Prop) (Y:St) (T:List It3) (Z':Sto) (Q:VK):Except D R3->Prop
 | .ok r=>∀ v H',Got K G Y Z' T r v H'->Q v H'
 | .error e=>W e Z'
theorem EndE.err (h:EndE K G W Y T Z' Q r):∀ x,r=.error x->W x Z':=by
 intro x e;subst e;exact h
theorem tE.open (h:tE K G0 W0 m Y H Q):∃ G W,Le K G W G0 W0/\∃ Z T g r Z',Wf K G H Y Z T g/\m Z=some (r,Z')/\EndE K G W Y T Z' Q r:=by
 obtain ⟨G,W,le,Z,T,g,r,Z',w,e,q⟩:=h
 refine #[G,W,le,Z,T,g,r,Z',w,e,?_]
 cases r with
 | ok r=>exact q
 | error x=>exact q
theorem tE.use (h:tE K G0 W0 m Y H Q) {P:Prop} (k:∀ G W,Le K G W G0 W0->∀ Z T g r Z',Wf K G H Y Z T g->m Z=some (r,Z')->EndE K G W Y T Z' Q r->P):P:=by
 obtain ⟨G,W,le,Z,T,g,r,Z',w,e,q⟩:=h.open
 exact k G W le Z T g r Z' w e q
theorem tE.mk (le:Le K G W G0 W0) (w:Wf K G H Y Z T g) (e:m Z=some (r,Z')) (h:EndE K G W Y T Z' Q r):tE K G0 W0 m Y H Q:=by
 refine #[G,W,le,Z,T,g,r,Z',w,e,?_]
 cases r with
 | ok r=>exact h
 | error x=>exact h
def ab (i:Nat):EM:=λZ=>((Z[i]?).join).map λ_=>(.ok (.pl i),Z)
theorem CV {i:Nat} (h:tE K G0 W0 (ab i) Y H Q):uM i Y H Q:=by
 refine h.use λG W le Z T g r Z' w e q=>?_
 unfold ab at e
 cases h:(Z[i]?).join with
 | none=>rw[h] at e;exact nsE e
 | some p =>
  rw[h] at e
  cases e
  obtain ⟨y,_,_,_,a⟩:=w.slot (d:=p.1) (f:=p.2) h
  exact #[y.v,a,q y.v H #[[],g,w,.pl a]]
def mC (d:D):EM:=aT (.val d .z)
theorem Wf.const (w:Wf K G H Y Z T g) (r:Rep K H d v []):Got K G Y Z T (.val d .z) v H :=
 Wf.done (Us:=[]) (ys:=[]) (x:=#[d,v,[],.z]) w (λ_ h=>(by cases h)) #[Same.refl _,r,λ_ h=>(by cases h),λh=>absurd rfl h]
theorem jg (r:∀ H,Rep K H d v []) (h:tE K G0 W0 (mC d) Y H Q):tC v Y H Q:=by
 refine h.use λG W le Z T g o Z' w e q=>?_
 cases e
 exact q v H (w.const (r H))
def af (f:D->D->Option (D×Fl)) (ma mb:EM):EM:=ac ma λra=>ac mb λrb=>ac (der ra) λda=>ac (der rb) λdb=>aX ((f da db).map λp=>R3.val p.1 p.2)
def OpD (K:FG) (r:R2) (f:D->D->Option (D×Fl)):Prop:=∀ (a b:It3) (H:Hp) (Q:VK) (p:D×Fl),Arg K H a->Arg K H b->f a.d b.d=some p ->
 (∀ w H',New K H H' (dR [a,b]) w->w.d=p.1->w.f=p.2->Q w.v H')->r a.v b.v H Q
theorem nQ (w:Wf K G H Y Z (Us++T) g) (c:∀ y∈ys,Itm (Us++T) g y) (q:EndE K G W Y T Z Q (.ok (.val d f))) :
  ∀ a H',New K H H' (dR ys) a->a.d=d->a.f=f->Q a.v H':=by
 intro a H' n e1 b
 subst e1 b
 exact q a.v H' (w.done c n)
theorem lA (B:OpD K r f) (h:tE K G0 W0 (af f ma mb) Y H Q):tOp r (tE K G0 W0 ma) (tE K G0 W0 mb) Y H Q:=by
 refine h.use λG W le Z T g o Z' w e q=>?_
 refine tE.seq le w e q.err λra Z1 e1 F H1 #[Ts,g1,D,a1]=>?_
 refine tE.seq le D e1 q.err λrb Z2 t E H2 #[Us,g2,a,a2]=>?_
 obtain ⟨da,A,v⟩:=aH t
 obtain ⟨db,z,u⟩:=aH v
 obtain ⟨p,b,rfl,rfl⟩:=bj u
 obtain ⟨m,c,f1,f2⟩:=a1.item a (λx i=>Fj _ (Fi _ i)) A
 obtain ⟨n,j,C,f4⟩:=a2.item a (λx i=>Fi _ i) z
 subst f1 f2 C f4
 cases l:f m.d n.d with
 | none=>rw[l] at b;exact nsE b
 | some s =>
  rw[l] at b
  cases b
  rw[<- List.append_assoc] at a c j
  refine B m n H2 Q s (a.itm c).arg (a.itm j).arg l (nQ a (λy k=>?_) q)
  rcases Fm.mp k with h | k
  .rw[h];exact c
  .rw[FT.mp k];exact j
def mUn (f:D->Option (D×Fl)) (ma:EM):EM:=ac ma λra=>ac (der ra) λda=>aX ((f da).map λp=>R3.val p.1 p.2)
def UnD (K:FG) (r:V->Hp->VK->Prop) (f:D->Option (D×Fl)):Prop:=∀ (a:It3) (H:Hp) (Q:VK) (p:D×Fl),Arg K H a->f a.d=some p ->
 (∀ w H',New K H H' (dR [a]) w->w.d=p.1->w.f=p.2->Q w.v H')->r a.v H Q
theorem B0 (t:UnD K r f) (h:tE K G0 W0 (mUn f ma) Y H Q):tUn r (tE K G0 W0 ma) Y H Q:=by
 refine h.use λG W le Z T g o Z' w e q=>?_
 refine tE.seq le w e q.err λra Z1 e1 u H1 #[Ts,g1,b,a1]=>?_
 obtain ⟨da,n,k⟩:=aH e1
 obtain ⟨p,a,rfl,rfl⟩:=bj k
 obtain ⟨j,i,f1,f2⟩:=a1.item b (λx l=>Fi _ l) n
 subst f1 f2
 cases c:f j.d with
 | none=>rw[c] at a;exact nsE a
 | some s =>
  rw[c] at a
  cases a
  exact t j H1 Q s (b.itm i).arg c (nQ b (λy m=>by rw[FT.mp m];exact i) q)
def ah:M3 (List R3):=aT []
def aa (m:EM) (ms:M3 (List R3)):M3 (List R3):=ac m λr=>ac ms λrs=>aT (r::rs)
def EndA (K:FG) (G:Gm) (W:D->Sto->Prop) (Y:St) (T:List It3) (Z':Sto) (Q:List V->Hp->Prop):Except D (List R3)->Prop
 | .ok rs=>∀ a H' Ts g',Wf K G H' Y Z' (Ts++T) g'->Ars Y rs a Ts->Q a H'
 | .error e=>W e Z'
theorem EndA.err (h:EndA K G W Y T Z' Q r):∀ x,r=.error x->W x Z':=by
 intro x e;subst e;exact h
theorem tA.open (h:tA K G0 W0 m Y H Q):∃ G W,Le K G W G0 W0/\∃ Z T g r Z',Wf K G H Y Z T g/\m Z=some (r,Z')/\EndA K G W Y T Z' Q r:=by
 obtain ⟨G,W,le,Z,T,g,r,Z',w,e,q⟩:=h
 refine #[G,W,le,Z,T,g,r,Z',w,e,?_]
 cases r with
 | ok r=>exact q
 | error x=>exact q
theorem tA.use (h:tA K G0 W0 m Y H Q) {P:Prop} (k:∀ G W,Le K G W G0 W0->∀ Z T g r Z',Wf K G H Y Z T g->m Z=some (r,Z')->EndA K G W Y T Z' Q r->P):P:=by
 obtain ⟨G,W,le,Z,T,g,r,Z',w,e,q⟩:=h.open
 exact k G W le Z T g r Z' w e q
theorem wC (h:tA K G0 W0 ah Y H Q):zL Y H Q:=by
 refine h.use λG W le Z T g r Z' w e q=>?_
 cases e
 exact q [] H [] g w .nil
theorem sQ (h:tA K G0 W0 (aa m ms) Y H Q):pw (tE K G0 W0 m) (tA K G0 W0 ms) Y H Q:=by
 refine h.use λG W le Z T g r Z' w e q=>?_
 refine tE.seq le w e q.err λra Z1 e1 f H1 #[Ts,g1,a,a1]=>?_
 refine tA.seq le a e1 q.err λrs Z2 b c H2 Us g2 d a2=>?_
 cases b
 refine q (f::c) H2 (Us++Ts) g2 ?_ (.cons a1 a2)
 rw[List.append_assoc]
 exact d
def dj:List R3->M3 (List D)
 | []=>aT []
 | r::rs=>ac (der r) λd=>ac (dj rs) λds=>aT (d::ds)
theorem uh:∀ {rs:List R3} {Z Z':Sto} {o:Except D (List D)},dj rs Z=some (o,Z')->∃ ds,o=.ok ds/\Z'=Z
 | [],Z,Z',o,e=>by cases e;exact #[[],rfl,rfl]
 | r::rs,Z,Z',o,e=>by
  obtain ⟨d,e1,a⟩:=aH (k:=λd=>ac (dj rs) λds=>aT (d::ds)) e
  unfold ac at a
  cases q:dj rs Z with
  | none=>rw[q] at a;exact nsE a
  | some p =>
   obtain ⟨o',Z1⟩:=p
   obtain ⟨ds,rfl,rfl⟩:=uh q
   rw[q] at a
   cases a
   exact #[d::ds,rfl,rfl]
theorem ba (e:ac (dj rs) k Z=some (o,Z')):∃ ds,dj rs Z=some (.ok ds,Z)/\k ds Z=some (o,Z'):=by
 unfold ac at e
 cases q:dj rs Z with
 | none=>rw[q] at e;exact nsE e
 | some p =>
  obtain ⟨o',Z1⟩:=p
  obtain ⟨ds,rfl,rfl⟩:=uh q
  rw[q] at e
  exact #[ds,rfl,e]
theorem Ars.items:∀ {rs:List R3} {c:List V} {Ts:List It3} {ds:List D} ,Wf K G H Y Z T g->Ars Y rs c Ts->(∀ x∈Ts,x∈T)->dj rs Z=some (.ok ds,Z)->∃ ys:List It3,(∀ y∈ys,Itm T g y)/\ys.map (·.d)=ds/\ys.map (·.v)=c
 | [],_,_,ds,w,.nil,_,e=>by cases e;exact #[[],λ_ h=>(by cases h),rfl,rfl]
 | r::rs,_,_,ds,w,.cons a as,hs,e=>by
  obtain ⟨d,e1,f⟩:=aH (k:=λd=>ac (dj rs) λds=>aT (d::ds)) e
  obtain ⟨i,l,j⟩:=ba f
  cases j
  obtain ⟨y,m,f1,f2⟩:=a.item w (λx b=>hs x (Fj _ b)) e1
  obtain ⟨ys,n,o,f4⟩:=Ars.items w as (λx b=>hs x (Fi _ b)) l
  refine #[y::ys,λz hz=>?_,by simp[f1,o],by simp[f2,f4]]
  rcases Fm.mp hz with h | hz
  .rw[h];exact m
  .exact n z hz
def ao (f:List D->Option (D×Fl)) (ms:M3 (List R3)):EM:=ac ms λrs=>ac (dj rs) λds=>aX ((f ds).map λp=>R3.val p.1 p.2)
def cY (K:FG) (r:List V->Hp->VK->Prop) (f:List D->Option (D×Fl)):Prop:=∀ (ys:List It3) (H:Hp) (Q:VK) (p:D×Fl),(∀ y∈ys,Arg K H y)->f (ys.map (·.d))=some p ->
 (∀ w H',New K H H' (dR ys) w->w.d=p.1->w.f=p.2->Q w.v H')->r (ys.map (·.v)) H Q
theorem lz (n:cY K r f) (h:tE K G0 W0 (ao f ms) Y H Q):tCB r (tA K G0 W0 ms) Y H Q:=by
 refine h.use λG W le Z T g o Z' w e q=>?_
 refine tA.seq le w e q.err λrs Z1 e1 t H1 Ts g1 b a1=>?_
 obtain ⟨ds,m,j⟩:=ba e1
 obtain ⟨p,a,rfl,rfl⟩:=bj j
 obtain ⟨ys,i,f1,f2⟩:=a1.items b (λx k=>Fi _ k) m
 subst f1 f2
 cases c:f (ys.map (·.d)) with
 | none=>rw[c] at a;exact nsE a
 | some s =>
  rw[c] at a
  cases a
  exact n ys H1 Q s (λy l=>(b.itm (i y l)).arg) c (nQ b i q)
def asB:D->Option Bool
 | .bl b=>some b
 | _=>none
def l4 (ma mb:EM):EM:=ac ma λra=>ac (der ra) λd=>ac (aX (asB d)) λb=>if b then mb else aT (.val (.bl false) .z)
def mOr (ma mb:EM):EM:=ac ma λra=>ac (der ra) λd=>ac (aX (asB d)) λb=>if b then aT (.val (.bl true) .z) else mb
def Ew (ma:EM):EM:=ac ma λra=>ac (der ra) λd=>ac (aX (asB d)) λb=>aT (.val (.bl (!b)) .z)
theorem iG (e:ac (aX o) k Z=some (r,Z')):∃ a,o=some a/\k a Z=some (r,Z'):=by
 unfold ac aX at e
 cases o with
 | none=>exact nsE e
 | some a=>exact #[a,rfl,e]
theorem zq (e:asB d=some b):d=.bl b:=by
 cases d <;> first | exact nsE e | cases e
 rfl
theorem Rep.bl_eq (r:Rep K H (.bl b) v L):v=.bl b/\L=[]:=by cases r;exact #[rfl,rfl]
theorem Ar.bool (w:Wf K G H Y Z (Ts++T) g) (a:Ar Y ra v Ts) (e:der ra Z=some (.ok d,Z)) (c:asB d=some b):v=.bl b:=by
 obtain ⟨y,f,f1,f2⟩:=a.item w (λx h=>Fi _ h) e
 have r:=(w.itm f).rep
 rw[f1,zq c] at r
 rw[<- f2]
 exact r.bl_eq.1
theorem C1 (h:tE K G0 W0 (l4 ma mb) Y H Q):B5 (tE K G0 W0 ma) (tE K G0 W0 mb) Y H Q:=by
 refine h.use λG W le Z T g o Z' w e q=>?_
 refine tE.seq le w e q.err λra Z1 e1 l H1 #[Ts,g1,a,a1]=>?_
 obtain ⟨d,j,i⟩:=aH e1
 obtain ⟨b,k,c⟩:=iG i
 refine #[b,a1.bool a j k,?_]
 have f:=a.sub (Fw Ts T)
 cases b with
 | true=>exact tE.mk le f c q
 | false=>cases c;exact q _ _ (f.const (.bl false))
theorem tE_or (h:tE K G0 W0 (mOr ma mb) Y H Q):tOrV (tE K G0 W0 ma) (tE K G0 W0 mb) Y H Q:=by
 refine h.use λG W le Z T g o Z' w e q=>?_
 refine tE.seq le w e q.err λra Z1 e1 l H1 #[Ts,g1,a,a1]=>?_
 obtain ⟨d,j,i⟩:=aH e1
 obtain ⟨b,k,c⟩:=iG i
 refine #[b,a1.bool a j k,?_]
 have f:=a.sub (Fw Ts T)
 cases b with
 | false=>exact tE.mk le f c q
 | true=>cases c;exact q _ _ (f.const (.bl true))
theorem CY (h:tE K G0 W0 (Ew ma) Y H Q):BY (tE K G0 W0 ma) Y H Q:=by
 refine h.use λG W le Z T g o Z' w e q=>?_
 refine tE.seq le w e q.err λra Z1 e1 l H1 #[Ts,g1,a,a1]=>?_
 obtain ⟨d,j,c⟩:=aH e1
 obtain ⟨b,k,f⟩:=iG c
 refine #[b,a1.bool a j k,?_]
 have i:=a.sub (Fw Ts T)
 cases f;exact q _ _ (i.const (.bl (!b)))
def EndT (K:FG) (G:Gm) (W:D->Sto->Prop) (Y:St) (T:List It3) (Z':Sto) (Q:Bool->Hp->Prop):Except D Bool->Prop
 | .ok b=>∀ H' g',Wf K G H' Y Z' T g'->Q b H'
 | .error e=>W e Z'
theorem EndT.err (h:EndT K G W Y T Z' Q r):∀ x,r=.error x->W x Z':=by
 intro x e;subst e;exact h
theorem tT.open (h:tT K G0 W0 m Y H Q):∃ G W,Le K G W G0 W0/\∃ Z T g r Z',Wf K G H Y Z T g/\m Z=some (r,Z')/\EndT K G W Y T Z' Q r:=by
 obtain ⟨G,W,le,Z,T,g,r,Z',w,e,q⟩:=h
 refine #[G,W,le,Z,T,g,r,Z',w,e,?_]
 cases r with
 | ok r=>exact q
 | error x=>exact q
theorem tT.use (h:tT K G0 W0 m Y H Q) {P:Prop} (k:∀ G W,Le K G W G0 W0->∀ Z T g r Z',Wf K G H Y Z T g->m Z=some (r,Z')->EndT K G W Y T Z' Q r->P):P:=by
 obtain ⟨G,W,le,Z,T,g,r,Z',w,e,q⟩:=h.open
 exact k G W le Z T g r Z' w e q
theorem tT.mk (le:Le K G W G0 W0) (w:Wf K G H Y Z T g) (e:m Z=some (r,Z')) (h:EndT K G W Y T Z' Q r):tT K G0 W0 m Y H Q:=by
 refine #[G,W,le,Z,T,g,r,Z',w,e,?_]
 cases r with
 | ok r=>exact h
 | error x=>exact h
def cB (m:EM):M3 Bool:=ac m λr=>ac (der r) λd=>aX (asB d)
theorem tT_b (h:tT K G0 W0 (cB m) Y H Q):tB (tE K G0 W0 m) Y H Q:=by
 refine h.use λG W le Z T g o Z' w e q=>?_
 refine tE.seq le w e q.err λra Z1 e1 j H1 #[Ts,g1,a,a1]=>?_
 obtain ⟨d,f,c⟩:=aH e1
 obtain ⟨b,i,rfl,rfl⟩:=bj c
 exact #[b,a1.bool a f i,q _ _ (a.sub (Fw Ts T))]
def qH (a b:M3 Bool):M3 Bool:=ac a λc=>if c then b else aT false
def cOr (a b:M3 Bool):M3 Bool:=ac a λc=>if c then aT true else b
def fD (a:M3 Bool):M3 Bool:=ac a λc=>aT (!c)
theorem CH (h:tT K G0 W0 (qH a b) Y H Q):tAnd (tT K G0 W0 a) (tT K G0 W0 b) Y H Q:=by
 refine h.use λG W le Z T g o Z' w e q=>?_
 refine tT.seq le w e q.err λc Z1 e1 H1 g1 d=>?_
 cases c with
 | true=>exact tT.mk le d e1 q
 | false=>cases e1;exact q _ _ d
theorem tT_or (h:tT K G0 W0 (cOr a b) Y H Q):tOr (tT K G0 W0 a) (tT K G0 W0 b) Y H Q:=by
 refine h.use λG W le Z T g o Z' w e q=>?_
 refine tT.seq le w e q.err λc Z1 e1 H1 g1 d=>?_
 cases c with
 | false=>exact tT.mk le d e1 q
 | true=>cases e1;exact q _ _ d
theorem CG (h:tT K G0 W0 (fD a) Y H Q):tNot (tT K G0 W0 a) Y H Q:=by
 refine h.use λG W le Z T g o Z' w e q=>?_
 refine tT.seq le w e q.err λc Z1 e1 H1 g1 b=>?_
 cases e1;exact q _ _ b
def mIf (c:M3 Bool) (ma mb:EM):EM:=ac c λb=>if b then ma else mb
theorem tE_if (h:tE K G0 W0 (mIf c ma mb) Y H Q):tIf (tT K G0 W0 c) (tE K G0 W0 ma) (tE K G0 W0 mb) Y H Q:=by
 refine h.use λG W le Z T g o Z' w e q=>?_
 refine tT.seq le w e q.err λc Z1 e1 H1 g1 a=>?_
 cases c with
 | true=>exact tE.mk le a e1 q
 | false=>exact tE.mk le a e1 q
end
def di (x:It3):It3:={ x with f:=.z }
theorem cN:NoRoot (di x) y:=λh=>absurd rfl h
def lowAt (i:Nat) (Z:Sto):Sto:=match (Z[i]?).join with
 | some (d,.u)=>Z.set i #v[d]
 | some (d,.l)=>Z.set i #v[d]
 | _=>Z
noncomputable def frz (is:List Nat) (Z:Sto):Sto:=is.foldl (λZ i=>lowAt i Z) Z
def frz3 (is:List Nat):M3 Unit:=λZ=>some (.ok (),frz is Z)
def pls:List R3->List Nat
 | []=>[]
 | .pl i::rs=>i::pls rs
 | .val _ _::rs=>pls rs
section
variable {K:FG} {G G0:Gm} {W W0:D->Sto->Prop} {H H':Hp} {Y:St} {Z Z':Sto} {T T':List It3} {g:Nat->Option It3} {x y z:It3} {α β:Type}
theorem ItOk.low (h:ItOk K G H x):ItOk K G H (di x):=#[h.rep,λq=>absurd rfl q,h.src]
theorem cO {i j:Nat} (hi:i < Z.length):((Z.set i o)[j]?).join=if j=i then o else (Z[j]?).join:=by grind
theorem fX {i:Nat} (h:(Z[i]?).join=some p):i < Z.length:=by grind
theorem Wf.lowSlot (w:Wf K G H Y Z T g) {i:Nat} (e:(Z[i]?).join=some (d,f)):Wf K G H Y (Z.set i #v[d]) T (λj=>if j=i then (g i).map di else g j):=by
 have hi:=fX e
 obtain ⟨y,A,v,E,ev⟩:=w.slot e
 have val:∀ j x,(if j=i then (g i).map di else g j)=some x->∃ x0,g j=some x0/\(x=x0\/x=di x0)/\(j=i->x=di x0):=λj x h=>by
  grind
 have s:∀ {a b:It3},NoRoot a b->∀ m l,(m=a\/m=di a)->(l=b\/l=di b)->NoRoot m l:=λh m l h1 h2=>by
  rcases h1 with rfl | rfl
  .rcases h2 with rfl | rfl
   .exact h
   .exact h
  .exact cN
 refine #[by rw[List.length_set];exact w.len,λj=>?_,λj x h=>?_,λj x h=>?_,w.okT,λj k a b n h1 h2=>?_,λj a h b p=>?_,w.tt,w.base,w.pro,#[w.fx.frT,λj x h D hf a C=>?_,w.fx.bin,w.fx.ob,λj x h u=>?_]]
 .rw[cO hi]
  by_cases q:j=i
  .subst q
   rw[if_pos rfl,if_pos rfl,A]
   show some ((di y).d,Fl.z)=_
   rw[<- v];rfl
  .rw[if_neg q,if_neg q];exact w.sl j
 .obtain ⟨x0,h0,c,_⟩:=val j x h
  have:=w.sv j x0 h0
  rcases c with rfl | rfl <;> exact this
 .obtain ⟨x0,h0,c,_⟩:=val j x h
  rcases c with rfl | rfl
  .exact w.okS j x h0
  .exact (w.okS j x0 h0).low
 .obtain ⟨o,h0,r,_⟩:=val j a h1
  obtain ⟨B,t,p,_⟩:=val k b h2
  exact s (w.ss j k o B n h0 t) a b r p
 .obtain ⟨o,h0,r,_⟩:=val j a h
  exact #[s (w.st j o h0 b p).1 a b r (.inl rfl),s (w.st j o h0 b p).2 b a (.inl rfl) r]
 .obtain ⟨x0,h0,c,_⟩:=val j x h
  rcases c with rfl | rfl
  .exact w.fx.frS j x h0 D hf a C
  .exact absurd rfl hf
 .obtain ⟨x0,h0,c,_⟩:=val j x h
  rcases c with rfl | rfl
  .exact w.fx.lvS j x h0 u
  .cases u
def Kin (x y:It3):Prop:=y.d=x.d/\y.v=x.v/\y.L=x.L/\(y.f=x.f\/y.f=.z)
theorem Kin.refl (x:It3):Kin x x:=#[rfl,rfl,rfl,.inl rfl]
theorem Kin.trans (a:Kin x y) (b:Kin y z):Kin x z:=⟨b.1.trans a.1,b.2.1.trans a.2.1,b.2.2.1.trans a.2.2.1,by
 rcases b.2.2.2 with h | h
 .rcases a.2.2.2 with h' | h'
  .exact .inl (h.trans h')
  .exact .inr (h.trans h')
 .exact .inr h⟩
theorem Wf.lowAt {i:Nat} (w:Wf K G H Y Z T g):∃ g',Wf K G H Y (lowAt i Z) T g'/\(∀ j y,g j=some y->∃ a,g' j=some a/\Kin y a/\(j=i->a.f=.z)):=by
 have keep:∀ d,(Z[i]?).join=#v[d]->∃ g',Wf K G H Y Z T g'/\(∀ j y,g j=some y->∃ a,g' j=some a/\Kin y a/\(j=i->a.f=.z)):=λd e=>⟨g,w,λj y h=>⟨y,h,Kin.refl y,λq=>by
  subst q
  obtain ⟨a,h',_,hf,_⟩:=w.slot e
  rw[h] at h';cases h';exact hf⟩⟩
 have low:∀ d f,(Z[i]?).join=some (d,f)->∃ g',Wf K G H Y (Z.set i #v[d]) T g'/\(∀ j y,g j=some y->∃ a,g' j=some a/\Kin y a/\(j=i->a.f=.z)):=λd f e=>⟨_,w.lowSlot e,λj y h=>by
  by_cases q:j=i
  .subst q;exact #[di y,by rw[if_pos rfl,h];rfl,#[rfl,rfl,rfl,.inr rfl],λ_=>rfl]
  .exact ⟨y,by rw[if_neg q];exact h,Kin.refl y,λz=>absurd z q⟩⟩
 unfold L3.lowAt
 cases e:(Z[i]?).join with
 | none =>
  refine #[g,w,λj y h=>#[y,h,Kin.refl y,λq=>?_]]
  subst q
  have:=w.sl j
  rw[h,e] at this;cases this
 | some p =>
  obtain ⟨d,f⟩:=p
  cases f with
  | u=>exact low d _ e
  | l=>exact low d _ e
  | z=>exact keep d e
theorem Wf.frz:∀ {is:List Nat} {Z:Sto} {g:Nat->Option It3},Wf K G H Y Z T g->∃ g',Wf K G H Y (frz is Z) T g'/\(∀ j y,g j=some y->∃ a,g' j=some a/\Kin y a/\(j∈is->a.f=.z))
 | [],Z,g,w=>#[g,w,λj y h=>#[y,h,Kin.refl y,λq=>by cases q]]
 | i::is,Z,g,w=>by
  obtain ⟨g1,b,h1⟩:=w.lowAt (i:=i)
  obtain ⟨g2,e,h2⟩:=Wf.frz (is:=is) b
  refine #[g2,e,λj y h=>?_]
  obtain ⟨k,e1,m,d⟩:=h1 j y h
  obtain ⟨l,c,k2,n⟩:=h2 j k e1
  refine #[l,c,m.trans k2,λhm=>?_]
  rcases Fm.mp hm with q | q
  .rcases k2.2.2.2 with h | h
   .exact h.trans (d q)
   .exact h
  .exact n q
theorem Wf.lowT (w:Wf K G H Y Z (Ts++T) g):Wf K G H Y Z (Ts.map di++T) g:=by
 have sp:∀ {a b:It3},Apart3 a b->Apart3 (di a) (di b):=λh=>#[cN,cN]
 refine #[w.len,w.sl,w.sv,w.okS,λx c=>?_,w.ss,λi x e y f=>?_,?_,w.base,w.pro,#[λx c hf a d=>?_,w.fx.frS,w.fx.bin,w.fx.ob,w.fx.lvS]]
 .rcases Fq.mp c with h | h
  .obtain ⟨x0,h0,rfl⟩:=Fy.mp h
   exact (w.okT x0 (Fi _ h0)).low
  .exact w.okT x (Fj _ h)
 .rcases Fq.mp f with h | h
  .obtain ⟨y0,h0,rfl⟩:=Fy.mp h
   exact #[(w.st i x e y0 (Fi _ h0)).1,cN]
  .exact w.st i x e y (Fj _ h)
 .have h:=List.pairwise_append.mp w.tt
  refine List.pairwise_append.mpr #[?_,h.2.1,λa l b k=>?_]
  .grind
  .obtain ⟨j,h0,rfl⟩:=Fy.mp l
   exact #[cN,(h.2.2 j h0 b k).2]
 .rcases Fq.mp c with h | h
  .obtain ⟨x0,h0,rfl⟩:=Fy.mp h
   exact absurd rfl hf
  .exact w.fx.frT x (Fj _ h) hf a d
theorem lb:∀ {rs:List R3} {i:Nat},R3.pl i∈rs->i∈pls rs
 | [],_,h=>by cases h
 | .pl j::rs,i,h=>by
  rcases Fm.mp h with e | h
  .cases e;exact Fe
  .exact Ff _ (lb h)
 | .val _ _::rs,i,h=>by
  rcases Fm.mp h with e | h
  .cases e
  .exact lb (rs:=rs) h
theorem Ars.given:∀ {rs:List R3} {m:List V} {Ts:List It3} {ds:List D} {S:List It3} {g':Nat->Option It3} {is:List Nat},Wf K G H Y Z T g->(∀ j y,g j=some y->∃ b,g' j=some b/\Kin y b/\(j∈is->b.f=.z))->(∀ i,R3.pl i∈rs->i∈is) ->
  Ars Y rs m Ts->(∀ x∈Ts,x∈T)->(∀ x∈Ts,di x∈S)->dj rs Z=some (.ok ds,Z)->∃ ys:List It3,(∀ y∈ys,Itm S g' y/\y.f=.z)/\ys.map (·.d)=ds/\ys.map (·.v)=m
 | [],_,_,ds,S,g',is,w,hg,hi,.nil,_,_,e=>by cases e;exact #[[],λ_ h=>(by cases h),rfl,rfl]
 | r::rs,_,_,ds,S,g',is,w,hg,hi,.cons (v:=v0) a as,hs,hS,e=>by
  obtain ⟨d,e1,n⟩:=aH (k:=λd=>ac (dj rs) λds=>aT (d::ds)) e
  obtain ⟨o,t,s⟩:=ba n
  cases s
  obtain ⟨ys,A,C,f4⟩:=Ars.given w hg (λi h=>hi i (Ff _ h)) as (λx c=>hs x (Fi _ c)) (λx c=>hS x (Fi _ c)) t
  have one:∃ y,(Itm S g' y/\y.f=.z)/\y.d=d/\y.v=v0:=by
   cases a with
   | @pl i v h =>
    have E:der (.pl i) Z=((Z[i]?).join).map λp=>(.ok p.1,Z):=rfl
    rw[E] at e1
    cases q:(Z[i]?).join with
    | none=>rw[q] at e1;exact nsE e1
    | some p =>
     rw[q] at e1
     obtain ⟨y,B,F,J,l⟩:=w.slot (d:=p.1) (f:=p.2) q
     obtain ⟨b,h1,h2,h3⟩:=hg i y B
     have I:p.1=d:=by cases e1;rfl
     rw[h] at l
     refine #[b,#[.inl #[i,h1],h3 (hi i Fe)],h2.1.trans (F.trans I),?_]
     rw[h2.2.1];cases l;rfl
   | val x=>cases e1;exact #[di x,#[.inr (hS x (by simp)),rfl],rfl,rfl]
  obtain ⟨y,u,f1,f2⟩:=one
  refine #[y::ys,λz hz=>?_,by simp[f1,C],by simp[f2,f4]]
  rcases Fm.mp hz with h | hz
  .rw[h];exact u
  .exact A z hz
def dS (ys:List It3) (c:Addr):Prop:=∃ y∈ys,c∈y.L
def gives (rs:List R3):M3 (List D):=ac (dj rs) λds=>ac (frz3 (pls rs)) λ_=>aT ds
theorem Ars.gives (w:Wf K G H Y Z (Ts++T) g) (a:Ars Y rs vs Ts) (e:ac (gives rs) k Z=some (r,Z')) :
  ∃ ds Z1 g1,k ds Z1=some (r,Z')/\Z1=frz (pls rs) Z/\Wf K G H Y Z1 (Ts.map di++T) g1/\(∀ j y,g j=some y->∃ c,g1 j=some c/\Kin y c)/\∃ ys:List It3,(∀ y∈ys,Itm (Ts.map di++T) g1 y/\y.f=.z)/\ys.map (·.d)=ds/\ys.map (·.v)=vs:=by
 unfold L3.gives at e
 have n:ac (dj rs) (λds=>ac (frz3 (pls rs)) λ_=>k ds) Z=some (r,Z'):=by
  rw[<- e]
  unfold ac
  cases q:dj rs Z with
  | none=>rfl
  | some p =>
   obtain ⟨o,Z2⟩:=p
   cases o with
   | error x=>rfl
   | ok ds=>rfl
 obtain ⟨ds,s,e1⟩:=ba n
 obtain ⟨g1,m,h1⟩:=Wf.frz (is:=pls rs) w
 refine #[ds,L3.frz (pls rs) Z,g1,e1,rfl,m.lowT,λj y h=>let #[c,a,b,_]:=h1 j y h;#[c,a,b],?_]
 exact Ars.given w h1 (λi h=>lb h) a (λx l=>Fi _ l) (λx l=>Fi _ (Fy.mpr #[x,l,rfl])) s
theorem Wf.alls (w:Wf K G H Y Z T g) (a:∀ y∈ys,Itm T g y/\y.f=.z) (h:dS ys c):d7 T g c/\(G.H0 c=none\/G.src c):=by
 obtain ⟨y,m,b⟩:=h
 exact #[w.kid (a y m).1 b λhf=>absurd (a y m).2 hf,(w.itm (a y m).1).src c b]
theorem Wf.doneA (w:Wf K G H Y Z (Us++T) g) (a:∀ y∈ys,Itm (Us++T) g y/\y.f=.z) (n:New K H H' (dS ys) x):Got K G Y Z T (.val x.d x.f) x.v H' :=
 #[[x],g,(w.push n λc h=>w.alls a h).sub (by simpa using List.Sublist.cons_cons x (Fw Us T)),.val x]
theorem k5:∀ {ys:List It3},(∀ y∈ys,Rep K H y.d y.v y.L)->Reps (Rep K H) (ys.map (·.d)) (ys.map (·.v)) (ys.map (·.L)).flatten
 | [],_=>.nil
 | y::ys,h=>.cons (h y Fe) (k5 λz hz=>h z (Ff _ hz))
theorem fo (h:c∈(ys.map (·.L)).flatten):dS ys c:=by
 obtain ⟨l,a,d⟩:=List.mem_flatten.mp h
 obtain ⟨y,b,rfl⟩:=Fy.mp a
 exact #[y,b,d]
noncomputable def Bt (mk:List D->D) (f:Fl) (ms:M3 (List R3)):EM:=ac ms λrs=>ac (gives rs) λds=>aX (if ds.length<=16777216 then some (.val (mk ds) f) else none)
abbrev eZ:M3 (List R3)->EM:=Bt .tup .z
abbrev l0:M3 (List R3)->EM:=Bt .lst .u
theorem bh (h:H p=none):Same H (upd H p o):=λb u e=>by
 rw[aD (aQ e h)];exact e
theorem CW (hz:(16777216:Nat)=sizeLine) (h:tE K G0 W0 (eZ ms) Y H Q):tTup (tA K G0 W0 ms) Y H Q:=by
 refine h.use λG W le Z T g o Z' w e q=>?_
 refine tA.seq le w e q.err λrs Z1 e1 r H1 Ts g1 l a1=>?_
 obtain ⟨ds,Z2,g2,k,_,i,_,ys,j,f1,f2⟩:=a1.gives l e1
 obtain ⟨v,a,rfl,rfl⟩:=bj k
 subst f1 f2
 split at a
 .rename_i n
  cases a
  refine #[by rw[Ft] at n ⊢;lia,λp f=>?_]
  refine q _ _ (Wf.doneA (x:=#[.tup (ys.map (·.d)),.ref p,(ys.map (·.L)).flatten,.z]) i j #[bh f,.tup a8 ((k5 λy b=>(i.itm (j y b).1).rep).same (bh f)),λc m=>.inr (fo m),λhf=>absurd rfl hf])
 .exact nsE a
theorem C0 (hz:(16777216:Nat)=sizeLine) (h:tE K G0 W0 (l0 ms) Y H Q):tLst (tA K G0 W0 ms) Y H Q:=by
 refine h.use λG W le Z T g o Z' w e q=>?_
 refine tA.seq le w e q.err λrs Z1 e1 s H1 Ts g1 n a1=>?_
 obtain ⟨ds,Z2,g2,m,_,j,_,ys,k,f1,f2⟩:=a1.gives n e1
 obtain ⟨v,f,rfl,rfl⟩:=bj m
 subst f1 f2
 split at f
 .rename_i r
  cases f
  refine #[by rw[Ft] at r ⊢;lia,λp b=>?_]
  have np:p ∉ (ys.map (·.L)).flatten:=λa=>by
   obtain ⟨y,hm,a⟩:=fo a
   obtain ⟨o,l⟩:=((j.itm (k y hm).1).rep.inH p a).ex
   rw[b] at l;exact nsE l
  refine q _ _ (Wf.doneA (x:=#[.lst (ys.map (·.d)),.ref p,p::(ys.map (·.L)).flatten,.u]) j k #[bh b,.lst a8 ((k5 λy i=>(j.itm (k y i).1).rep).same (bh b)),λc a=>?_,λ_=>#[rfl,p,_,rfl,rfl,np,b]])
  rcases Fm.mp a with e | a
  .rw[e];exact .inl b
  .exact .inr (fo a)
 .exact nsE f
end
section
variable {K:FG} {G G0:Gm} {W W0:D->Sto->Prop} {H H':Hp} {Y:St} {Z Z':Sto} {T T':List It3} {g:Nat->Option It3} {x y z:It3} {α β:Type}
def EndS (K:FG) (G:Gm) (W:D->Sto->Prop) (T:List It3) (Z':Sto) (E:Ends):Except D Flw->Prop
 | .ok .nx=>∀ Y' H' g',Wf K G H' Y' Z' T g'->E.nx Y' H'
 | .ok .br=>∀ Y' H' g',Wf K G H' Y' Z' T g'->E.bk Y' H'
 | .ok .ct=>∀ Y' H' g',Wf K G H' Y' Z' T g'->E.ct Y' H'
 | .ok (.rt d f)=>∀ x Y' H' g',Wf K G H' Y' Z' (x::T) g'->x.d=d->x.f=f->E.rt x.v H'
 | .error e=>W e Z'
theorem EndS.err (h:EndS K G W T Z' E r):∀ x,r=.error x->W x Z':=by
 intro x e;subst e;exact h
theorem tS.open (h:tS K G0 W0 m E Y H):∃ G W,Le K G W G0 W0/\∃ Z T g r Z',Wf K G H Y Z T g/\m Z=some (r,Z')/\EndS K G W T Z' E r:=by
 obtain ⟨G,W,le,Z,T,g,r,Z',w,e,q⟩:=h
 refine #[G,W,le,Z,T,g,r,Z',w,e,?_]
 cases r with
 | ok r=>cases r <;> exact q
 | error x=>exact q
theorem tS.use (h:tS K G0 W0 m E Y H) {P:Prop} (k:∀ G W,Le K G W G0 W0->∀ Z T g r Z',Wf K G H Y Z T g->m Z=some (r,Z')->EndS K G W T Z' E r->P):P:=by
 obtain ⟨G,W,le,Z,T,g,r,Z',w,e,q⟩:=h.open
 exact k G W le Z T g r Z' w e q
theorem tS.mk (le:Le K G W G0 W0) (w:Wf K G H Y Z T g) (e:m Z=some (r,Z')) (h:EndS K G W T Z' E r):tS K G0 W0 m E Y H:=by
 refine #[G,W,le,Z,T,g,r,Z',w,e,?_]
 cases r with
 | ok r=>cases r <;> exact h
 | error x=>exact h
def cU:SM:=aT .nx
noncomputable def aA (a b:SM):SM:=ac a λf=>match f with
 | .nx=>b
 | o=>aT o
theorem CN (h:tS K G0 W0 cU E Y H):BZ E Y H:=by
 refine h.use λG W le Z T g r Z' w e q=>?_
 cases e
 exact q _ _ _ w
theorem CK (h:tS K G0 W0 (aA a b) E Y H):tSeq (tS K G0 W0 a) (tS K G0 W0 b) E Y H:=by
 refine h.use λG W le Z T g r Z' w e q=>?_
 unfold aA ac at e
 cases p:a Z with
 | none=>rw[p] at e;exact nsE e
 | some p' =>
  obtain ⟨o,Z1⟩:=p'
  rw[p] at e
  cases o with
  | error x=>cases e;exact tS.mk le w p q
  | ok f =>
   cases f with
   | nx=>exact tS.mk le (r:=.ok .nx) w p λY' H' g' c=>tS.mk le c e q
   | br=>cases e;exact tS.mk le w p q
   | ct=>cases e;exact tS.mk le w p q
   | rt d f=>cases e;exact tS.mk le w p q
def gh (m:EM):SM:=ac m λ_=>aT .nx
theorem zJ (h:tS K G0 W0 (gh m) E Y H):B3 (tE K G0 W0 m) E Y H:=by
 refine h.use λG W le Z T g r Z' w e q=>?_
 refine tE.seq le w e q.err λra Z1 e1 v H1 #[Ts,g1,a,a1]=>?_
 cases e1
 exact q _ _ _ (a.sub (Fw Ts T))
def sIf (c:M3 Bool) (a b:SM):SM:=ac c λt=>if t then a else b
theorem tS_if (h:tS K G0 W0 (sIf c a b) E Y H):tIfS (tT K G0 W0 c) (tS K G0 W0 a) (tS K G0 W0 b) E Y H:=by
 refine h.use λG W le Z T g r Z' w e q=>?_
 refine tT.seq le w e q.err λt Z1 e1 H1 g1 d=>?_
 cases t with
 | true=>exact tS.mk le d e1 q
 | false=>exact tS.mk le d e1 q
def nol:Fl->Fl
 | .u=>.u
 | _=>.z
theorem Ep (f:Fl):nol f≠.l:=by cases f <;> intro h <;> cases h
theorem Eo (f:Fl):nol f=f\/nol f=.z:=by cases f <;> first | exact .inl rfl | exact .inr rfl
noncomputable def fh (r:R3):M3 (D×Fl):=match r with
 | .val d f=>aT (d,nol f)
 | .pl i=>λZ=>((Z[i]?).join).map λp=>(.ok (p.1,.z),lowAt i Z)
theorem pv {i:Nat}:fh (.pl i) Z=((Z[i]?).join).map λp=>(.ok (p.1,.z),lowAt i Z):=rfl
theorem Ar.val_inv (a:Ar Y (.val d f) v Ts):∃ x,Ts=[x]/\x.d=d/\x.f=f/\x.v=v:=by
 generalize h:R3.val d f=r at a
 cases a with
 | pl _=>cases h
 | val x=>cases h;exact #[x,rfl,rfl,rfl,rfl]
theorem Ar.take (w:Wf K G H Y Z (Ts++T) g) (a:Ar Y r v Ts) (e:ac (fh r) k Z=some (o,Z')) :
  ∃ p Z1 g1 x,k p Z1=some (o,Z')/\Wf K G H Y Z1 (x::T) g1/\x.d=p.1/\(p.2=x.f\/p.2=.z)/\p.2≠.l/\x.v=v:=by
 cases a with
 | val x=>exact #[(x.d,nol x.f),Z,g,x,e,w,rfl,Eo _,Ep _,rfl]
 | @pl i v h =>
  unfold ac at e
  rw[pv] at e
  cases q:(Z[i]?).join with
  | none=>rw[q] at e;exact nsE e
  | some p =>
   rw[q] at e
   obtain ⟨y,E,F,J,t⟩:=w.slot (d:=p.1) (f:=p.2) q
   obtain ⟨g1,b,h1⟩:=w.lowAt (i:=i)
   obtain ⟨c,m,B,I⟩:=h1 i y E
   have hz:=I rfl
   refine #[(p.1,.z),_,g1,c,e,?_,B.1.trans F,.inr rfl,(by intro h;cases h),?_]
   .have s:∀ u:It3,NoRoot c u:=λu hf=>absurd hz hf
    refine #[b.len,b.sl,b.sv,b.okS,λu hu=>?_,b.ss,λj u n C hu=>?_,?_,b.base,b.pro,#[λu hu hf a D=>?_,b.fx.frS,b.fx.bin,b.fx.ob,b.fx.lvS]]
    .rcases Fm.mp hu with h | hu
     .rw[h];exact b.okS i c m
     .exact b.okT u hu
    .rcases Fm.mp hu with h | hu
     .rw[h]
      refine #[?_,s _]
      by_cases A:j=i
      .subst A
       rw[m] at n;cases n
       exact s _
      .exact b.ss j i u c A n m
     .exact b.st j u n C hu
    .exact List.pairwise_cons.mpr #[λu hu=>#[s _,(b.st i c m u hu).2],b.tt]
    .rcases Fm.mp hu with h | hu
     .rw[h] at hf;exact absurd hz hf
     .exact b.fx.frT u hu hf a D
   .rw[B.2.1]
    rw[h] at t;cases t;rfl
theorem Wf.store {i:Nat} (w:Wf K G H Y Z (x::T) g) (hi:i < Z.length) (I:G.pr i=false) (hf:f=x.f\/f=.z) (y:f≠.l) :
  Wf K G H (Y.set i (some x.v)) (Z.set i (some (x.d,f))) T (λj=>if j=i then some { x with f:=f } else g j):=by
 have s:i < Y.length:=by rw[w.len];exact hi
 have r:=List.pairwise_cons.mp w.tt
 have t:=w.okT x Fe
 have nx:∀ u:It3,NoRoot x u->NoRoot { x with f:=f } u:=λu h q=>by
  rcases hf with e | e
  .exact h (by rw[<- e];exact q)
  .exact absurd e q
 have val:∀ j u,(if j=i then some { x with f:=f } else g j)=some u->(j=i/\u={ x with f:=f })\/(j≠i/\g j=some u):=λj u h=>by
  by_cases q:j=i
  .rw[if_pos q] at h;cases h;exact .inl #[q,rfl]
  .rw[if_neg q] at h;exact .inr #[q,h]
 refine #[by rw[List.length_set,List.length_set];exact w.len,λj=>?_,λj u h=>?_,λj u h=>?_,λu hu=>w.okT u (Ff _ hu),λj k a b n h1 h2=>?_,λj a h b B=>?_,r.2,w.base,λj A=>?_,#[λu hu=>w.fx.frT u (Ff _ hu),λj u h C m a p=>?_,w.fx.bin,w.fx.ob,λj u h F=>?_]]
 .rw[cO hi]
  by_cases q:j=i
  .rw[if_pos q,if_pos q];rfl
  .rw[if_neg q,if_neg q];exact w.sl j
 .rcases val j u h with ⟨rfl,rfl⟩ | ⟨n,h⟩
  .rw[List.getElem?_set_self s]
  .rw[List.getElem?_set_ne (λz=>n z.symm)];exact w.sv j u h
 .rcases val j u h with ⟨rfl,rfl⟩ | ⟨n,h⟩
  .refine #[t.rep,λq=>?_,t.src]
   rcases hf with e | e
   .subst e
    exact t.own q
   .exact absurd e q
  .exact w.okS j u h
 .rcases val j a h1 with ⟨L,p⟩ | ⟨M,o⟩
  .rcases val k b h2 with ⟨D,E⟩ | ⟨J,c⟩
   .exact absurd (L.trans D.symm) n
   .rw[p];exact nx b (w.st k b c x Fe).2
  .rcases val k b h2 with ⟨D,E⟩ | ⟨J,c⟩
   .rw[E];exact (w.st j a o x Fe).1
   .exact w.ss j k a b n o c
 .rcases val j a h with ⟨rfl,rfl⟩ | ⟨n,h⟩
  .exact #[nx b (r.1 b B).1,(r.1 b B).2]
  .exact w.st j a h b (Ff _ B)
 .have n:j≠i:=λz=>by subst z;rw[I] at A;cases A
  rw[List.getElem?_set_ne (λz=>n z.symm)];exact w.pro j A
 .rcases val j u h with ⟨_,rfl⟩ | ⟨n,h⟩
  .rcases hf with e | e
   .exact w.fx.frT x Fe (by rw[<- e];exact m) a p
   .exact absurd e m
  .exact w.fx.frS j u h C m a p
 .rcases val j u h with ⟨_,rfl⟩ | ⟨n,h⟩
  .exact absurd F y
  .exact w.fx.lvS j u h F
def aZ (i:Nat) (m:EM):SM:=ac m λr=>ac (fh r) λp=>λZ=>if i < Z.length then some (.ok .nx,Z.set i (some p)) else none
theorem CJ {i:Nat} (d:G0.pr i=false) (h:tS K G0 W0 (aZ i m) E Y H):wB (tE K G0 W0 m) (ua i) E Y H:=by
 refine h.use λG W le Z T g r Z' w e q=>?_
 refine tE.seq le w e q.err λra Z1 e1 v H1 #[Ts,g1,b,a1]=>?_
 obtain ⟨p,Z2,g2,x,a,c,f1,f2,f4,j⟩:=a1.take b e1
 split at a
 .rename_i hi
  cases a
  have:=c.store (f:=p.2) hi (by rw[le.pr];exact d) f2 f4
  rw[f1,j] at this
  exact q _ _ _ this
 .exact nsE a
def aL (np:Nat) (m:EM):SM:=ac m λr=>match r with
 | .val d f=>aT (.rt d f)
 | .pl i=>λZ=>match (Z[i]?).join with
  | some (d,.u)=>if i < np then some (.ok (.rt d .z),lowAt i Z) else some (.ok (.rt d .u),Z.set i none)
  | some (d,_)=>some (.ok (.rt d .z),lowAt i Z)
  | none=>none
theorem Wf.move {i:Nat} (w:Wf K G H Y Z T g) (f:G.pr i=false) (e:g i=some y):Wf K G H Y (Z.set i none) (y::T) (λj=>if j=i then none else g j):=by
 have hi:i < Z.length:=by
  have:=w.sl i
  rw[e] at this
  exact fX this.symm
 have val:∀ j u,(if j=i then none else g j)=some u->j≠i/\g j=some u:=λj u h=>by
  grind
 refine #[by rw[List.length_set];exact w.len,λj=>?_,λj u h=>w.sv j u (val j u h).2,λj u h=>w.okS j u (val j u h).2,λu hu=>?_,λj k a b n h1 h2=>w.ss j k a b n (val j a h1).2 (val k b h2).2,λj a h b c=>?_,?_,w.base,w.pro,#[λu hu hf a d=>?_,λj u h=>w.fx.frS j u (val j u h).2,w.fx.bin,w.fx.ob,λj u h=>w.fx.lvS j u (val j u h).2]]
 .rw[cO hi]
  by_cases q:j=i
  .rw[if_pos q,if_pos q];rfl
  .rw[if_neg q,if_neg q];exact w.sl j
 .rcases Fm.mp hu with h | hu
  .rw[h];exact w.okS i y e
  .exact w.okT u hu
 .obtain ⟨n,h⟩:=val j a h
  rcases Fm.mp c with h' | c
  .rw[h'];exact #[w.ss j i a y n h e,w.ss i j y a (Ne.symm n) e h]
  .exact w.st j a h b c
 .exact List.pairwise_cons.mpr #[λu hu=>w.st i y e u hu,w.tt]
 .rcases Fm.mp hu with h | hu
  .subst h;exact w.fx.frS i u e f hf a d
  .exact w.fx.frT u hu hf a d
theorem CL {np:Nat} (o:∀ i,np<=i->G0.pr i=false) (h:tS K G0 W0 (aL np m) E Y H):tRet (tE K G0 W0 m) E Y H:=by
 refine h.use λG W le Z T g r Z' w e q=>?_
 refine tE.seq le w e q.err λra Z1 e1 v H1 #[Ts,g1,k,a1]=>?_
 have low:∀ {i:Nat} {d:D} {f:Fl},(Z1[i]?).join=some (d,f)->some ((.ok (.rt d .z),lowAt i Z1):Except D Flw×Sto)=some (r,Z')->Ar Y (.pl i) v Ts->E.rt v H1:=λ{i d f} b A a=>by
  cases A
  have B:ac (fh (.pl i)) (λp=>aT (Flw.rt p.1 p.2)) Z1=some (.ok (.rt d .z),L3.lowAt i Z1):=by
   unfold ac
   rw[pv,b]
   rfl
  obtain ⟨p,Z2,g2,x,j,s,f1,f2,_,F⟩:=a.take k B
  have c:Flw.rt p.1 p.2=Flw.rt d .z/\Z2=L3.lowAt i Z1:=by
   unfold aT at j
   injection j with j
   injection j with c n
   injection c with c
   exact #[c,n]
  obtain ⟨c,n⟩:=c
  injection c with e7 e8
  subst n
  rw[<- F]
  have L:=Wf.lowT (Ts:=[x]) s
  exact q (di x) Y H1 g2 L (f1.trans e7) rfl
 cases a1 with
 | val x=>cases e1;exact q x Y H1 g1 k rfl rfl
 | @pl i v h =>
  dsimp only at e1
  cases b:(Z1[i]?).join with
  | none=>rw[b] at e1;exact nsE e1
  | some p =>
   obtain ⟨d,f⟩:=p
   rw[b] at e1
   cases f with
   | u =>
    dsimp only at e1
    split at e1
    .exact low b e1 (.pl h)
    .cases e1
     obtain ⟨y,C,J,I,t⟩:=k.slot b
     have s:=Wf.move k (by rw[le.pr];exact o i (by lia)) C
     have:=q y Y H1 _ s J I
     rw[h] at t
     cases t
     exact this
   | l=>exact low b e1 (.pl h)
   | z=>exact low b e1 (.pl h)
def b6 (c:M3 Bool) (b:SM):Nat->SM
 | 0=>λ_=>none
 | n+1=>ac c λt=>if t then ac b (λf=>match f with
   | .nx=>b6 c b n
   | .ct=>b6 c b n
   | .br=>aT .nx
   | .rt d f=>aT (.rt d f)) else aT .nx
def eW (c:M3 Bool) (b:SM):SM:=λZ=>open Classical in if h:∃ n r,b6 c b n Z=some r then some (Classical.choose (Classical.choose_spec h)) else none
theorem gl:∀ {n:Nat} {Z:Sto} {r:Except D Flw×Sto},b6 c b n Z=some r->b6 c b (n+1) Z=some r
 | 0,Z,r,e=>by cases e
 | n+1,Z,r,e=>by
  unfold b6 at e ⊢
  unfold ac at e ⊢
  cases h:c Z with
  | none=>rw[h] at e;exact nsE e
  | some p =>
   obtain ⟨o,Z1⟩:=p
   rw[h] at e
   cases o with
   | error x=>exact e
   | ok t =>
    cases t with
    | false=>exact e
    | true =>
     simp only[if_true] at e ⊢
     cases h2:b Z1 with
     | none=>rw[h2] at e;exact nsE e
     | some p2 =>
      obtain ⟨a,Z2⟩:=p2
      rw[h2] at e
      cases a with
      | error x=>exact e
      | ok f =>
       cases f with
       | nx=>exact gl (n:=n) e
       | ct=>exact gl (n:=n) e
       | br=>exact e
       | rt d f=>exact e
theorem jO {n m:Nat} (h:n<=m) (e:b6 c b n Z=some r):b6 c b m Z=some r:=by
 induction h with
 | refl=>exact e
 | step _ ih=>exact gl ih
theorem pB (e:eW c b Z=some r):∃ n,b6 c b n Z=some r:=by
 unfold eW at e
 split at e
 .grind
 .exact nsE e
theorem wx (h:tS K G0 W0 (eW c b) E Y H):ww (tT K G0 W0 c) (tS K G0 W0 b) E Y H:=by
 refine h.use λG W le Z T g r Z' w e q=>?_
 obtain ⟨n,e⟩:=pB e
 refine #[λm Y H=>∃ Z g,Wf K G H Y Z T g/\b6 c b m Z=some (r,Z'),#[n,Z,g,w,e],?_]
 rintro m Y1 H1 ⟨Z1,g1,k,e1⟩
 cases m with
 | zero=>exact nsE e1
 | succ m =>
  unfold b6 at e1
  refine tT.seq le k e1 q.err λt Z2 a H2 g2 i=>?_
  cases t with
  | false=>cases a;exact q _ _ _ i
  | true =>
   refine #[λY H=>∃ Z g,Wf K G H Y Z T g/\b6 c b m Z=some (r,Z'),λY' H' h=>#[m,Nat.lt_succ_self m,h],?_]
   simp only[if_true] at a
   unfold ac at a
   cases p:b Z2 with
   | none=>rw[p] at a;exact nsE a
   | some p2 =>
    obtain ⟨o,Z3⟩:=p2
    rw[p] at a
    cases o with
    | error x=>cases a;exact tS.mk le i p q
    | ok f =>
     cases f with
     | nx=>exact tS.mk le (r:=.ok .nx) i p λY' H' g' j=>#[Z3,g',j,a]
     | ct=>exact tS.mk le (r:=.ok .ct) i p λY' H' g' j=>#[Z3,g',j,a]
     | br=>cases a;exact tS.mk le (r:=.ok .br) i p q
     | rt d f=>cases a;exact tS.mk le (r:=.ok (.rt d f)) i p q
end
abbrev Fn:=List (D×Fl)->Option (Except D (D×Fl)×List (D×Fl))
def prs (Z:Sto):List R3->Option (List (D×Fl))
 | []=>some []
 | .pl i::rs=>match (Z[i]?).join,prs Z rs with
  | some p,some ps=>some (p::ps)
  | _,_=>none
 | .val d f::rs=>match prs Z rs with
  | some ps=>some ((d,f)::ps)
  | _=>none
def qt (rs:List R3):List Nat:=(pls rs).filter λi=>decide (2<=(pls rs).count i)
def back:List R3->List (D×Fl)->List (D×Fl)->Sto->Sto
 | .pl i::rs,p::ps,q::qs,Z=>back rs ps qs (if p.2=.z then Z else Z.set i (some (q.1,if q.2=.z then .z else p.2)))
 | .val _ _::rs,_::ps,_::qs,Z=>back rs ps qs Z
 | _,_,_,Z=>Z
section
variable {K:FG} {G G0:Gm} {W W0:D->Sto->Prop} {H H':Hp} {Y:St} {Z Z':Sto} {T T':List It3} {g:Nat->Option It3} {x y z:It3} {α β:Type}
structure Back1 (K:FG) (H H':Hp) (ps:List It3) (p q:It3):Prop where
 z:p.f=.z->q=p
 v:q.v=p.v
 f:q.f=p.f\/q.f=.z
 arg:Arg K H' q
 src:∀ c∈q.L,H c=none\/dS ps c
 there:p.f=.u->∀ b,p.v=.ref b->∃ o,H' b=some o
structure BehindX (K:FG) (H H':Hp) (ps qs:List It3):Prop where
 frame:∀ b o,H b=some o->(∀ p∈ps,p.f=.u->p.v≠.ref b)->H' b=some o
 back:Paired (Back1 K H H' ps) ps qs
 apart:qs.Pairwise Apart3
structure Behind (K:FG) (H H':Hp) (ps qs:List It3) (x:It3):Prop extends BehindX K H H' ps qs where
 rep:Rep K H' x.d x.v x.L
 own:x.f≠.z->jE x.d=true/\∃ a L',x.v=.ref a/\x.L=a::L'/\a ∉ L'/\H a=none
 src:∀ c∈x.L,H c=none\/dS ps c
 apx:∀ q∈qs,Apart3 x q
theorem Ars.args:∀ {rs:List R3} {F:List V} {Ts T:List It3} {k:List (D×Fl)},Ars Y rs F Ts->Wf K G H Y Z (Ts++T) g->(∀ i,2<=(pls rs).count i->∀ y,g i=some y->y.f=.z)->prs Z rs=some k ->
  ∃ ps:List It3,ps.map (λp=>(p.d,p.f))=k/\ps.map (·.v)=F/\ps.Pairwise Apart3/\(∀ p∈ps,(∃ i,R3.pl i∈rs/\g i=some p)\/p∈Ts)/\Paired (λr p=>match r with | .pl i=>g i=some p | .val _ _=>p∈Ts) rs ps
 | [],_,_,T,k,.nil,w,_,e=>by cases e;exact #[[],rfl,rfl,.nil,λ_ h=>(by cases h),.nil]
 | r::rs,_,_,T,k,.cons (v:=v0) (Ts:=T0) (Us:=τ0) a as,w,hd,e=>by
  have E:Wf K G H Y Z (τ0++(T0++T)) g:=by rw[<- List.append_assoc];exact w
  have o:∀ i,2<=(pls rs).count i->∀ y,g i=some y->y.f=.z:=λi s=>hd i (by
   cases r with
   | pl j=>show 2<=(j::pls rs).count i;rw[List.count_cons];lia
   | val _ _=>exact s)
  cases a with
  | @pl i v h =>
   unfold prs at e
   cases q:(Z[i]?).join with
   | none=>rw[q] at e;exact nsE e
   | some p0 =>
    cases l:prs Z rs with
    | none=>rw[q,l] at e;exact nsE e
    | some pfs' =>
     rw[q,l] at e
     cases e
     obtain ⟨ps,f1,f2,A,f4,t⟩:=Ars.args as E o l
     obtain ⟨y,m,L,J,C⟩:=w.slot (d:=p0.1) (f:=p0.2) q
     have I:y.v=v0:=by rw[h] at C;cases C;rfl
     refine #[y::ps,by rw[FF,f1,L,J],by rw[FF,f2,I],List.pairwise_cons.mpr #[λp b=>?_,A],λp b=>?_,.cons m ?_]
     .rcases f4 p b with ⟨j,n,c⟩ | b
      .by_cases B:i=j
       .subst B
        have s:2<=(pls (R3.pl i::rs)).count i:=by
         show 2<=(i::pls rs).count i
         rw[List.count_cons_self]
         have:=List.count_pos_iff.mpr (lb n)
         lia
        have hz:=hd i s y m
        have u:=hd i s p c
        exact #[λq=>absurd hz q,λq=>absurd u q]
       .exact #[w.ss i j y p B m c,w.ss j i p y (Ne.symm B) c m]
      .exact w.st i y m p (Fi _ (Fi _ b))
     .rcases Fm.mp b with h' | b
      .rw[h'];exact .inl #[i,Fe,m]
      .rcases f4 p b with ⟨j,n,c⟩ | b
       .exact .inl #[j,Ff _ n,c]
       .exact .inr (Fi _ b)
     .exact Paired.mapP t λr p h=>by
       cases r with
       | pl j=>exact h
       | val _ _=>exact Fi _ h
  | val x =>
   unfold prs at e
   cases l:prs Z rs with
   | none=>rw[l] at e;exact nsE e
   | some pfs' =>
    rw[l] at e
    cases e
    obtain ⟨ps,f1,f2,A,f4,t⟩:=Ars.args as E o l
    refine #[x::ps,by rw[FF,f1],by rw[FF,f2],List.pairwise_cons.mpr #[λp b=>?_,A],λp b=>?_,.cons (Fj _ Fe) ?_]
    .rcases f4 p b with ⟨j,n,c⟩ | b
     .exact (w.st j p c x (Fi _ (Fj _ Fe))).symm
     .have t1:=(List.pairwise_append.mp w.tt).1
      exact ((List.pairwise_append.mp t1).2.2 p b x Fe).symm
    .rcases Fm.mp b with h' | b
     .rw[h'];exact .inr (Fj _ Fe)
     .rcases f4 p b with ⟨j,n,c⟩ | b
      .exact .inl #[j,Ff _ n,c]
      .exact .inr (Fi _ b)
    .exact Paired.mapP t λr p h=>by
      cases r with
      | pl j=>exact h
      | val _ _=>exact Fi _ h
theorem gc:∀ {rs:List R3} {ps qs:List It3} {Z:Sto} {g:Nat->Option It3},(∀ j,(g j).map (λx=>(x.d,x.f))=(Z[j]?).join)->rs.length=ps.length->Paired (Back1 K H H' T) ps qs->(∀ i,R3.pl i∈rs->i < Z.length) ->
  ∃ g':Nat->Option It3,(∀ j,(g' j).map (λx=>(x.d,x.f))=((back rs (ps.map λp=>(p.d,p.f)) (qs.map λq=>(q.d,q.f)) Z)[j]?).join)/\(back rs (ps.map λp=>(p.d,p.f)) (qs.map λq=>(q.d,q.f)) Z).length=Z.length /\
   ∀ j:Nat,(g' j=g j/\∀ (k:Nat) (p:It3),rs[k]?=some (R3.pl j)->ps[k]?=some p->p.f=.z)\/∃ (k:Nat) (p q:It3),rs[k]?=some (R3.pl j)/\ps[k]?=some p/\qs[k]?=some q/\p.f≠.z/\g' j=some q
 | [],[],_,Z,g,hg,_,.nil,_=>#[g,hg,rfl,λj=>.inl #[rfl,λk p h=>by simp at h]]
 | [],_::_,_,_,_,_,h,_,_=>by cases h
 | _::_,[],_,_,_,_,h,_,_=>by cases h
 | .val d f::rs,p::ps,_,Z,g,hg,hl,.cons (b:=q) (l₂:=qs) b1 bs,hi=>by
  obtain ⟨g',h1,h2,h3⟩:=gc (rs:=rs) hg (by simpa using hl) bs λi h=>hi i (Ff _ h)
  refine #[g',h1,h2,λj=>?_]
  rcases h3 j with ⟨e,h⟩ | ⟨k,a,l,a1,a2,m,a4⟩
  .refine .inl #[e,λk a e1 c=>?_]
   cases k with
   | zero=>simp at e1
   | succ k=>exact h k a (by simpa using e1) (by simpa using c)
  .exact .inr #[k+1,a,l,by simpa using a1,by simpa using a2,by simpa using m,a4]
 | .pl i::rs,p::ps,_,Z,g,hg,hl,.cons (b:=q) (l₂:=qs) b1 bs,hi=>by
  have r:=hi i Fe
  by_cases hz:p.f=.z
  .have o:back (.pl i::rs) ((p::ps).map λp=>(p.d,p.f)) ((q::qs).map λq=>(q.d,q.f)) Z=back rs (ps.map λp=>(p.d,p.f)) (qs.map λq=>(q.d,q.f)) Z:=by
    show back rs _ _ (if p.f=.z then Z else _)=_
    rw[if_pos hz]
   rw[o]
   obtain ⟨g',h1,h2,h3⟩:=gc (rs:=rs) hg (by simpa using hl) bs λi h=>hi i (Ff _ h)
   refine #[g',h1,h2,λj=>?_]
   rcases h3 j with ⟨e,h⟩ | ⟨k,a,l,a1,a2,m,a4⟩
   .refine .inl #[e,λk a e1 c=>?_]
    cases k with
    | zero=>simp at c;rw[<- c];exact hz
    | succ k=>exact h k a (by simpa using e1) (by simpa using c)
   .exact .inr #[k+1,a,l,by simpa using a1,by simpa using a2,by simpa using m,a4]
  .have o:back (.pl i::rs) ((p::ps).map λp=>(p.d,p.f)) ((q::qs).map λq=>(q.d,q.f)) Z=back rs (ps.map λp=>(p.d,p.f)) (qs.map λq=>(q.d,q.f)) (Z.set i (some (q.d,q.f))):=by
    show back rs _ _ (if p.f=.z then Z else Z.set i (some (q.d,if q.f=.z then .z else p.f)))=_
    rw[if_neg hz]
    have:(if q.f=.z then Fl.z else p.f)=q.f:=by
     by_cases h:q.f=.z
     .rw[if_pos h,h]
     .rw[if_neg h]
      rcases b1.f with h' | h'
      .exact h'.symm
      .exact absurd h' h
    rw[this]
   rw[o]
   obtain ⟨g',h1,h2,h3⟩:=gc (rs:=rs) (Z:=Z.set i (some (q.d,q.f))) (g:=λj=>if j=i then some q else g j) (λj=>by
    rw[cO r]
    by_cases e:j=i
    .rw[if_pos e,if_pos e];rfl
    .rw[if_neg e,if_neg e];exact hg j) (by simpa using hl) bs λi h=>by rw[List.length_set];exact hi i (Ff _ h)
   refine #[g',h1,by rw[h2,List.length_set],λj=>?_]
   rcases h3 j with ⟨e,h⟩ | ⟨k,a,l,a1,a2,m,a4⟩
   .by_cases n:j=i
    .rw[if_pos n] at e
     exact .inr #[0,p,q,by simp[n],rfl,rfl,hz,e]
    .rw[if_neg n] at e
     refine .inl #[e,λk a e1 c=>?_]
     cases k with
     | zero=>simp at e1;exact absurd e1.symm n
     | succ k=>exact h k a (by simpa using e1) (by simpa using c)
   .exact .inr #[k+1,a,l,by simpa using a1,by simpa using a2,by simpa using m,a4]
theorem oA:∀ {rs:List R3} {a:List (D×Fl)},prs Z rs=some a->rs.length=a.length
 | [],a,e=>by cases e;rfl
 | .pl i::rs,a,e=>by
  unfold prs at e
  cases q:(Z[i]?).join with
  | none=>rw[q] at e;exact nsE e
  | some p =>
   cases b:prs Z rs with
   | none=>rw[q,b] at e;exact nsE e
   | some ps=>rw[q,b] at e;cases e;rw[FO,FO,oA b]
 | .val d f::rs,a,e=>by
  unfold prs at e
  cases b:prs Z rs with
  | none=>rw[b] at e;exact nsE e
  | some ps=>rw[b] at e;cases e;rw[FO,FO,oA b]
theorem rj:∀ {rs:List R3} {a:List (D×Fl)},prs Z rs=some a->∀ i,R3.pl i∈rs->i < Z.length
 | [],a,e,i,h=>by cases h
 | .pl i::rs,a,e,j,h=>by
  unfold prs at e
  cases q:(Z[i]?).join with
  | none=>rw[q] at e;exact nsE e
  | some p =>
   cases b:prs Z rs with
   | none=>rw[q,b] at e;exact nsE e
   | some ps =>
    rcases Fm.mp h with h | h
    .cases h;exact fX q
    .exact rj b j h
 | .val d f::rs,a,e,j,h=>by
  unfold prs at e
  cases b:prs Z rs with
  | none=>rw[b] at e;exact nsE e
  | some ps =>
   rcases Fm.mp h with h | h
   .cases h
   .exact rj b j h
theorem Paired.at:∀ {l:List α} {m:List β} {k:Nat} {a:α} {b:β},Paired F l m->l[k]?=some a->m[k]?=some b->F a b
 | _,_,_,_,_,.nil,h,_=>by simp at h
 | _,_,0,_,_,.cons r _,h,h'=>by simp at h h';subst h h';exact r
 | _,_,k+1,_,_,.cons _ t,h,h'=>Paired.at (k:=k) t (by simpa using h) (by simpa using h')
theorem Paired.exL:∀ {l:List α} {m:List β} {k:Nat} {a:α},Paired F l m->l[k]?=some a->∃ b,m[k]?=some b/\F a b
 | _,_,_,_,.nil,h=>by simp at h
 | _,_,0,_,.cons r _,h=>by simp at h;subst h;exact #[_,rfl,r]
 | _,_,k+1,_,.cons _ t,h=>let #[b,h1,h2]:=Paired.exL (k:=k) t (by simpa using h);#[b,by simpa using h1,h2]
theorem Paired.exR:∀ {l:List α} {m:List β} {k:Nat} {b:β},Paired F l m->m[k]?=some b->∃ a,l[k]?=some a/\F a b
 | _,_,_,_,.nil,h=>by simp at h
 | _,_,0,_,.cons r _,h=>by simp at h;subst h;exact #[_,rfl,r]
 | _,_,k+1,_,.cons _ t,h=>let #[b,h1,h2]:=Paired.exR (k:=k) t (by simpa using h);#[b,by simpa using h1,h2]
theorem dE {R:α->α->Prop} {l:List α} (p:l.Pairwise R) (f:∀ a b,R a b->R b a) {i j:Nat} {a b:α} (n:i≠j) (c:l[i]?=some a) (d:l[j]?=some b):R a b:=by
 obtain ⟨h1,e1⟩:=Fu.mp c
 obtain ⟨h2,e⟩:=Fu.mp d
 have q:=List.pairwise_iff_getElem.mp p
 grind
theorem Wf.after (w:Wf K G H Y Z (Ts++T) g) (e:prs Z rs=some pfs) (f1:ps.map (λp=>(p.d,p.f))=pfs) (f4:∀ p∈ps,(∃ i,R3.pl i∈rs/\g i=some p)\/p∈Ts) (f5:Paired (λr p=>match r with | .pl i=>g i=some p | .val _ _=>p∈Ts) rs ps) (B:BehindX K H H' ps qs) :
  ∃ g',Wf K G H' Y (L3.back rs pfs (qs.map λq=>(q.d,q.f)) Z) T g' /\
   ∀ x,Rep K H' x.d x.v x.L->(x.f≠.z->jE x.d=true/\∃ a L',x.v=.ref a/\x.L=a::L'/\a ∉ L'/\H a=none)->(∀ c∈x.L,H c=none\/dS ps c)->(∀ q∈qs,Apart3 x q)->Wf K G H' Y (L3.back rs pfs (qs.map λq=>(q.d,q.f)) Z) (x::T) g':=by
 subst f1
 have V:rs.length=ps.length:=by have:=oA e;rwa [Ft] at this
 obtain ⟨g',h1,h2,h3⟩:=gc (K:=K) (H:=H) (H':=H') (T:=ps) (rs:=rs) (ps:=ps) (qs:=qs) w.sl V B.back (rj e)
 have F:∀ p∈ps,Itm (Ts++T) g p:=λp l=>by
  rcases f4 p l with ⟨i,_,P⟩ | h
  .exact .inl #[i,P]
  .exact .inr (Fi _ h)
 have σ:∀ b o,H b=some o->∃ o',H' b=some o':=λb o τ=>by
  by_cases h:∀ p∈ps,p.f=.u->p.v≠.ref b
  .exact #[o,B.frame b o τ h]
  .have h':∃ p,p∈ps/\p.f=.u/\p.v=.ref b:=by
    refine Classical.byContradiction λn=>h λp l hf J=>n #[p,l,hf,J]
   obtain ⟨p,l,hf,J⟩:=h'
   obtain ⟨k,hk,ek⟩:=List.mem_iff_getElem.mp l
   obtain ⟨q,e1,b1⟩:=Paired.exL B.back (show ps[k]?=some p by rw[Fo hk,ek])
   exact b1.there hf b J
 have ka:∀ j z,g j=some z->(∀ (k:Nat) (p:It3),rs[k]?=some (R3.pl j)->ps[k]?=some p->p.f=.z)->∀ p∈ps,Apart3 p z:=λj z ej hu p l=>by
  rcases f4 p l with ⟨i,hi,P⟩ | h
  .by_cases ij:i=j
   .subst ij
    have a0:p=z:=F6 (P.symm.trans ej)
    subst a0
    have hz:p.f=.z:=by
     obtain ⟨k,hk,ek⟩:=List.mem_iff_getElem.mp hi
     have X:rs[k]?=some (R3.pl i):=by rw[Fo hk,ek]
     obtain ⟨C,e1,D⟩:=Paired.exL f5 X
     have D:g i=some C:=D
     rw[P] at D
     cases D
     exact hu k p X e1
    exact #[λq=>absurd hz q,λq=>absurd hz q]
   .exact #[w.ss i j p z ij P ej,w.ss j i z p (Ne.symm ij) ej P]
  .exact (w.st j z ej p (Fi _ h)).symm
 have kt:∀ z∈T,∀ p∈ps,Apart3 p z:=λz hz p l=>by
  rcases f4 p l with ⟨i,hi,P⟩ | h
  .exact w.st i p P z (Fj _ hz)
  .exact (List.pairwise_append.mp w.tt).2.2 p h z hz
 have keep:∀ z,ItOk K G H z->(∀ p∈ps,Apart3 p z)->ItOk K G H' z:=λz Q W=>by
  refine Q.keep (M:=λb=>∃ p∈ps,p.f=.u/\p.v=.ref b) (λb o τ n=>B.frame b o τ λp l hf J=>n #[p,l,hf,J]) (λb #[p,l,hf,J]=>?_) (λb τ #[p,l,hf,J]=>?_)
  .obtain ⟨_,a,L',e1,D,_⟩:=(w.itm (F p l)).own (by rw[hf];intro q;cases q)
   rw[J] at e1
   cases e1
   exact (w.itm (F p l)).rep.inH b (by rw[D];exact Fe)
  .exact (W p l).1 (by rw[hf];intro q;cases q) b J τ
 have ar:∀ k p q,ps[k]?=some p->qs[k]?=some q->ItOk K G H' q:=λk p q e1 D=>by
  have b:=Paired.at B.back e1 D
  refine #[b.arg.rep,λhf=>?_,λc S=>?_]
  .obtain ⟨m,a,L',v1,v2,v3⟩:=b.arg.own hf
   refine #[m,a,L',v1,v2,v3,λhu=>?_]
   have pf:p.f=.u:=by
    rcases b.f with h | h
    .rw[<- h];exact hu
    .rw[h] at hu;cases hu
   obtain ⟨_,a',bb,e3,_,_,e5⟩:=(w.itm (F p (Fv e1))).own (by rw[pf];intro q;cases q)
   rw[<- b.v,v1] at e3
   cases e3
   exact e5 pf
  .rcases b.src c S with h | ⟨C,A,h⟩
   .exact .inl (w.h0none h)
   .exact (w.itm (F C A)).src c h
 have kq:∀ z,ItOk K G H z->(∀ p∈ps,Apart3 p z)->∀ k p q,ps[k]?=some p->qs[k]?=some q->Apart3 z q:=λz Q W k p q e1 D=>by
  have b:=Paired.at B.back e1 D
  refine #[λhf a ev hm=>?_,λhf a ev=>?_]
  .rcases b.src a hm with h | ⟨C,A,S⟩
   .obtain ⟨_,a',L',s,O,_⟩:=Q.own hf
    rw[ev] at s;cases s
    obtain ⟨o,I⟩:=(Q.rep.inH a (by rw[O];exact Fe)).ex
    rw[h] at I;exact nsE I
   .exact (W C A).2 hf a ev S
  .have pf:p.f≠.z:=λρ=>by
    have:=b.z ρ
    rw[this] at hf
    exact hf ρ
   exact (W p (Fv e1)).1 pf a (by rw[<- b.v];exact ev)
 have old:∀ j z,g' j=some z->(g j=some z/\∀ p∈ps,Apart3 p z)\/∃ k p,rs[k]?=some (R3.pl j)/\ps[k]?=some p/\qs[k]?=some z:=λj z E=>by
  rcases h3 j with ⟨e1,hu⟩ | ⟨k,p,q,a1,a2,y,_,a5⟩
  .rw[e1] at E
   exact .inl #[E,ka j z E hu]
  .rw[a5] at E
   cases E
   exact .inr #[k,p,a1,a2,y]
 have wf:Wf K G H' Y (L3.back rs (ps.map λp=>(p.d,p.f)) (qs.map λq=>(q.d,q.f)) Z) T g':=by
  refine #[by rw[h2];exact w.len,h1,λj z E=>?_,λj z E=>?_,λz hz=>keep z (w.okT z (Fj _ hz)) (kt z hz),λi j a b n R eb=>?_,λj z E t N=>?_,(List.pairwise_append.mp w.tt).2.1,λb o e n=>?_,w.pro,#[λu hu=>w.fx.frT u (Fj _ hu),λj u h l hf a R=>?_,λb τ=>?_,λb o h=>?_,λj u h V=>?_]]
  .rcases old j z E with ⟨e1,_⟩ | ⟨k,p,a1,a2,y⟩
   .exact w.sv j z e1
   .have ep:g j=some p:=by
     obtain ⟨C,s,O⟩:=Paired.exL f5 a1
     rw[a2] at s;cases s
     exact O
    rw[(Paired.at B.back a2 y).v]
    exact w.sv j p ep
  .rcases old j z E with ⟨e1,ap⟩ | ⟨k,p,a1,a2,y⟩
   .exact keep z (w.okS j z e1) ap
   .exact ar k p z a2 y
  .rcases old i a R with ⟨e1,ap⟩ | ⟨k,p,a1,a2,y⟩
   .rcases old j b eb with ⟨D,_⟩ | ⟨k',C,b1,b2,b3⟩
    .exact w.ss i j a b n e1 D
    .exact (kq a (w.okS i a e1) ap k' C b b2 b3).1
   .rcases old j b eb with ⟨D,ap⟩ | ⟨k',C,b1,b2,b3⟩
    .exact (kq b (w.okS j b D) ap k p a a2 y).2
    .have kk:k≠k':=λz=>by
      subst z
      rw[a1] at b1
      cases b1
      exact n rfl
     exact (dE B.apart (λ_ _=>Apart3.symm) kk y b3).1
  .rcases old j z E with ⟨e1,ap⟩ | ⟨k,p,a1,a2,y⟩
   .exact w.st j z e1 t (Fj _ N)
   .exact (kq t (w.okT t (Fj _ N)) (kt t N) k p z a2 y).symm
  .refine B.frame b o (w.base b o e n) λp l hf J=>?_
   obtain ⟨_,a,L',e1,_,_,e3⟩:=(w.itm (F p l)).own (by rw[hf];intro q;cases q)
   rw[J] at e1
   cases e1
   rcases e3 hf with h | h
   .rw[e] at h;cases h
   .exact n h
  .rcases old j u h with ⟨e1,_⟩ | ⟨k,p,a1,a2,y⟩
   .exact w.fx.frS j u e1 l hf a R
   .have b:=Paired.at B.back a2 y
    have ep:g j=some p:=by
     obtain ⟨C,s,O⟩:=Paired.exL f5 a1
     rw[a2] at s;cases s
     exact O
    refine w.fx.frS j p ep l (λρ=>?_) a (by rw[<- b.v];exact R)
    have:=b.z ρ
    rw[this] at hf
    exact hf ρ
  .obtain ⟨o,I⟩:=w.fx.bin b τ
   exact σ b o I
  .obtain ⟨o',I⟩:=w.fx.ob b o h
   exact σ b o' I
  .rcases old j u h with ⟨e1,_⟩ | ⟨k,p,a1,a2,y⟩
   .exact w.fx.lvS j u e1 V
   .have b:=Paired.at B.back a2 y
    have ep:g j=some p:=by
     obtain ⟨C,s,O⟩:=Paired.exL f5 a1
     rw[a2] at s;cases s
     exact O
    rw[b.v]
    refine w.fx.lvS j p ep ?_
    rcases b.f with h | h
    .rw[<- h];exact V
    .rw[h] at V;cases V
 refine #[g',wf,λx rx ox sx ax=>?_]
 have kx:∀ z,ItOk K G H z->(∀ p∈ps,Apart3 p z)->Apart3 z x:=λz Q W=>by
  refine #[λhf a ev hm=>?_,λhf a ev hm=>?_]
  .rcases sx a hm with h | ⟨C,A,S⟩
   .obtain ⟨_,a',L',s,O,_⟩:=Q.own hf
    rw[ev] at s;cases s
    obtain ⟨o,I⟩:=(Q.rep.inH a (by rw[O];exact Fe)).ex
    rw[h] at I;exact nsE I
   .exact (W C A).2 hf a ev S
  .obtain ⟨_,a',L',s,_,_,q4⟩:=ox hf
   rw[ev] at s;cases s
   obtain ⟨o,I⟩:=(Q.rep.inH a hm).ex
   rw[q4] at I;exact nsE I
 refine #[wf.len,wf.sl,wf.sv,wf.okS,λz hz=>?_,wf.ss,λj z E t N=>?_,?_,wf.base,wf.pro,#[λu hu hf a R=>?_,wf.fx.frS,wf.fx.bin,wf.fx.ob,wf.fx.lvS]]
 .rcases Fm.mp hz with h | hz
  .rw[h]
   refine #[rx,λhf=>?_,λc S=>?_]
   .obtain ⟨m,a,L',v1,v2,v3,v4⟩:=ox hf
    exact #[m,a,L',v1,v2,v3,λ_=>.inl (w.h0none v4)]
   .rcases sx c S with h | ⟨C,A,h⟩
    .exact .inl (w.h0none h)
    .exact (w.itm (F C A)).src c h
  .exact wf.okT z hz
 .rcases Fm.mp N with h | N
  .rw[h]
   rcases old j z E with ⟨e1,ap⟩ | ⟨k,p,a1,a2,y⟩
   .exact kx z (w.okS j z e1) ap
   .exact (ax z (Fv y)).symm
  .exact wf.st j z E t N
 .exact List.pairwise_cons.mpr #[λt N=>(kx t (w.okT t (Fj _ N)) (kt t N)).symm,wf.tt]
 .rcases Fm.mp hu with h | hu
  .subst h
   obtain ⟨_,a',L',s,_,_,q4⟩:=ox hf
   rw[R] at s;cases s
   exact w.ornone q4
  .exact wf.fx.frT u hu hf a R
theorem rN {i a:Nat} (h:(Z[i]?).join=none):((L3.lowAt a Z)[i]?).join=none:=by
 unfold L3.lowAt
 split
 .grind
 .rename_i d hd
  rw[cO (fX hd)]
  by_cases b:i=a
  .subst b;rw[h] at hd;exact nsE hd
  .rw[if_neg b];exact h
 .exact h
theorem qp {i:Nat}:∀ {is:List Nat} {Z:Sto},(Z[i]?).join=none->((L3.frz is Z)[i]?).join=none
 | [],Z,h=>h
 | a::is,Z,h=>qp (is:=is) (Z:=L3.lowAt a Z) (rN h)
end
def iO (Z:Sto):Nat->List (D×Fl)->Option (List (D×Fl))
 | _,[]=>some []
 | i,(d,.z)::ps=>(iO Z (i+1) ps).map λr=>(d,.z)::r
 | i,(d,f)::ps=>match (Z[i]?).join,iO Z (i+1) ps with
  | some (d',f'),some r=>if f'=f\/f'=.z then some ((d',f')::r) else none
  | _,_=>none
def kF (n:Nat) (ps:List (D×Fl)):Sto:=ps.map some++List.replicate (n - ps.length) none
def fn0 (n:Nat) (b:SM):Fn:=λps=>match b (kF n ps) with
 | some (.ok .nx,Z')=>(iO Z' 0 ps).map λfs=>(.ok (.non,.z),fs)
 | some (.ok (.rt d f),Z')=>(iO Z' 0 ps).map λfs=>(.ok (d,f),fs)
 | some (.error e,Z')=>(iO Z' 0 ps).map λfs=>(.error e,fs)
 | _=>none
def vp (b:Bool) (p:D×Fl):D×Fl:=if b then (p.1,.z) else p
noncomputable def fnM (mask:List Bool) (n:Nat) (b:SM):Fn:=λps=>if ps.length=mask.length then fn0 n b (List.zipWith vp mask ps) else none
section
variable {K:FG} {G:Gm} {W:D->Sto->Prop} {H H':Hp} {Y:St} {Z Z':Sto} {T T':List It3} {g:Nat->Option It3} {x y z:It3} {α β:Type}
def gOf (H:Hp) (pr:Nat->Bool) (Y0:St) (ps:List It3):Gm:=#[H,λb=>∃ p∈ps,p.f=.u/\p.v=.ref b,pr,Y0,H,dS ps,λi=>(ps[i]?).map (·.v)]
theorem vF {n:Nat} (a:ps.length<=n) (i:Nat):((kF n ps)[i]?).join=ps[i]?:=by
 unfold kF
 grind
theorem nc {n:Nat} {a:List V} {i:Nat} (h:a[i]?=some v):(a.map some++List.replicate n (none:Option V))[i]?=some (some v):=by grind
theorem wk {n:Nat} (s:ps.length<=n) (g:∀ p∈ps,Arg K H p) (y:ps.Pairwise Apart3) (k:∀ (i:Nat) (p:It3),ps[i]?=some p->p.f≠.z->pr i=true) :
  Wf K (gOf H pr ((ps.map (·.v)).map some++List.replicate (n - (ps.map (·.v)).length) none) ps) H ((ps.map (·.v)).map some++List.replicate (n - (ps.map (·.v)).length) none) (kF n (ps.map λp=>(p.d,p.f))) [] (λi=>ps[i]?):=by
 refine #[?_,λi=>?_,λi x e=>?_,λi x e=>?_,λ_ h=>(by cases h),λi j a b n w u=>?_,λ_ _ _ _ h=>(by cases h),.nil,λb o e _=>e,λi _=>rfl,#[λ_ h=>(by cases h),λi x e hz hf=>?_,λb h=>?_,λb o e=>#[o,e],λi x e _=>(by show (ps[i]?).map (·.v)=_;rw[e];rfl)]]
 .unfold kF;simp
 .rw[vF (by simpa using s),Fz]
 .exact nc (by rw[Fz,e];rfl)
 .have hm:=Fv e
  refine #[(g x hm).rep,λhf=>?_,λc t=>.inr #[x,hm,t]]
  obtain ⟨m,a,L',v1,v2,l⟩:=(g x hm).own hf
  exact #[m,a,L',v1,v2,l,λhu=>.inr #[x,hm,hu,v1]]
 .exact (dE y (λ_ _=>Apart3.symm) n w u).1
 .have hz:pr i=false:=hz
  rw[k i x e hf] at hz;cases hz
 .obtain ⟨p,hm,hf,r⟩:=h
  obtain ⟨_,a,L',v1,v2,_⟩:=(g p hm).own (by rw[hf];intro q;cases q)
  rw[r] at v1;cases v1
  exact ((g p hm).rep.inH b (by rw[v2];exact Fe)).ex
def FinsOk (Z:Sto) (i:Nat) (ps fs:List (D×Fl)):Prop:=fs.length=ps.length/\∀ (k:Nat) (p:D×Fl),ps[k]?=some p->∃ q,fs[k]?=some q/\(p.2=.z->q=p)/\(p.2≠.z->(Z[i+k]?).join=some q/\(q.2=p.2\/q.2=.z))
theorem FinsOk.cons {i:Nat} {e d:D×Fl} {ps fs:List (D×Fl)} (h:FinsOk Z (i+1) ps fs) (hz:e.2=.z->d=e) (g:e.2≠.z->(Z[i]?).join=some d/\(d.2=e.2\/d.2=.z)):FinsOk Z i (e::ps) (d::fs):=by
 refine #[by rw[FO,FO,h.1],λk p f=>?_]
 cases k with
 | zero=>cases f;exact #[d,rfl,hz,g]
 | succ k =>
  obtain ⟨q,a,b,c⟩:=h.2 k p f
  grind
theorem j5:∀ {i:Nat} {ps:List (D×Fl)} {fs:List (D×Fl)},iO Z i ps=some fs->FinsOk Z i ps fs
 | i,[],fs,e=>by cases e;exact #[rfl,λk p h=>by cases h]
 | i,p0::ps,fs,e=>by
  obtain ⟨d,f⟩:=p0
  have key:f≠.z->(match (Z[i]?).join,iO Z (i+1) ps with
    | some (d',a),some r=>if a=f\/a=.z then some ((d',a)::r) else none
    | _,_=>none)=some fs->FinsOk Z i ((d,f)::ps) fs:=λhf e=>by
   cases h:(Z[i]?).join with
   | none=>rw[h] at e;exact nsE e
   | some p0 =>
    cases h2:iO Z (i+1) ps with
    | none=>rw[h,h2] at e;exact nsE e
    | some r =>
     rw[h,h2] at e
     obtain ⟨d',a⟩:=p0
     dsimp only at e
     rcases Decidable.em (a=f\/a=.z) with b | b
     .rw[if_pos b] at e
      cases e
      exact (j5 h2).cons (λz=>absurd z hf) λ_=>#[h,b]
     .rw[if_neg b] at e;exact nsE e
  cases f with
  | z =>
   obtain ⟨r,h,h'⟩:=Fh.mp (show (iO Z (i+1) ps).map (λr=>(d,Fl.z)::r)=some fs from e)
   subst h'
   exact (j5 h).cons (λ_=>rfl) λn=>absurd rfl n
  | u=>exact key (by intro q;cases q) e
  | l=>exact key (by intro q;cases q) e
theorem kC {P:Nat->α->β->Prop}:∀ (l:List α) (i:Nat),(∀ (k:Nat) a,l[k]?=some a->∃ b,P (i+k) a b)->∃ m:List β,m.length=l.length/\∀ (k:Nat) a,l[k]?=some a->∃ b,m[k]?=some b/\P (i+k) a b
 | [],i,_=>#[[],rfl,λk a h=>by simp at h]
 | a::l,i,h=>by
  obtain ⟨b,c⟩:=h 0 a rfl
  obtain ⟨m,h1,h2⟩:=kC l (i+1) λk a e=>by
   have:=h (k+1) a (by simpa using e)
   rwa [show i+(k+1)=i+1+k by lia] at this
  refine #[b::m,by simp[h1],λk f e=>?_]
  cases k with
  | zero=>simp at e;subst e;exact #[b,rfl,c]
  | succ k =>
   obtain ⟨d,e1,g⟩:=h2 k f (by simpa using e)
   exact #[d,by simpa using e1,by rwa [show i+(k+1)=i+1+k by lia]]
theorem Paired.ofGet:∀ {l:List α} {m:List β},l.length=m.length->(∀ (k:Nat) a b,l[k]?=some a->m[k]?=some b->F a b)->Paired F l m
 | [],[],_,_=>.nil
 | [],_::_,h,_=>by cases h
 | _::_,[],h,_=>by cases h
 | a::l,b::m,h,f=>.cons (f 0 a b rfl rfl) (Paired.ofGet (by simpa using h) λk a b e1 c=>f (k+1) a b (by simpa using e1) (by simpa using c))
theorem qK {n:Nat} {pr:Nat->Bool} {Y0:St} {ps:List It3} {fs:List (D×Fl)} (E:∀ p∈ps,Arg K H p) (G:ps.Pairwise Apart3) (Q:∀ (i:Nat) (p:It3),ps[i]?=some p->p.f≠.z->pr i=true) (h0:∀ (i:Nat) (p:It3),ps[i]?=some p->Y0[i]?=some (some p.v))
  (w:Wf K (gOf H pr Y0 ps) H' Y Z T g) (e:iO Z 0 (ps.map λp=>(p.d,p.f))=some fs) :
  ∃ qs,BehindX K H H' ps qs/\qs.map (λq=>(q.d,q.f))=fs/\(∀ (k:Nat) (p q:It3),ps[k]?=some p->qs[k]?=some q->(p.f=.z/\q=p)\/(p.f≠.z/\g k=some q)):=by
 obtain ⟨hl,hs⟩:=j5 e
 rw[Ft] at hl
 have frame:∀ b o,H b=some o->(∀ p∈ps,p.f=.u->p.v≠.ref b)->H' b=some o:=λb o t J=>w.base b o t λ#[p,hm,hf,s]=>J p hm hf s
 have there:∀ b o,H b=some o->∃ o',H' b=some o':=λb o t=>w.fx.ob b o t
 have F:∀ (k:Nat) (p:It3),ps[k]?=some p->p.f=.z->Rep K H' p.d p.v p.L:=λk p l hz=>by
  refine (E p (Fv l)).rep.keep (M:=λb=>∃ p∈ps,p.f=.u/\p.v=.ref b) (λb o t J=>frame b o t λp G hf s=>J #[p,G,hf,s]) (λb #[A,hm,hf,s]=>?_) λb t #[A,hm,hf,s]=>?_
  .obtain ⟨_,a,L',v1,v2,_⟩:=(E A hm).own (by rw[hf];intro q;cases q)
   rw[s] at v1;cases v1
   exact (E A hm).rep.inH b (by rw[v2];exact Fe)
  .obtain ⟨j,O,I⟩:=List.mem_iff_getElem.mp hm
   have x:ps[j]?=some A:=by rw[Fo O,I]
   have jk:j≠k:=λz=>by subst z;rw[l] at x;cases x;rw[hz] at hf;cases hf
   exact (dE G (λ_ _=>Apart3.symm) jk x l).1 (by rw[hf];intro q;cases q) b s t
 have one:∀ (k:Nat) (p:It3),ps[k]?=some p->∃ q,(q.d,q.f)=(fs[k]?).getD (p.d,p.f)/\fs[k]?=some (q.d,q.f)/\Back1 K H H' ps p q/\((p.f=.z/\q=p)\/(p.f≠.z/\g k=some q)):=λk p l=>by
  have hm:=Fv l
  obtain ⟨W,f1,f2,f3⟩:=hs k (p.d,p.f) (by rw[Fz,l];rfl)
  by_cases hz:p.f=.z
  .have:=f2 hz
   subst this
   refine #[p,by rw[f1];rfl,f1,#[λ_=>rfl,rfl,.inl rfl,#[F k p l hz,λh=>absurd hz h],λc N=>.inr #[p,hm,N],λh=>?_],.inl #[hz,rfl]]
   rw[hz] at h;cases h
  .obtain ⟨h1,h2⟩:=f3 hz
   rw[FK] at h1
   obtain ⟨y,X,V,S,y4⟩:=w.slot (d:=W.1) (f:=W.2) h1
   have s:y.v=p.v:=by
    have:=w.pro k (Q k p l hz)
    rw[y4] at this
    have h0:some (some y.v)=some (some p.v):=this.trans (h0 k p l)
    injection h0 with h0
    injection h0
   have ok:=w.okS k y X
   refine #[y,by rw[f1,V,S];rfl,by rw[f1,V,S],#[λh=>absurd h hz,s,by rw[S];exact h2,#[ok.rep,λhf=>?_],λc N=>ok.src c N,λhf b t=>?_],.inr #[hz,X]]
   .obtain ⟨m,a,L',v1,v2,v3,_⟩:=ok.own hf
    exact #[m,a,L',v1,v2,v3]
   .obtain ⟨_,a,L',v1,v2,_⟩:=(E p hm).own hz
    rw[t] at v1;cases v1
    obtain ⟨o,ho⟩:=((E p hm).rep.inH b (by rw[v2];exact Fe)).ex
    exact there b o ho
 obtain ⟨qs,hq,B⟩:=kC (P:=λk p q=>fs[k]?=some (q.d,q.f)/\Back1 K H H' ps p q/\((p.f=.z/\q=p)\/(p.f≠.z/\g k=some q))) ps 0 λk p l=>by
  obtain ⟨q,_,a,b,c⟩:=one k p l
  exact #[q,by simpa using #[a,b,c]]
 have get:∀ (k:Nat) (p q:It3),ps[k]?=some p->qs[k]?=some q->fs[k]?=some (q.d,q.f)/\Back1 K H H' ps p q/\((p.f=.z/\q=p)\/(p.f≠.z/\g k=some q)):=λk p q ep eq=>by
  obtain ⟨q',e1,e2⟩:=B k p ep
  rw[eq] at e1
  cases e1
  simpa using e2
 have par:∀ (k:Nat) (q:It3),qs[k]?=some q->∃ p,ps[k]?=some p:=λk q e=>by
  have σ:=(Fu.mp e).1
  exact #[ps[k]'(by lia),by simp[show k < ps.length by lia]]
 refine #[qs,#[frame,Paired.ofGet hq.symm λk p q ep eq=>(get k p q ep eq).2.1,?_],?_,λk p q ep eq=>(get k p q ep eq).2.2]
 .rw[List.pairwise_iff_getElem]
  intro k j σ O lt
  have l:qs[k]?=some qs[k]:=Fo σ
  have I:qs[j]?=some qs[j]:=Fo O
  have side:∀ (k j:Nat) (q r:It3),k≠j->qs[k]?=some q->qs[j]?=some r->NoRoot q r:=λk j q r n eq ρ=>by
   obtain ⟨p,ep⟩:=par k q eq
   obtain ⟨A,C⟩:=par j r ρ
   obtain ⟨_,b,c⟩:=get k p q ep eq
   obtain ⟨_,b',c'⟩:=get j A r C ρ
   rcases c with ⟨hz,e⟩ | ⟨hz,e⟩
   .rw[e];exact λh=>absurd hz h
   .rcases c' with ⟨R,τ⟩ | ⟨R,τ⟩
    .rw[τ]
     intro hf a ea
     exact (dE G (λ_ _=>Apart3.symm) n ep C).1 hz a (by rw[<- b.v];exact ea)
    .exact w.ss k j q r n e τ
  exact #[side k j _ _ (FD lt) l I,side j k _ _ (Nat.ne_of_gt lt) I l]
 .refine List.ext_getElem? λk=>?_
  rw[Fz]
  cases eq:qs[k]? with
  | none =>
   have:qs.length<=k:=List.getElem?_eq_none_iff.mp eq
   rw[List.getElem?_eq_none (by lia)]
   rfl
  | some q =>
   obtain ⟨p,ep⟩:=par k q eq
   rw[(get k p q ep eq).1]
   rfl
theorem sI {n:Nat} {pr:Nat->Bool} {Y0:St} {ps:List It3} {fs:List (D×Fl)} (l:∀ p∈ps,Arg K H p) (u:ps.Pairwise Apart3) (j:∀ (i:Nat) (p:It3),ps[i]?=some p->p.f≠.z->pr i=true) (h0:∀ (i:Nat) (p:It3),ps[i]?=some p->Y0[i]?=some (some p.v))
  (w:Wf K (gOf H pr Y0 ps) H' Y Z (x::T) g) (e:iO Z 0 (ps.map λp=>(p.d,p.f))=some fs):∃ qs,Behind K H H' ps qs x/\qs.map (λq=>(q.d,q.f))=fs:=by
 obtain ⟨qs,B,f,F⟩:=qK (n:=n) l u j h0 w e
 have ok:=w.okT x Fe
 refine #[qs,#[B,ok.rep,λhf=>?_,λc E=>ok.src c E,λq y=>?_],f]
 .obtain ⟨m,a,L',v1,v2,s,_⟩:=ok.own hf
  exact #[m,a,L',v1,v2,s,w.fx.frT x Fe hf a v1]
 .obtain ⟨k,A,C⟩:=List.mem_iff_getElem.mp y
  have eq:qs[k]?=some q:=by rw[Fo A,C]
  obtain ⟨p,ep,b⟩:=Paired.exR B.back eq
  rcases F k p q ep eq with ⟨hz,e⟩ | ⟨hz,e⟩
  .rw[e]
   refine #[λhf a t hm=>?_,λh=>absurd hz h]
   have h1:=w.fx.frT x Fe hf a t
   obtain ⟨o,r⟩:=((l p (Fv ep)).rep.inH a hm).ex
   have h2:H a=none:=h1
   rw[h2] at r;exact nsE r
  .exact (w.st k q e x Fe).symm
end
def cX:Fl->Fl
 | .u=>.l
 | f=>f
def bm (x:It3):It3:={ x with f:=cX x.f }
def gp:Fl->Fl
 | .l=>.u
 | f=>f
def zF (x:It3):It3:={ x with f:=gp x.f }
def lW (h:Fl->Fl) (i:Nat) (Z:Sto):Sto:=match (Z[i]?).join with
 | some (d,f)=>Z.set i (some (d,h f))
 | none=>Z
def aK (h:Fl->Fl) (is:List Nat) (Z:Sto):Sto:=is.foldl (λZ i=>lW h i Z) Z
def us (Z:Sto) (is:List Nat):List Nat:=is.filter λi=>match (Z[i]?).join with
 | some (_,.u)=>true
 | _=>false
theorem lentF_z:cX f=.z ↔ f=.z:=by cases f <;> simp[cX]
theorem unlF_z:gp f=.z ↔ f=.z:=by cases f <;> simp[gp]
theorem tW (f:Fl):cX f≠.u:=by cases f <;> simp[cX]
theorem CB (f:Fl):gp f≠.l:=by cases f <;> simp[gp]
section
variable {K:FG} {G G0:Gm} {W W0:D->Sto->Prop} {H H':Hp} {Y:St} {Z Z':Sto} {T T':List It3} {g:Nat->Option It3} {x y z:It3} {α β:Type}
theorem rH {i j:Nat}:((lW h i Z)[j]?).join=if j=i then ((Z[j]?).join).map (λp=>(p.1,h p.2)) else (Z[j]?).join:=by
 unfold lW
 grind
theorem vi {i:Nat}:(lW h i Z).length=Z.length:=by
 unfold lW
 split
 .rw[List.length_set]
 .rfl
theorem gw (a:∀ f,h (h f)=h f):∀ {is:List Nat} {Z:Sto} {j:Nat},((aK h is Z)[j]?).join=if j∈is then ((Z[j]?).join).map (λp=>(p.1,h p.2)) else (Z[j]?).join
 | [],Z,j=>by simp[aK]
 | i::is,Z,j=>by
  have e:aK h (i::is) Z=aK h is (lW h i Z):=rfl
  rw[e,gw a,rH]
  by_cases q:j=i
  .subst q
   by_cases m:j∈is
   .rw[if_pos m,if_pos rfl,if_pos Fe]
    cases (Z[j]?).join with
    | none=>rfl
    | some p=>simp[a]
   .rw[if_neg m,if_pos rfl,if_pos Fe]
  .by_cases m:j∈is
   .rw[if_pos m,if_neg q,if_pos (Ff _ m)]
   .rw[if_neg m,if_neg q,if_neg (λz=>(Fm.mp z).elim q m)]
theorem i7:∀ {is:List Nat} {Z:Sto},(aK h is Z).length=Z.length
 | [],Z=>rfl
 | i::is,Z=>by
  have e:aK h (i::is) Z=aK h is (lW h i Z):=rfl
  rw[e,i7,vi]
def eC (G:Gm) (H:Hp) (g:Nat->Option It3) (is:List Nat):Gm :=
 #[H,λb=>∃ j y,j ∉ is/\g j=some y/\y.f=.u/\y.v=.ref b,G.pr,G.Y0,G.orig,λc=>G.H0 c=none\/G.src c,λj=>if j∈is then (g j).map (·.v) else G.lv j]
structure Fk (x y:It3):Prop where
 d:y.d=x.d
 v:y.v=x.v
 L:y.L=x.L
 z:y.f=.z ↔ x.f=.z
theorem Fk.noRoot (a:Fk x x') (b:Fk y y') (h:NoRoot x y):NoRoot x' y':=λhf c e=>by
 rw[b.L]
 exact h (λq=>hf (a.z.mpr q)) c (by rw[<- a.v];exact e)
theorem Fk.apart (a:Fk x x') (b:Fk y y') (h:Apart3 x y):Apart3 x' y':=#[a.noRoot b h.1,b.noRoot a h.2]
theorem Fk.refl (x:It3):Fk x x:=#[rfl,rfl,rfl,Iff.rfl]
theorem lf (x:It3):Fk x (bm x):=#[rfl,rfl,rfl,lentF_z]
theorem EN (x:It3):Fk x (zF x):=#[rfl,rfl,rfl,unlF_z]
theorem pZ {o:Option It3} {h:Fl->Fl} (e:o.map (λx=>(x.d,x.f))=p):(o.map λx=>{ x with f:=h x.f }).map (λx:It3=>(x.d,x.f))=p.map λp=>(p.1,h p.2):=by
 subst e
 cases o <;> rfl
theorem Wf.enter (w:Wf K G H Y Z T g) (is:List Nat):Wf K (eC G H g is) H Y (aK cX is Z) (T.map bm) (λj=>if j∈is then (g j).map bm else g j):=by
 have val:∀ j u,(if j∈is then (g j).map bm else g j)=some u->∃ l,g j=some l/\Fk l u/\((j∈is/\u=bm l)\/(j ∉ is/\u=l)):=λj u h=>by
  by_cases q:j∈is
  .rw[if_pos q] at h
   obtain ⟨l,e1,s⟩:=Fh.mp h
   subst s
   exact #[l,e1,lf l,.inl #[q,rfl]]
  .rw[if_neg q] at h
   exact #[u,h,Fk.refl u,.inr #[q,rfl]]
 refine #[by rw[i7];exact w.len,λj=>?_,λj u h=>?_,λj u h=>?_,λu hu=>?_,λi j a b n F p=>?_,λj a h b p=>?_,?_,λb o e _=>e,w.pro,#[λu hu hf a x=>?_,λj u h E hf a x=>?_,λb p=>?_,w.fx.ob,λj u h J=>?_]]
 .rw[gw (by intro f;cases f <;> rfl)]
  by_cases q:j∈is
  .rw[if_pos q,if_pos q];exact pZ (w.sl j)
  .rw[if_neg q,if_neg q];exact w.sl j
 .obtain ⟨l,e,k,_⟩:=val j u h
  rw[k.v];exact w.sv j l e
 .obtain ⟨l,e,k,c⟩:=val j u h
  have ok:=w.okS j l e
  refine #[by rw[k.d,k.v,k.L];exact ok.rep,λhf=>?_,λc A=>.inr (ok.src c (by rw[<- k.L];exact A))]
  obtain ⟨m,a,L',v1,v2,t,_⟩:=ok.own (λq=>hf (k.z.mpr q))
  refine #[by rw[k.d];exact m,a,L',by rw[k.v];exact v1,by rw[k.L];exact v2,t,λhu=>?_]
  rcases c with ⟨_,rfl⟩ | ⟨I,rfl⟩
  .exact absurd hu (tW _)
  .exact .inr #[j,u,I,e,hu,v1]
 .obtain ⟨l,h0,rfl⟩:=Fy.mp hu
  have ok:=w.okT l h0
  refine #[ok.rep,λhf=>?_,λc A=>.inr (ok.src c A)]
  obtain ⟨m,a,L',v1,v2,t,_⟩:=ok.own (λq=>hf (lentF_z.mpr q))
  exact #[m,a,L',v1,v2,t,λhu=>absurd hu (tW _)]
 .obtain ⟨B,e1,C,_⟩:=val i a F
  obtain ⟨r,s,k2,_⟩:=val j b p
  exact C.noRoot k2 (w.ss i j B r n e1 s)
 .obtain ⟨B,e1,C,_⟩:=val j a h
  obtain ⟨r,h0,rfl⟩:=Fy.mp p
  exact C.apart (lf r) (w.st j B e1 r h0)
 .rw[List.pairwise_map]
  exact w.tt.imp λ{a b} h=>(lf a).apart (lf b) h
 .obtain ⟨l,h0,rfl⟩:=Fy.mp hu
  exact w.fx.frT l h0 (λq=>hf (lentF_z.mpr q)) a x
 .obtain ⟨l,e,k,_⟩:=val j u h
  exact w.fx.frS j l e E (λq=>hf (k.z.mpr q)) a (by rw[<- k.v];exact x)
 .obtain ⟨j,y,_,e,hf,D⟩:=p
  obtain ⟨_,a,L',v1,v2,_⟩:=(w.okS j y e).own (by rw[hf];intro q;cases q)
  rw[D] at v1;cases v1
  exact ((w.okS j y e).rep.inH b (by rw[v2];exact Fe)).ex
 .obtain ⟨l,e,k,c⟩:=val j u h
  show (if j∈is then (g j).map (·.v) else G.lv j)=_
  rcases c with ⟨q,rfl⟩ | ⟨q,rfl⟩
  .rw[if_pos q,e];rfl
  .rw[if_neg q];exact w.fx.lvS j u e J
theorem Wf.leave (w:Wf K G H Y Z T g) (N:∀ i∈is,∀ y,g i=some y->y.f=.u) (Q:T'.Sublist T) (p:Wf K (eC G H g is) H' Y' Z2 (R++T'.map bm) g2) :
  Wf K G H' Y' (aK gp is Z2) (R++T') (λj=>if j∈is then (g2 j).map zF else g2 j):=by
 have val:∀ j u,(if j∈is then (g2 j).map zF else g2 j)=some u->∃ r,g2 j=some r/\Fk r u/\((j∈is/\u=zF r)\/(j ∉ is/\u=r)):=λj u h=>by
  by_cases q:j∈is
  .rw[if_pos q] at h
   obtain ⟨r,e1,E⟩:=Fh.mp h
   subst E
   exact #[r,e1,EN r,.inl #[q,rfl]]
  .rw[if_neg q] at h
   exact #[u,h,Fk.refl u,.inr #[q,rfl]]
 have may:∀ a,H a=none\/(∃ j y,j ∉ is/\g j=some y/\y.f=.u/\y.v=.ref a)->G.H0 a=none\/G.bw a:=λa h=>by
  rcases h with h | ⟨j,y,_,e,hf,V⟩
  .exact .inl (w.h0none h)
  .obtain ⟨_,σ,L',v1,_,_,v4⟩:=(w.okS j y e).own (by rw[hf];intro q;cases q)
   rw[V] at v1;cases v1
   exact v4 hf
 have t:∀ c,H c=none\/(G.H0 c=none\/G.src c)->G.H0 c=none\/G.src c:=λc h=>by
  rcases h with h | h
  .exact .inl (w.h0none h)
  .exact h
 have P:∀ x∈T',x∈T:=λx W=>Q.subset W
 have J:∀ b o,H b=some o->∃ o',H' b=some o':=λb o s=>by
  by_cases q:∃ j y,j ∉ is/\g j=some y/\y.f=.u/\y.v=.ref b
  .exact p.fx.bin b q
  .exact #[o,p.base b o s q]
 refine #[by rw[i7];exact p.len,λj=>?_,λj u h=>?_,λj u h=>?_,λu hu=>?_,λi j a b n I s=>?_,λj a h b s=>?_,?_,λb o e n=>?_,p.pro,#[λu hu=>?_,λj u h ρ hf a X=>?_,λb s=>?_,p.fx.ob,λj u h B=>?_]]
 .rw[gw (by intro f;cases f <;> rfl)]
  by_cases q:j∈is
  .rw[if_pos q,if_pos q];exact pZ (p.sl j)
  .rw[if_neg q,if_neg q];exact p.sl j
 .obtain ⟨r,e,k,_⟩:=val j u h
  rw[k.v];exact p.sv j r e
 .obtain ⟨r,e,k,c⟩:=val j u h
  have ok:=p.okS j r e
  refine #[by rw[k.d,k.v,k.L];exact ok.rep,λhf=>?_,λc M=>t c (ok.src c (by rw[<- k.L];exact M))]
  obtain ⟨m,a,L',v1,v2,F,v4⟩:=ok.own (λq=>hf (k.z.mpr q))
  refine #[by rw[k.d];exact m,a,L',by rw[k.v];exact v1,by rw[k.L];exact v2,F,λhu=>?_]
  rcases c with ⟨q,rfl⟩ | ⟨nj,rfl⟩
  .cases A:r.f with
   | u=>exact may a (v4 A)
   | l =>
    have B:=p.fx.lvS j r e A
    have B:(if j∈is then (g j).map (·.v) else G.lv j)=some r.v:=B
    rw[if_pos q] at B
    obtain ⟨y,O,ev⟩:=Fh.mp B
    have S:=N j q y O
    obtain ⟨_,σ,ar,b1,_,_,τ⟩:=(w.okS j y O).own (by rw[S];intro q;cases q)
    rw[ev,v1] at b1;cases b1
    exact τ S
   | z=>exact absurd (unlF_z.mpr A) hf
  .exact may a (v4 hu)
 .rcases Fq.mp hu with hu | hu
  .have ok:=p.okT u (Fi _ hu)
   refine #[ok.rep,λhf=>?_,λc M=>t c (ok.src c M)]
   obtain ⟨m,a,L',v1,v2,F,v4⟩:=ok.own hf
   exact #[m,a,L',v1,v2,F,λh=>may a (v4 h)]
  .have ok:=w.okT u (P u hu)
   exact #[(p.okT (bm u) (Fj _ (Fy.mpr #[u,hu,rfl]))).rep,ok.own,ok.src]
 .obtain ⟨C,e1,D,_⟩:=val i a I
  obtain ⟨b0,E,k2,_⟩:=val j b s
  exact D.noRoot k2 (p.ss i j C b0 n e1 E)
 .obtain ⟨C,e1,D,_⟩:=val j a h
  rcases Fq.mp s with s | s
  .exact D.apart (Fk.refl b) (p.st j C e1 b (Fi _ s))
  .have:=p.st j C e1 (bm b) (Fj _ (Fy.mpr #[b,s,rfl]))
   exact D.apart (y:=bm b) #[rfl,rfl,rfl,lentF_z.symm] this
 .have h:=List.pairwise_append.mp p.tt
  refine List.pairwise_append.mpr #[h.1,w.tt.sublist Q,λa I b s=>?_]
  exact (Fk.refl a).apart (y:=bm b) #[rfl,rfl,rfl,lentF_z.symm] (h.2.2 a I (bm b) (Fy.mpr #[b,s,rfl]))
 .have s:=w.base b o e n
  refine p.base b o s λq=>?_
  rcases may b (.inr q) with h | h
  .rw[e] at h;cases h
  .exact n h
 .rcases Fq.mp hu with hu | hu
  .exact p.fx.frT u (Fi _ hu)
  .exact w.fx.frT u (P u hu)
 .obtain ⟨r,e,k,_⟩:=val j u h
  exact p.fx.frS j r e ρ (λq=>hf (k.z.mpr q)) a (by rw[<- k.v];exact X)
 .obtain ⟨o,ho⟩:=w.fx.bin b s
  exact J b o ho
 .obtain ⟨r,e,k,c⟩:=val j u h
  rcases c with ⟨q,rfl⟩ | ⟨q,rfl⟩
  .exact absurd B (CB _)
  .have:=p.fx.lvS j u e B
   have this:(if j∈is then (g j).map (·.v) else G.lv j)=some u.v:=this
   rw[if_neg q] at this
   exact this
theorem By (w:Wf K G H Y Z T g) (b:∀ i∈is,∀ y,g i=some y->y.f=.u):∀ (H':Hp) (Y':St) (Z2:Sto) (a:List It3) (g2:Nat->Option It3),Wf K (eC G H g is) H' Y' Z2 a g2->∃ g3,Wf K G H' Y' (aK gp is Z2) [] g3 :=
 λH' Y' Z2 a g2 c=>#[_,by simpa using Wf.leave (T':=[]) (R:=[]) w b (List.nil_sublist T) (by simpa using c.sub (List.nil_sublist a))]
end
section
variable {K:FG} {G G0:Gm} {W W0:D->Sto->Prop} {H H':Hp} {Y:St} {Z Z':Sto} {T T':List It3} {g:Nat->Option It3} {x y z:It3} {α β:Type}
def Walk (K:FG) (J:It) (H1:Hp) (ys:List It3) (ds:List D):Prop:=∃ els:List It3,(∀ x∈els,x.f=.z/\Rep K H1 x.d x.v x.L/\∀ c∈x.L,dR ys c) /\
 ∀ (M:Addr->Prop) (H':Hp),(∀ b,M b->MutAt H1 b)->(∀ b o,H1 b=some o->¬ M b->H' b=some o)->(∀ y∈ys,∀ b∈y.L,¬ M b) ->
  (∀ (i:Nat) (d:D),ds[i]?=some d->J.go i H'/\∀ x a,J.yld i H' x a->∃ w,New K H' a (dS els) w/\w.d=d/\w.f=.z/\w.v=x)/\J.stop ds.length H'
abbrev IM:=M3 (List R3×List D)
def EndI (K:FG) (G:Gm) (W:D->Sto->Prop) (Y:St) (T:List It3) (Z':Sto) (R:It->Hp->Prop):Except D (List R3×List D)->Prop
 | .ok p=>∀ J H1 a Ts g1 ys,Wf K G H1 Y Z' (Ts++T) g1->Ars Y p.1 a Ts->(∀ y∈ys,(∃ i,i∈pls p.1/\g1 i=some y)\/y∈Ts)->Walk K J H1 ys p.2->R J H1
 | .error e=>W e Z'
def tI (K:FG) (G0:Gm) (W0:D->Sto->Prop) (m:IM):TI:=λY H R=>∃ G W,Le K G W G0 W0/\∃ Z T g r Z',Wf K G H Y Z T g/\m Z=some (r,Z')/\EndI K G W Y T Z' R r
theorem tI.seq (le:Le K G W G0 W0) (w:Wf K G H Y Z T g) (e:ac m k Z=some (r,Z')) (he:∀ x,r=.error x->W x Z') (h:∀ p Z1,k p Z1=some (r,Z')->EndI K G W Y T Z1 P (.ok p)):tI K G0 W0 m Y H P:=by
 unfold ac at e
 cases q:m Z with
 | none=>rw[q] at e;exact nsE e
 | some p =>
  obtain ⟨o,Z1⟩:=p
  rw[q] at e
  cases o with
  | error x=>cases e;exact #[G,W,le,Z,T,g,.error x,Z',w,q,he x rfl]
  | ok ra=>exact #[G,W,le,Z,T,g,.ok ra,Z1,w,q,h ra Z1 e]
def Bnd (K:FG) (pr:Nat->Bool) (tg:TG) (bnd:D->Sto->Option Sto):Prop:=∀ (G:Gm) (H:Hp) (Y:St) (Z Z1:Sto) (T:List It3) (g:Nat->Option It3) (w:It3) (Q:St->Hp->Prop),G.pr=pr->w.f=.z->Wf K G H Y Z (w::T) g->bnd w.d Z=some Z1 ->
 (∀ Y2 g2,Wf K G H Y2 Z1 T g2->Q Y2 H)->tg w.v Y H Q
def am (i:Nat) (d:D) (Z:Sto):Option Sto:=if i < Z.length then some (Z.set i #v[d]) else none
theorem jL {i:Nat} (b:pr i=false):Bnd K pr (ua i) (am i):=λG H Y Z Z1 T g w Q a hz wf e q=>by
 unfold am at e
 split at e
 .rename_i hi
  cases e
  exact q _ _ (wf.store (f:=.z) hi (by rw[a];exact b) (.inr rfl) (by intro h;cases h))
 .exact nsE e
def zC (K:FG) (pr:Nat->Bool) (tg:TGs) (bnd:List D->Sto->Option Sto):Prop:=∀ (G:Gm) (H:Hp) (Y:St) (Z Z1:Sto) (T:List It3) (g:Nat->Option It3) (ws:List It3) (Q:St->Hp->Prop),G.pr=pr->(∀ w∈ws,w.f=.z)->Wf K G H Y Z (ws++T) g->bnd (ws.map (·.d)) Z=some Z1 ->
 (∀ Y2 g2,Wf K G H Y2 Z1 T g2->Q Y2 H)->tg (ws.map (·.v)) Y H Q
def qM:List D->Sto->Option Sto
 | [],Z=>some Z
 | _,_=>none
def eS (b:D->Sto->Option Sto) (bs:List D->Sto->Option Sto):List D->Sto->Option Sto
 | [],_=>none
 | d::ds,Z=>match b d Z with
  | some Z1=>bs ds Z1
  | none=>none
theorem qI:zC K pr gNil qM:=λG H Y Z Z1 T g ws Q _ _ wf e q=>by
 cases ws with
 | nil=>cases e;exact #[rfl,q _ _ wf]
 | cons w ws=>exact nsE e
theorem ki (h1:Bnd K pr tg b) (h2:zC K pr tgs bs):zC K pr (Cq tg tgs) (eS b bs):=λG H Y Z Z1 T g ws Q a hz wf e q=>by
 cases ws with
 | nil=>exact nsE e
 | cons w ws =>
  have e:(match b w.d Z with | some Z1=>bs (ws.map (·.d)) Z1 | none=>none)=some Z1:=e
  cases c:b w.d Z with
  | none=>rw[c] at e;exact nsE e
  | some Z2 =>
   rw[c] at e
   exact #[w.v,ws.map (·.v),rfl,h1 G H Y Z Z2 (ws++T) g w _ a (hz w Fe) wf c λY2 g2 f=>h2 G H Y2 Z2 Z1 T g2 ws Q a (λx h=>hz x (Ff _ h)) f e q]
def qL (n:Nat) (bs:List D->Sto->Option Sto):D->Sto->Option Sto
 | .tup ds,Z=>if ds.length=n then bs ds Z else none
 | _,_=>none
theorem Reps.split:∀ {ds:List D} {b:List V} {L:List Addr},Reps (Rep K H) ds b L->∃ ws:List It3,ws.map (·.d)=ds/\ws.map (·.v)=b/\(∀ w∈ws,w.f=.z/\Rep K H w.d w.v w.L/\∀ c∈w.L,c∈L)
 | _,_,_,.nil=>#[[],rfl,rfl,λ_ h=>(by cases h)]
 | _,_,_,.cons (d:=d) (v:=v) (L:=L) r rs=>by
  obtain ⟨ws,h1,h2,h3⟩:=Reps.split rs
  refine #[#[d,v,L,.z]::ws,by simp[h1],by simp[h2],λw hw=>?_]
  rcases Fm.mp hw with h | h
  .subst h;exact #[rfl,r,λc a=>Fi _ a]
  .exact #[(h3 w h).1,(h3 w h).2.1,λc a=>Fj _ ((h3 w h).2.2 c a)]
theorem Wf.pushAll:∀ {ws:List It3} {T:List It3},Wf K G H Y Z T g->(∀ w∈ws,w.f=.z/\Rep K H w.d w.v w.L/\∀ c∈w.L,d7 T g c/\(G.H0 c=none\/G.src c))->Wf K G H Y Z (ws++T) g
 | [],T,w,_=>w
 | x::ws,T,w,h=>by
  have e:=Wf.pushAll (ws:=ws) w λy a=>h y (Ff _ a)
  obtain ⟨hz,i,b⟩:=h x Fe
  refine e.push (Ks:=λc=>c∈x.L) #[Same.refl _,i,λc h=>.inr h,λq=>absurd hz q] λc m=>#[#[(b c m).1.1,λy a hf=>?_],(b c m).2]
  rcases Fq.mp a with q | q
  .exact absurd (h y (Ff _ q)).1 hf
  .exact (b c m).1.2 y q hf
theorem uq {n:Nat} (h2:zC K pr tgs bs):Bnd K pr (gTup K n tgs) (qL n bs):=λG H Y Z Z1 T g w Q j hz wf e q=>by
 have r:=(wf.okT w Fe).rep
 obtain ⟨d,v,L,f⟩:=w
 cases r with
 | @tup xs a vs _ hs rs =>
  have e:(if xs.length=n then bs xs Z else none)=some Z1:=e
  split at e
  .rename_i o
   obtain ⟨ws,h1,h3,h⟩:=Reps.split rs
   refine #[a,vs,rfl,SqT.of hs,?_,?_]
   .rw[<- h3,Ft,<- o,<- h1,Ft]
   .have l:Wf K G H Y Z (ws++(#[.tup xs,.ref a,L,f]::T)) g:=wf.pushAll λu hu=>#[(h u hu).1,(h u hu).2.1,λc k=>#[wf.kid (y:=#[.tup xs,.ref a,L,f]) (.inr Fe) ((h u hu).2.2 c k) λhf=>absurd hz hf,(wf.okT _ Fe).src c ((h u hu).2.2 c k)]]
    have m:Wf K G H Y Z (ws++T) g:=l.sub ((List.Sublist.refl ws).append (List.sublist_cons_self _ _))
    rw[<- h3]
    exact h2 G H Y Z Z1 T g ws Q j (λu hu=>(h u hu).1) m (by rw[h1];exact e) q
  .exact nsE e
 | non=>exact nsE e
 | bl b=>exact nsE e
 | int i=>exact nsE e
 | str s=>exact nsE e
 | lst _ _=>exact nsE e
 | lstF _ _=>exact nsE e
 | dK _ _ _=>exact nsE e
 | dT _ _ _=>exact nsE e
 | exc _ _=>exact nsE e
 | excV _ _ _ _ _ _ _ _=>exact nsE e
noncomputable def dJ (bnd:D->Sto->Option Sto) (b:SM):List D->SM
 | []=>aT .nx
 | d::ds=>λZ=>match bnd d Z with
  | none=>none
  | some Z1=>ac b (λf=>match f with
   | .nx=>dJ bnd b ds
   | .ct=>dJ bnd b ds
   | .br=>aT .nx
   | .rt d f=>aT (.rt d f)) Z1
noncomputable def cy (im:IM) (bnd:D->Sto->Option Sto) (b:SM):SM:=ac im λp=>λZ=>(dJ bnd b p.2 (aK cX (us Z (pls p.1)) Z)).map λr=>(r.1,aK gp (us Z (pls p.1)) r.2)
theorem us_u (w:Wf K G H Y Z T g):∀ i∈us Z is,∀ y,g i=some y->y.f=.u:=λi hi y a=>by
 have h:=(FV.mp hi).2
 have s:=w.sl i
 rw[a] at s
 have s:some (y.d,y.f)=(Z[i]?).join:=s
 rw[<- s] at h
 cases hf:y.f with
 | u=>rfl
 | l=>rw[hf] at h;cases h
 | z=>rw[hf] at h;cases h
theorem wl {i:Nat} (w:Wf K G H Y Z T g) (hi:i∈is) (a:g i=some y) (hf:y.f=.u):i∈us Z is:=by
 refine FV.mpr #[hi,?_]
 have s:=w.sl i
 rw[a] at s
 have s:some (y.d,y.f)=(Z[i]?).join:=s
 rw[<- s,hf]
theorem CO (V:Bnd K G0.pr tg bnd) (h:tS K G0 W0 (cy im bnd b) E Y H):tFor (tI K G0 W0 im) tg (tS K G0 W0 b) E Y H:=by
 refine h.use λG W le Z T g r Z' w e q=>?_
 refine tI.seq le w e q.err λp Z1 e1=>?_
 intro J H1 vs Ts g1 ys A a1 a0 hw
 have O:=us_u (is:=pls p.1) A
 have az:∀ i y,i∈pls p.1->g1 i=some y->y.f=.u->i∈us Z1 (pls p.1):=λi y hi ey hf=>wl A hi ey hf
 generalize us Z1 (pls p.1)=is at e1 O az
 have w2:=A.enter is
 obtain ⟨els,n,walk⟩:=hw
 have hM:∀ b,(∃ j y,j ∉ is/\g1 j=some y/\y.f=.u/\y.v=.ref b)->MutAt H1 b:=λb #[j,y,_,ey,hf,D]=>by
  obtain ⟨_,a,L',v1,v2,_⟩:=(A.okS j y ey).own (by rw[hf];intro q;cases q)
  rw[D] at v1;cases v1
  exact (A.okS j y ey).rep.inH b (by rw[v2];exact Fe)
 have ρ:∀ y∈ys,∀ b∈y.L,¬ ∃ j y,j ∉ is/\g1 j=some y/\y.f=.u/\y.v=.ref b:=λy t b V #[j,y',nj,B,hf,D]=>by
  have ar:y'.f≠.z:=by rw[hf];intro q;cases q
  rcases a0 y t with ⟨i,hi,ei⟩ | t
  .by_cases ij:i=j
   .subst ij
    rw[ei] at B;cases B
    exact nj (az i y hi ei hf)
   .exact A.ss j i y' y (Ne.symm ij) B ei ar b D V
  .exact (A.st j y' B y (Fi _ t)).1 ar b D V
 have a3:∀ y∈ys,Itm (Ts++T) g1 y:=λy t=>by
  rcases a0 y t with ⟨i,_,ei⟩ | h
  .exact .inl #[i,ei]
  .exact .inr (Fi _ h)
 have kid:∀ x∈els,∀ c∈x.L,d7 ((Ts++T).map bm) (λj=>if j∈is then (g1 j).map bm else g1 j) c/\(H1 c=none\/(G.H0 c=none\/G.src c)):=λx σ c hc=>by
  obtain ⟨nr,sr⟩:=A.kids a3 ((n x σ).2.2 c hc)
  refine #[#[λi z τ hf D=>?_,λz hz hf D=>?_],.inr sr]
  .have τ:(if i∈is then (g1 i).map bm else g1 i)=some z:=τ
   by_cases q:i∈is
   .rw[if_pos q] at τ
    obtain ⟨z0,e0,e1⟩:=Fh.mp τ
    subst e1
    exact nr.1 i z0 e0 (λq=>hf (lentF_z.mpr q)) D
   .rw[if_neg q] at τ
    exact nr.1 i z τ hf D
  .obtain ⟨z0,h0,rfl⟩:=Fy.mp hz
   exact nr.2 z0 h0 (λq=>hf (lentF_z.mpr q)) D
 have w3:Wf K (eC G H1 g1 is) H1 Y (aK cX is Z1) (els++(Ts++T).map bm) (λj=>if j∈is then (g1 j).map bm else g1 j):=w2.pushAll λx σ=>#[(n x σ).1,(n x σ).2.1,λc hc=>kid x σ c hc]
 cases e2:dJ bnd b p.2 (aK cX is Z1) with
 | none=>rw[e2] at e1;exact nsE e1
 | some rr =>
  obtain ⟨r2,Z3⟩:=rr
  rw[e2] at e1
  have er:r2=r/\aK gp is Z3=Z':=by cases e1;exact #[rfl,rfl]
  obtain ⟨rfl,eρ⟩:=er
  have leave:∀ {Y':St} {H':Hp} {Z2:Sto} {g2:Nat->Option It3} {R:List It3},Wf K (eC G H1 g1 is) H' Y' Z2 (R++(els++(Ts++T).map bm)) g2->∃ g3,Wf K G H' Y' (aK gp is Z2) (R++T) g3:=λ{Y' H' Z2 g2 R} F =>
   ⟨_,Wf.leave (T:=Ts++T) (T':=T) (R:=R) A O (Fw Ts T) (F.sub ((List.Sublist.refl R).append (by
    rw[List.map_append]
    exact (Fw (Ts.map bm) (T.map bm)).trans (Fw els _))))⟩
  have bb:Le K (eC G H1 g1 is) (λe Z2=>W e (aK gp is Z2)) G W:=⟨rfl,λH' Y' Z2 T2 g2 e F he=>by
   obtain ⟨g3,w5⟩:=By A O H' Y' Z2 T2 g2 F
   exact ⟨_,[],g3,w5,he⟩⟩
  have s:Le K (eC G H1 g1 is) (λe Z2=>W e (aK gp is Z2)) G0 W0:=bb.trans le
  refine #[λk m Y' H'=>k<=p.2.length/\m=p.2.length - k/\∃ Z2 g2,Wf K (eC G H1 g1 is) H' Y' Z2 (els++(Ts++T).map bm) g2/\dJ bnd b (p.2.drop k) Z2=some (r2,Z3),#[_,Nat.zero_le _,rfl,_,_,w3,e2],?_]
  rintro k m Y' H' ⟨hk,rfl,Z2,g2,F,e4⟩
  obtain ⟨be,M⟩:=walk _ H' hM (λb o V hn=>F.base b o V hn) ρ
  by_cases C:k < p.2.length
  .obtain ⟨d,hd⟩:∃ d,p.2[k]?=some d:=#[_,Fo C]
   have Q:p.2.drop k=d::p.2.drop (k+1):=by
    rw[List.drop_eq_getElem_cons C]
    rw[Fo C] at hd
    cases hd;rfl
   rw[Q] at e4
   obtain ⟨go,yld⟩:=be k d hd
   refine .inr #[go,λY5 H5=>∃ Z5 g5,Wf K (eC G H1 g1 is) H5 Y5 Z5 (els++(Ts++T).map bm) g5/\dJ bnd b (p.2.drop (k+1)) Z5=some (r2,Z3),λY5 H5 #[Z5,g5,w5,l]=>#[p.2.length - (k+1),by lia,C,rfl,Z5,g5,w5,l],λx P t=>?_]
   obtain ⟨u,nu,ud,uf,uv⟩:=yld x P t
   have w5:Wf K (eC G H1 g1 is) P Y' Z2 (u::(els++(Ts++T).map bm)) g2:=F.push nu λc hc=>F.alls (ys:=els) (λy t=>#[.inr (Fi _ t),(n y t).1]) hc
   have l:(match bnd d Z2 with
    | none=>none
    | some Z1=>ac b (λf=>match f with
     | .nx=>dJ bnd b (p.2.drop (k+1))
     | .ct=>dJ bnd b (p.2.drop (k+1))
     | .br=>aT .nx
     | .rt d f=>aT (.rt d f)) Z1)=some (r2,Z3):=e4
   cases e6:bnd d Z2 with
   | none=>rw[e6] at l;exact nsE l
   | some Z6 =>
    rw[e6] at l
    dsimp only at l
    rw[<- uv]
    refine V (eC G H1 g1 is) P Y' Z2 Z6 _ g2 u _ le.pr uf w5 (by rw[ud];exact e6) λY6 g6 w6=>?_
    unfold ac at l
    cases N:b Z6 with
    | none=>rw[N] at l;exact nsE l
    | some pr7 =>
     obtain ⟨o7,Z7⟩:=pr7
     rw[N] at l
     cases o7 with
     | error er =>
      cases l
      refine tS.mk (r:=.error er) s w6 N ?_
      show W er (aK gp is _)
      rw[eρ];exact q
     | ok f =>
      cases f with
      | nx=>exact tS.mk (r:=.ok .nx) s w6 N λY8 H8 X S=>#[Z7,X,S,l]
      | ct=>exact tS.mk (r:=.ok .ct) s w6 N λY8 H8 X S=>#[Z7,X,S,l]
      | br =>
       cases l
       refine tS.mk (r:=.ok .br) s w6 N λY8 H8 X S=>?_
       obtain ⟨g9,I⟩:=leave (R:=[]) S
       rw[eρ] at I
       exact q _ _ _ I
      | rt d' f' =>
       cases l
       refine tS.mk (r:=.ok (.rt d' f')) s w6 N λx8 Y8 H8 X S x1 x2=>?_
       obtain ⟨g9,I⟩:=leave (R:=[x8]) S
       rw[eρ] at I
       exact q x8 _ _ _ I x1 x2
  .have ek:k=p.2.length:=by lia
   subst ek
   rw[List.drop_length] at e4
   cases e4
   obtain ⟨g9,I⟩:=leave (R:=[]) F
   rw[eρ] at I
   exact .inl #[M,q _ _ _ I]
end
def si (ix:List (Option Nat)) (Z:Sto):Sto:=ix.map λo=>match o with
 | some i=>(Z[i]?).join
 | none=>none
def uncap:List (Option Nat)->Sto->Sto->Option Sto
 | [],_,Z=>some Z
 | none::ix,U,Z=>uncap ix U.tail Z
 | some i::ix,U,Z=>match (Z[i]?).join,U.head? with
  | some (_,f),some (some (d',f'))=>if f'=f\/f'=.z then uncap ix U.tail (Z.set i (some (d',f'))) else none
  | _,_=>none
noncomputable def bC (bnd:D->Sto->Option Sto) (c:M3 Bool) (elt:EM):List D->M3 (List D)
 | []=>aT []
 | d::ds=>λU=>match bnd d U with
  | none=>none
  | some U1=>ac c (λb=>if b then ac elt (λr=>ac (fh r) λp=>ac (bC bnd c elt ds) λl=>aT (p.1::l)) else bC bnd c elt ds) U1
def bt (im:IM) (bnd:D->Sto->Option Sto) (c:M3 Bool) (elt:EM) (ix:List (Option Nat)):EM:=ac im λp=>λZ =>
 match bC bnd c elt p.2 (si ix (aK cX (us Z (pls p.1)) Z)) with
 | some (.ok ds,U)=>if p.2.length < 16777216 then (uncap ix U (aK cX (us Z (pls p.1)) Z)).map λZ2=>(.ok (.val (.lst ds) .u),aK gp (us Z (pls p.1)) Z2) else none
 | _=>none
section
variable {K:FG} {G G0:Gm} {W W0:D->Sto->Prop} {H H':Hp} {Y U:St} {Z Z':Sto} {T T':List It3} {g:Nat->Option It3} {x y z:It3} {α β:Type} {ix:List (Option Nat)}
def Inj (ix:List (Option Nat)):Prop:=∀ (j k i:Nat),ix[j]?=some (some i)->ix[k]?=some (some i)->j=k
def BC (ix:List (Option Nat)) (g:Nat->Option It3) (j:Nat):Option It3:=(ix[j]?).join.bind g
def rz (ix:List (Option Nat)) (n:Nat) (g:Nat->Option It3):List It3:=(List.range n).filterMap λi=>if some i∈ix then none else g i
def zd (G:Gm) (ix:List (Option Nat)) (Y:St):Gm:=#[G.H0,G.bw,λj=>((ix[j]?).join).isSome,cap ix Y,λ_=>none,G.src,λj=>(ix[j]?).join.bind G.lv]
theorem d9 {j:Nat} (h:BC ix g j=some x):∃ i,ix[j]?=some (some i)/\g i=some x:=by
 unfold BC at h
 cases e:ix[j]? with
 | none=>rw[e] at h;exact nsE h
 | some o =>
  rw[e] at h
  cases o with
  | none=>exact nsE h
  | some i=>exact #[i,rfl,h]
theorem lV {n:Nat} (h:x∈rz ix n g):∃ i,some i ∉ ix/\g i=some x:=by
 obtain ⟨i,_,e⟩:=List.mem_filterMap.mp h
 split at e
 .exact nsE e
 .rename_i a;exact #[i,a,e]
theorem xO {n i:Nat} (hi:i < n) (a:some i ∉ ix) (e:g i=some x):x∈rz ix n g:=List.mem_filterMap.mpr #[i,List.mem_range.mpr hi,by rw[if_neg a];exact e]
theorem Wf.cap (w:Wf K G H Y Z T g) (m:Inj ix):Wf K (zd G ix Y) H (cap ix Y) (si ix Z) (rz ix Z.length g++T) (BC ix g):=by
 have ne:∀ {i j:Nat},ix[j]?=some (some i)->∀ k,some k ∉ ix->i≠k:=λe k l q=>l (by rw[<- q];exact Fv e)
 refine #[by unfold L2.cap si;rw[Ft,Ft],λj=>?_,λj x h=>?_,λj x h=>?_,λx p=>?_,λj k x y n p r=>?_,λj x h y r=>?_,?_,w.base,λ_ _=>rfl,#[λ_ _ _ _ _=>rfl,λ_ _ _ _ _ _ _=>rfl,w.fx.bin,λb o e=>(by cases e),λj x h z=>?_]]
 .unfold BC si
  rw[Fz]
  cases e:ix[j]? with
  | none=>rfl
  | some o =>
   cases o with
   | none=>rfl
   | some i=>exact w.sl i
 .obtain ⟨i,e1,c⟩:=d9 h
  unfold L2.cap
  rw[Fz,e1]
  show some ((Y[i]?).getD none)=_
  rw[w.sv i x c];rfl
 .obtain ⟨i,_,c⟩:=d9 h
  have ok:=w.okS i x c
  exact #[ok.rep,ok.own,ok.src]
 .rcases Fq.mp p with h | h
  .obtain ⟨i,_,e⟩:=lV h
   have ok:=w.okS i x e
   exact #[ok.rep,ok.own,ok.src]
  .have ok:=w.okT x h
   exact #[ok.rep,ok.own,ok.src]
 .obtain ⟨i,e1,c⟩:=d9 p
  obtain ⟨A,v,u⟩:=d9 r
  exact w.ss i A x y (λq=>n (m j k i e1 (q ▸ v))) c u
 .obtain ⟨i,e1,c⟩:=d9 h
  rcases Fq.mp r with q | q
  .obtain ⟨k,l,e⟩:=lV q
   have:=ne e1 k l
   exact #[w.ss i k x y this c e,w.ss k i y x (Ne.symm this) e c]
  .exact w.st i x c y q
 .refine List.pairwise_append.mpr #[?_,w.tt,λa t b s=>?_]
  .unfold rz
   rw[List.pairwise_filterMap]
   refine List.pairwise_lt_range.imp λ{i k} lt a t b s=>?_
   have d:(if some i∈ix then none else g i)=some a:=t
   have f:(if some k∈ix then none else g k)=some b:=s
   split at d
   .cases d
   .split at f
    .cases f
    .exact #[w.ss i k a b (FD lt) d f,w.ss k i b a (Nat.ne_of_gt lt) f d]
  .obtain ⟨k,l,e⟩:=lV t
   exact w.st k a e b s
 .obtain ⟨i,e1,c⟩:=d9 h
  show (ix[j]?).join.bind G.lv=_
  rw[e1]
  exact w.fx.lvS i x c z
theorem Wf.perm (w:Wf K G H Y Z T g) (p:T.Perm T'):Wf K G H Y Z T' g :=
 #[w.len,w.sl,w.sv,w.okS,λx a=>w.okT x (p.mem_iff.mpr a),w.ss,λi x e y b=>w.st i x e y (p.mem_iff.mpr b),(p.pairwise_iff λh=>Apart3.symm h).mp w.tt,w.base,w.pro,w.fx.sub λx a=>p.mem_iff.mpr a]
theorem iY:∀ {ix:List (Option Nat)} {U Z Z2:Sto},uncap ix U Z=some Z2->Inj ix->Z2.length=Z.length/\(∀ i,some i ∉ ix->(Z2[i]?).join=(Z[i]?).join) /\
  ∀ (j i:Nat),ix[j]?=some (some i)->∃ p q,(Z[i]?).join=some p/\(U[j]?).join=some q/\(Z2[i]?).join=some q/\(q.2=p.2\/q.2=.z)
 | [],U,Z,Z2,e,_=>by cases e;exact #[rfl,λ_ _=>rfl,λj i h=>by simp at h]
 | none::ix,U,Z,Z2,e,hij=>by
  unfold uncap at e
  obtain ⟨h1,h2,h3⟩:=iY e λj k i a b=>by
   have:=hij (j+1) (k+1) i (by simpa using a) (by simpa using b)
   lia
  refine #[h1,λi hi=>h2 i λq=>hi (Ff _ q),λj i h=>?_]
  cases j with
  | zero=>simp at h
  | succ j =>
   obtain ⟨p,q,a,b,c⟩:=h3 j i (by simpa using h)
   exact #[p,q,a,by rw[List.getElem?_tail] at b;exact b,c]
 | some i0::ix,U,Z,Z2,e,hij=>by
  unfold uncap at e
  cases e1:(Z[i0]?).join with
  | none=>rw[e1] at e;exact nsE e
  | some p =>
   obtain ⟨d,f⟩:=p
   cases l:U.head? with
   | none=>rw[e1,l] at e;exact nsE e
   | some o =>
    cases o with
    | none=>rw[e1,l] at e;exact nsE e
    | some q =>
     obtain ⟨d',u⟩:=q
     rw[e1,l] at e
     dsimp only at e
     split at e
     .rename_i hf
      have g:=fX e1
      have n:some i0 ∉ ix:=λm=>by
       obtain ⟨k,s,t⟩:=List.mem_iff_getElem.mp m
       have:=hij 0 (k+1) i0 rfl (by simp[s,t])
       lia
      obtain ⟨h1,h2,h3⟩:=iY e λj k i a b=>by
       have:=hij (j+1) (k+1) i (by simpa using a) (by simpa using b)
       lia
      refine #[by rw[h1,List.length_set],λi hi=>?_,λj i h=>?_]
      .rw[h2 i λq=>hi (Ff _ q),cO g,if_neg (λq=>hi (by rw[q];exact Fe))]
      .cases j with
       | zero =>
        simp at h
        subst h
        refine #[(d,f),(d',u),e1,?_,?_,hf]
        .rw[List.head?_eq_getElem?] at l;rw[l];rfl
        .rw[h2 i0 n,cO g,if_pos rfl]
       | succ j =>
        have r:ix[j]?=some (some i):=by simpa using h
        obtain ⟨p,q,a,b,c⟩:=h3 j i r
        have ii:i≠i0:=λz=>n (by rw[<- z];exact Fv r)
        rw[cO g,if_neg ii] at a
        exact #[p,q,a,by rw[List.getElem?_tail] at b;exact b,c]
     .exact nsE e
theorem Wf.uncap (w:Wf K G H Y Z T g) (hH:∀ b o,H b=some o->G.H0 b=some o) (Q:Inj ix) (e:L3.uncap ix τρ Z=some Z2) (hR:∀ x∈R,x.f=.z) (r:Wf K (zd G ix Y) H' U' τρ (R++(rz ix Z.length g++T)) gC) :
  ∃ g2,Wf K G H' Y Z2 (R++T) g2:=by
 obtain ⟨I,h2,h3⟩:=iY e Q
 let inv (i:Nat):Option Nat:=(List.range ix.length).find? λj=>decide (ix[j]?=some (some i))
 have A:∀ i j,inv i=some j->ix[j]?=some (some i):=λi j h=>by simpa using List.find?_some h
 have B:∀ i,inv i=none->some i ∉ ix:=λi h m=>by
  obtain ⟨k,σ,ek⟩:=List.mem_iff_getElem.mp m
  have:=List.find?_eq_none.mp h k (List.mem_range.mpr σ)
  simp[σ,ek] at this
 let g2 (i:Nat):Option It3:=match inv i with | some j=>gC j | none=>g i
 have val:∀ i u,g2 i=some u->(∃ j p q,ix[j]?=some (some i)/\gC j=some u/\(Z[i]?).join=some p/\(τρ[j]?).join=some q/\(q.2=p.2\/q.2=.z))\/(some i ∉ ix/\g i=some u):=λi u h=>by
  grind
 have out:∀ i u,some i ∉ ix->g i=some u->u∈rz ix Z.length g:=λi u C e=>by
  have s:=w.sl i
  rw[e] at s
  exact xO (fX s.symm) C e
 have back:∀ i j u,ix[j]?=some (some i)->gC j=some u->Y[i]?=some (some u.v):=λi j u t l=>by
  have a:=r.sv j u l
  have b:=r.pro j (by show ((ix[j]?).join).isSome=true;rw[t];rfl)
  rw[a] at b
  have b:some (some u.v)=(L2.cap ix Y)[j]?:=b
  unfold L2.cap at b
  rw[Fz,t] at b
  have b:some (some u.v)=some ((Y[i]?).getD none):=b
  cases q:Y[i]? with
  | none=>rw[q] at b;cases b
  | some o=>rw[q] at b;cases b;rfl
 have N:∀ i j u p q,ix[j]?=some (some i)->gC j=some u->(Z[i]?).join=some p->(τρ[j]?).join=some q->(q.2=p.2\/q.2=.z)->∃ y,g i=some y/\y.v=u.v/\(u.f=y.f\/u.f=.z):=λi j u p q t l ep eq hf=>by
  obtain ⟨y,L,O,M,y4⟩:=w.slot (d:=p.1) (f:=p.2) ep
  have b:=back i j u t l
  rw[y4] at b
  have s:=r.sl j
  rw[l,eq] at s
  have s:some (u.d,u.f)=some q:=s
  refine #[y,L,by injection b with b;injection b,?_]
  rw[M,show u.f=q.2 by injection s with s;rw[<- s]]
  exact hf
 refine #[g2,#[by rw[I];exact w.len,λi=>?_,λi u h=>?_,λi u h=>?_,λu hu=>?_,λi k a b n ha E=>?_,λi a h b E=>?_,r.tt.sublist ((List.Sublist.refl R).append (Fw _ T)),r.base,w.pro,#[λu hu hf=>?_,λi u h X hf a W=>?_,r.fx.bin,λb o E=>?_,λi u h I=>?_]]]
 .show (match inv i with | some j=>gC j | none=>g i).map _=_
  cases ρ:inv i with
  | none=>rw[h2 i (B i ρ)];exact w.sl i
  | some j =>
   obtain ⟨p,q,a,b,c,_⟩:=h3 j i (A i j ρ)
   rw[c,<- b];exact r.sl j
 .rcases val i u h with ⟨j,p,q,t,l,_⟩ | ⟨C,e⟩
  .exact back i j u t l
  .exact w.sv i u e
 .rcases val i u h with ⟨j,p,q,t,l,_⟩ | ⟨C,e⟩
  .have ok:=r.okS j u l
   exact #[ok.rep,ok.own,ok.src]
  .have ok:=r.okT u (Fj _ (Fi _ (out i u C e)))
   exact #[ok.rep,ok.own,ok.src]
 .have ok:=r.okT u (by
   rcases Fq.mp hu with q | q
   .exact Fi _ q
   .exact Fj _ (Fj _ q))
  exact #[ok.rep,ok.own,ok.src]
 .rcases val i a ha with ⟨j,p,q,t,l,_⟩ | ⟨C,e⟩
  .rcases val k b E with ⟨P,p',q',D,F,_⟩ | ⟨J,τ⟩
   .exact r.ss j P a b (λz=>n (by subst z;rw[t] at D;injection D with z;injection z)) l F
   .exact (r.st j a l b (Fj _ (Fi _ (out k b J τ)))).1
  .rcases val k b E with ⟨P,p',q',D,F,_⟩ | ⟨J,τ⟩
   .exact (r.st P b F a (Fj _ (Fi _ (out i a C e)))).2
   .exact w.ss i k a b n e τ
 .have S:b∈R++(rz ix Z.length g++T):=by
   rcases Fq.mp E with q | q
   .exact Fi _ q
   .exact Fj _ (Fj _ q)
  rcases val i a h with ⟨j,p,q,t,l,_⟩ | ⟨C,e⟩
  .exact r.st j a l b S
  .rcases Fq.mp E with q | q
   .exact ((List.pairwise_append.mp r.tt).2.2 b q a (Fi _ (out i a C e))).symm
   .exact w.st i a e b q
 .rcases Fq.mp hu with q | q
  .exact absurd (hR u q) hf
  .exact w.fx.frT u q hf
 .rcases val i u h with ⟨j,p,q,t,l,ep,eq,V⟩ | ⟨C,e⟩
  .obtain ⟨y,L,O,M⟩:=N i j u p q t l ep eq V
   refine w.fx.frS i y L X (λz=>hf ?_) a (by rw[O];exact W)
   rcases M with h | h
   .rw[h];exact z
   .exact h
  .exact w.fx.frS i u e X hf a W
 .obtain ⟨o',ho⟩:=w.fx.ob b o E
  have h0:=hH b o' ho
  by_cases q:G.bw b
  .exact r.fx.bin b q
  .exact #[o',r.base b o' h0 q]
 .rcases val i u h with ⟨j,p,q,t,l,ep,eq,V⟩ | ⟨C,e⟩
  .obtain ⟨y,L,O,M⟩:=N i j u p q t l ep eq V
   rw[<- O]
   refine w.fx.lvS i y L ?_
   rcases M with h | h
   .rw[<- h];exact I
   .rw[h] at I;cases I
  .exact w.fx.lvS i u e I
theorem vJ {J:It} {H1:Hp} {ys els:List It3} {ds:List D} {bnd:D->Sto->Option Sto} {c:M3 Bool} {elt:EM} {tg:TG} {tc:TT} {te:TE} {Gc:Gm} {a:List It3} {g:List D} {τρ τρ':Sto} {gC:Nat->Option It3} {ρ:List V->Hp->Prop} {M:Addr->Prop}
  (hz:(16777216:Nat)=sizeLine) (G:∀ x∈els,x∈a/\x.f=.z)
  (P:∀ H',(∀ b o,H1 b=some o->¬ Gc.bw b->H' b=some o)->(∀ (i:Nat) (d:D),ds[i]?=some d->J.go i H'/\∀ x j,J.yld i H' x j->∃ w,New K H' j (dS els) w/\w.d=d/\w.f=.z/\w.v=x)/\J.stop ds.length H')
  (h0:Gc.H0=H1) (hb:Bnd K Gc.pr tg bnd) (ar:∀ Y H Q,tT K Gc (λ_ _=>False) c Y H Q->tc Y H Q) (τ:∀ Y H Q,tE K Gc (λ_ _=>False) elt Y H Q->te Y H Q)
  (hlen:ds.length < 16777216) (w:Wf K Gc H1 U τρ a gC) (e:bC bnd c elt ds τρ=some (.ok g,τρ'))
  (hZ:∀ (us:List It3) (U':St) (H':Hp) (g':Nat->Option It3),(∀ x∈us,x.f=.z)->us.map (·.d)=g->Wf K Gc H' U' τρ' (us++a) g'->ρ (us.map (·.v)) H'):qP J tg tc te ρ U H1:=by
 refine #[λi m vs U' H'=>i<=ds.length/\m=ds.length - i/\vs.length<=i/\∃ (us:List It3) (Z2:Sto) (g2:Nat->Option It3) (r:List D),(∀ x∈us,x.f=.z)/\us.map (·.v)=vs/\Wf K Gc H' U' Z2 (us++a) g2/\bC bnd c elt (ds.drop i) Z2=some (.ok r,τρ')/\us.map (·.d)++r=g,#[_,Nat.zero_le _,rfl,FA _,[],τρ,gC,g,λ_ h=>(by cases h),rfl,w,e,rfl],?_]
 rintro i m vs U1 H2 ⟨hi,rfl,a3,us,Z2,g2,r,q,t,N,L,k⟩
 refine #[by lia,?_]
 obtain ⟨a0,s⟩:=P H2 λb o S hn=>N.base b o (by rw[h0];exact S) hn
 by_cases n:i < ds.length
 .obtain ⟨d,hd⟩:∃ d,ds[i]?=some d:=#[_,Fo n]
  have A:ds.drop i=d::ds.drop (i+1):=by
   rw[List.drop_eq_getElem_cons n]
   rw[Fo n] at hd
   cases hd;rfl
  rw[A] at L
  obtain ⟨go,yld⟩:=a0 i d hd
  refine .inr ⟨go,λB U5 σ=>B.length<=i+1/\∃ (us:List It3) (Z5:Sto) (X:Nat->Option It3) (r:List D),(∀ x∈us,x.f=.z)/\us.map (·.v)=B/\Wf K Gc σ U5 Z5 (us++a) X/\bC bnd c elt (ds.drop (i+1)) Z5=some (.ok r,τρ')/\us.map (·.d)++r=g,
   λB U5 σ ⟨az,h5⟩=>⟨ds.length - (i+1),by lia,n,rfl,az,h5⟩,λx j F=>?_⟩
  obtain ⟨u,nu,ud,uf,uv⟩:=yld x j F
  have w3:Wf K Gc j U1 Z2 (u::(us++a)) g2:=N.push nu λc hc=>N.alls (ys:=els) (λy F=>#[.inr (Fj _ (G y F).1),(G y F).2]) hc
  have I:(match bnd d Z2 with
   | none=>none
   | some U1=>ac c (λb=>if b then ac elt (λr=>ac (fh r) λp=>ac (bC bnd c elt (ds.drop (i+1))) λl=>aT (p.1::l)) else bC bnd c elt (ds.drop (i+1))) U1)=some (.ok r,τρ'):=L
  cases W:bnd d Z2 with
  | none=>rw[W] at I;exact nsE I
  | some Z3 =>
   rw[W] at I
   dsimp only at I
   rw[<- uv]
   refine hb Gc j U1 Z2 Z3 _ g2 u _ rfl uf w3 (by rw[ud];exact W) λU4 g4 w4=>?_
   refine ar _ _ _ (tT.seq (Le.refl K Gc _) w4 I (λx R=>by cases R) λb Z5 O σ X w5=>?_)
   cases b with
   | false =>
    simp only[FU,if_false] at O ⊢
    exact #[by lia,us,Z5,X,r,q,t,w5,O,k]
   | true =>
    simp only[if_true] at O ⊢
    refine τ _ _ _ (tE.seq (Le.refl K Gc _) w5 O (λx R=>by cases R) λra Z6 e6 v H6 #[Ts,g6,w6,a6]=>?_)
    obtain ⟨p,Z7,g7,C,E,w7,f1,f2,_,f3⟩:=a6.take w6 e6
    have w8:=Wf.lowT (Ts:=[C]) w7
    unfold ac at E
    cases T:bC bnd c elt (ds.drop (i+1)) Z7 with
    | none=>rw[T] at E;exact nsE E
    | some pr =>
     obtain ⟨o,Z8⟩:=pr
     rw[T] at E
     cases o with
     | error x=>cases E
     | ok l =>
      cases E
      refine #[by rw[FN];simp;lia,us++[di C],Z7,g7,l,λy F=>?_,by rw[List.map_append,t,<- f3];rfl,?_,T,?_]
      .rcases Fq.mp F with h | h
       .exact q y h
       .rw[FT.mp h];rfl
      .exact w8.perm (by
        show ([di C]++(us++a)).Perm (us++[di C]++a)
        rw[<- List.append_assoc]
        exact (List.perm_append_comm).append_right a)
      .rw[List.map_append,List.append_assoc]
       show us.map (·.d)++((di C).d::l)=g
       rw[show (di C).d=p.1 from f1]
       exact k
 .have ei:i=ds.length:=by lia
  subst ei
  rw[List.drop_length] at L
  cases L
  rw[List.append_nil] at k
  subst t
  exact .inl #[s,hZ us U1 H2 g2 q k N]
end
section
variable {K:FG} {G G0:Gm} {W W0:D->Sto->Prop} {H H':Hp} {Y U:St} {Z Z':Sto} {T T':List It3} {g:Nat->Option It3} {x y z:It3} {α β:Type} {ix:List (Option Nat)}
def bg (ix:List (Option Nat)):Gm:=#[λ_=>none,λ_=>False,λj=>((ix[j]?).join).isSome,[],λ_=>none,λ_=>False,λ_=>none]
abbrev noX:D->Sto->Prop:=λ_ _=>False
theorem tX (h:G1.pr=(bg ix).pr) (le:Le K G W G1 noX):Le K G W (bg ix) noX:=⟨le.pr.trans h,λH Y Z T g e w q=>by
 obtain ⟨_,_,_,_,f⟩:=le.ex H Y Z T g e w q
 exact f.elim⟩
theorem zR (h:G1.pr=(bg ix).pr) (q:tE K G1 noX m Y H Q):tE K (bg ix) noX m Y H Q:=by
 obtain ⟨G,W,le,r⟩:=q
 exact #[G,W,tX h le,r]
theorem zH (h:G1.pr=(bg ix).pr) (q:tT K G1 noX m Y H Q):tT K (bg ix) noX m Y H Q:=by
 obtain ⟨G,W,le,r⟩:=q
 exact #[G,W,tX h le,r]
def cW:M3 Bool:=aT true
theorem CF (h:tT K G0 W0 cW Y H Q):tYes Y H Q:=by
 refine h.use λG W le Z T g o Z' w e q=>?_
 cases e
 exact q _ _ w
theorem kb:∀ {ds a:List D} {τρ τρ':Sto},bC bnd c elt ds τρ=some (.ok a,τρ')->a.length<=ds.length
 | [],a,τρ,τρ',e=>by cases e;exact FA _
 | d::ds,a,τρ,τρ',e=>by
  unfold bC at e
  split at e
  .exact nsE e
  .rename_i U1 _
   unfold ac at e
   split at e
   .exact nsE e
   .cases e
   .rename_i b U2 _
    cases b with
    | false =>
     simp only[FU,if_false] at e
     have:=kb e
     simp;lia
    | true =>
     simp only[if_true] at e
     split at e
     .exact nsE e
     .cases e
     .split at e
      .exact nsE e
      .cases e
      .split at e
       .exact nsE e
       .cases e
       .rename_i l U5 f
        cases e
        have:=kb f
        simp;lia
theorem qA (hz:(16777216:Nat)=sizeLine) (I:Inj ix) (X:Bnd K (bg ix).pr tg bnd) (le:Le K G W G0 W0) (w:Wf K G H Y Z T g) (e:bt im bnd c elt ix Z=some (o,Z')) (he:∀ x,o=.error x->W x Z') (hZ:∀ (us:List It3) (H':Hp) (g':Nat->Option It3) (Ts:List It3) (ds:List D),o=.ok (.val (.lst ds) .u)->(∀ x∈us,x.f=.z)->us.map (·.d)=ds->us.length<=16777216->Wf K G H' Y Z' (us++T) g'->ρ (us.map (·.v)) H') :
  tI K G0 W0 im Y H λJ H1=>qP J tg (tT K (bg ix) noX c) (tE K (bg ix) noX elt) ρ (cap ix Y) H1:=by
 refine tI.seq le w e he λp Z1 e1=>?_
 intro J H1 vs Ts g1 ys n a1 P hw
 have F:=us_u (is:=pls p.1) n
 have N:∀ i y,i∈pls p.1->g1 i=some y->y.f=.u->i∈us Z1 (pls p.1):=λi y hi V hf=>wl n hi V hf
 generalize us Z1 (pls p.1)=is at e1 F N
 have w2:=n.enter is
 obtain ⟨els,k,walk⟩:=hw
 have hM:∀ b,(∃ j y,j ∉ is/\g1 j=some y/\y.f=.u/\y.v=.ref b)->MutAt H1 b:=λb #[j,y,_,V,hf,m]=>by
  obtain ⟨_,a,L',v1,v2,_⟩:=(n.okS j y V).own (by rw[hf];intro q;cases q)
  rw[m] at v1;cases v1
  exact (n.okS j y V).rep.inH b (by rw[v2];exact Fe)
 have A:∀ y∈ys,∀ b∈y.L,¬ ∃ j y,j ∉ is/\g1 j=some y/\y.f=.u/\y.v=.ref b:=λy C b X #[j,σ,nj,l,hf,m]=>by
  have B:σ.f≠.z:=by rw[hf];intro q;cases q
  rcases P y C with ⟨i,hi,E⟩ | C
  .by_cases ij:i=j
   .subst ij
    rw[E] at l;cases l
    exact nj (N i y hi E hf)
   .exact n.ss j i σ y (Ne.symm ij) l E B b m X
  .exact (n.st j σ l y (Fi _ C)).1 B b m X
 have S:∀ y∈ys,Itm (Ts++T) g1 y:=λy C=>by
  rcases P y C with ⟨i,_,E⟩ | h
  .exact .inl #[i,E]
  .exact .inr (Fi _ h)
 have kid:∀ x∈els,∀ c∈x.L,d7 ((Ts++T).map bm) (λj=>if j∈is then (g1 j).map bm else g1 j) c/\(H1 c=none\/(G.H0 c=none\/G.src c)):=λx r c hc=>by
  obtain ⟨nr,sr⟩:=n.kids S ((k x r).2.2 c hc)
  refine #[#[λi z s hf m=>?_,λz hz hf m=>?_],.inr sr]
  .have s:(if i∈is then (g1 i).map bm else g1 i)=some z:=s
   by_cases q:i∈is
   .rw[if_pos q] at s
    obtain ⟨z0,e0,e1⟩:=Fh.mp s
    subst e1
    exact nr.1 i z0 e0 (λq=>hf (lentF_z.mpr q)) m
   .rw[if_neg q] at s
    exact nr.1 i z s hf m
  .obtain ⟨z0,h0,rfl⟩:=Fy.mp hz
   exact nr.2 z0 h0 (λq=>hf (lentF_z.mpr q)) m
 have w3:Wf K (eC G H1 g1 is) H1 Y (aK cX is Z1) (els++(Ts++T).map bm) (λj=>if j∈is then (g1 j).map bm else g1 j):=w2.pushAll λx r=>#[(k x r).1,(k x r).2.1,λc hc=>kid x r c hc]
 have w4:=w3.cap I
 cases τ:bC bnd c elt p.2 (si ix (aK cX is Z1)) with
 | none=>rw[τ] at e1;exact nsE e1
 | some rr =>
  obtain ⟨o2,τρ⟩:=rr
  rw[τ] at e1
  cases o2 with
  | error x=>exact nsE e1
  | ok ds =>
   dsimp only at e1
   split at e1
   .rename_i hlen
    cases e3:uncap ix τρ (aK cX is Z1) with
    | none=>rw[e3] at e1;exact nsE e1
    | some Z3 =>
     rw[e3] at e1
     have eo:o=.ok (.val (.lst ds) .u)/\Z'=aK gp is Z3:=by cases e1;exact #[rfl,rfl]
     obtain ⟨eo,eρ⟩:=eo
     refine vJ (K:=K) (Gc:=zd (eC G H1 g1 is) ix Y) (els:=els) (M:=λ_=>False) (ys:=ys) hz (λx r=>#[Fj _ (Fi _ r),(k x r).1]) (λH' hk=>walk _ H' hM hk A) rfl X (λY' H Q q=>zH (G1:=zd (eC G H1 g1 is) ix Y) rfl q) (λY' H Q q=>zR (G1:=zd (eC G H1 g1 is) ix Y) rfl q) hlen w4 τ λus U' H' g' t O w5=>?_
     obtain ⟨g6,w6⟩:=Wf.uncap w3 (λb o h=>h) I e3 t w5
     have w7:=Wf.leave (T:=Ts++T) (T':=T) (R:=us) n F (Fw Ts T) (w6.sub ((List.Sublist.refl us).append (by
      rw[List.map_append]
      exact (Fw (Ts.map bm) (T.map bm)).trans (Fw els _))))
     have hle:us.length<=16777216:=by
      have h1:us.length=ds.length:=by rw[<- O,Ft]
      have h2:=kb τ
      lia
     rw[<- eρ] at w7
     exact hZ us H' _ Ts ds eo t O hle w7
   .exact nsE e1
theorem nU {us:List It3} (w:Wf K G H Y Z (us++T) g) (j:∀ x∈us,x.f=.z) (b:H p=none) :
  Wf K G (upd H p (.lst (us.map (·.v)))) Y Z (#[.lst (us.map (·.d)),.ref p,p::(us.map (·.L)).flatten,.u]::T) g:=by
 have hi:∀ y∈us,Itm (us++T) g y/\y.f=.z:=λy i=>#[.inr (Fi _ i),j y i]
 have np:p ∉ (us.map (·.L)).flatten:=λa=>by
  obtain ⟨y,hm,a⟩:=fo a
  obtain ⟨o,k⟩:=((w.itm (hi y hm).1).rep.inH p a).ex
  rw[b] at k;exact nsE k
 have n:New K H (upd H p (.lst (us.map (·.v)))) (dS us) ⟨.lst (us.map (·.d)),.ref p,p::(us.map (·.L)).flatten,.u⟩:=⟨bh b,.lst a8 ((k5 λy i=>(w.itm (hi y i).1).rep).same (bh b)),λc a=>by
  rcases Fm.mp a with e | a
  .rw[e];exact .inl b
  .exact .inr (fo a),λ_=>⟨rfl,p,_,rfl,rfl,np,b⟩⟩
 exact (w.push n λc h=>w.alls hi h).sub (List.Sublist.cons_cons _ (Fw us T))
theorem zU (hz:(16777216:Nat)=sizeLine) (b:Inj ix) (m:Bnd K (bg ix).pr tg bnd) (h:tE K G0 W0 (bt im bnd c elt ix) Y H Q) :
  B4 (tI K G0 W0 im) tg (tT K (bg ix) noX c) (tE K (bg ix) noX elt) ix Y H Q:=by
 refine h.use λG W le Z T g o Z' w e q=>?_
 refine qA hz b m le w e q.err λus H' g' Ts ds l a f n i=>?_
 subst l f
 intro p k
 have j:=nU i a k
 exact q (.ref p) _ #[[_],g',j,Ar.val (#[.lst (us.map (·.d)),.ref p,p::(us.map (·.L)).flatten,.u]:It3)]
theorem qU {i:Nat} (hz:(16777216:Nat)=sizeLine) (j:Inj ix) (y:Bnd K (bg ix).pr tg bnd) (t:G0.pr i=false) (h:tS K G0 W0 (aZ i (bt im bnd c elt ix)) E Y H) :
  B7 i (tI K G0 W0 im) tg (tT K (bg ix) noX c) (tE K (bg ix) noX elt) ix E Y H:=by
 refine h.use λG W le Z T g r Z' w e q=>?_
 unfold aZ ac at e
 cases e1:bt im bnd c elt ix Z with
 | none=>rw[e1] at e;exact nsE e
 | some pr =>
  obtain ⟨o,Z1⟩:=pr
  rw[e1] at e
  have a:∀ x,o=.error x->W x Z1:=λx n=>by subst n;cases e;exact q
  refine qA hz j y le w e1 a λus H' g' Ts ds v b l z m=>?_
  subst v l
  intro p k
  have s:=nU m b k
  have e:(if i < Z1.length then some ((.ok .nx,Z1.set i (some (D.lst (us.map (·.d)),Fl.u))):Except D Flw×Sto) else none)=some (r,Z'):=e
  split at e
  .rename_i hi
   cases e
   exact q _ _ _ (s.store (f:=.u) hi (by rw[le.pr];exact t) (.inl rfl) (by intro h;cases h))
  .exact nsE e
end
section
variable {K:FG} {G G0:Gm} {W W0:D->Sto->Prop} {H H':Hp} {Y:St} {Z Z':Sto} {T T':List It3} {g:Nat->Option It3} {x y z:It3} {α β:Type}
theorem Wf.mutate {i:Nat} (w:Wf K G H Y Z T g) (C:g i=some y) (hu:y.f=.u) (ev:y.v=.ref a) (hm:jE d'=true) (rep:Rep K (upd H a o') d' (.ref a) (a::B)) (na:a ∉ B) (R:∀ c∈B,d7 T g c/\(G.H0 c=none\/G.src c)):Wf K G (upd H a o') Y (Z.set i (some (d',.u))) T (λj=>if j=i then some #[d',.ref a,a::B,.u] else g j):=by
 have r:y.f≠.z:=by rw[hu];intro q;cases q
 have X:=w.okS i y C
 obtain ⟨_,a',L',v1,v2,v3,v4⟩:=X.own r
 rw[ev] at v1;cases v1
 have hi:i < Z.length:=by
  have:=w.sl i
  rw[C] at this
  exact fX this.symm
 have ma:MutAt H a:=X.rep.inH a (by rw[v2];exact Fe)
 have val:∀ j u,(if j=i then some (#[d',.ref a,a::B,.u]:It3) else g j)=some u->(j=i/\u=#[d',.ref a,a::B,.u])\/(j≠i/\g j=some u):=λj u h=>by
  by_cases q:j=i
  .rw[if_pos q] at h;cases h;exact .inl #[q,rfl]
  .rw[if_neg q] at h;exact .inr #[q,h]
 have keep:∀ u,ItOk K G H u->a ∉ u.L->ItOk K G (upd H a o') u:=λu ou hn=>ou.keep (M:=λb=>b=a) (λb o s n=>by rw[aD n];exact s) (λb e=>by rw[e];exact ma) λb s e=>hn (by rw[<- e];exact s)
 have P:∀ j u,j≠i->g j=some u->a ∉ u.L:=λj u n e=>w.ss i j y u (Ne.symm n) C e r a ev
 have O:∀ u∈T,a ∉ u.L:=λu m=>(w.st i y C u m).1 r a ev
 have F:∀ b o,H b=some o->∃ τ,upd H a o' b=some τ:=λb o s=>by
  by_cases q:b=a
  .rw[q,a8];exact #[_,rfl]
  .rw[aD q];exact #[o,s]
 refine #[by rw[List.length_set];exact w.len,λj=>?_,λj u h=>?_,λj u h=>?_,λu m=>keep u (w.okT u m) (O u m),λj k p q n N ρ=>?_,λj u h t I=>?_,w.tt,λb o e n=>?_,w.pro,#[w.fx.frT,λj u h N hf b S=>?_,λb s=>?_,λb o s=>?_,λj u h W=>?_]]
 .rw[cO hi]
  by_cases q:j=i
  .rw[if_pos q,if_pos q];rfl
  .rw[if_neg q,if_neg q];exact w.sl j
 .rcases val j u h with ⟨rfl,rfl⟩ | ⟨n,h⟩
  .rw[w.sv j y C,ev]
  .exact w.sv j u h
 .rcases val j u h with ⟨rfl,rfl⟩ | ⟨n,h⟩
  .refine #[rep,λ_=>#[hm,a,B,rfl,rfl,na,λ_=>v4 hu],λc d=>?_]
   rcases Fm.mp d with e | d
   .rw[e];exact X.src a (by rw[v2];exact Fe)
   .exact (R c d).2
  .exact keep u (w.okS j u h) (P j u n h)
 .rcases val j p N with ⟨E,ep⟩ | ⟨n1,l⟩
  .rcases val k q ρ with ⟨ek,eq⟩ | ⟨σ,A⟩
   .exact absurd (E.trans ek.symm) n
   .rw[ep]
    intro _ c x
    cases x
    exact P k q σ A
  .rcases val k q ρ with ⟨ek,eq⟩ | ⟨σ,A⟩
   .rw[eq]
    intro hf c x d
    rcases Fm.mp d with e | d
    .obtain ⟨_,b,L2,J,V,_⟩:=(w.okS j p l).own hf
     rw[x] at J;cases J
     exact P j p n1 l (by rw[<- e,V];exact Fe)
    .exact (R c d).1.1 j p l hf x
   .exact w.ss j k p q n l A
 .rcases val j u h with ⟨E,D⟩ | ⟨n,h'⟩
  .rw[D]
   refine #[λ_ c x=>by cases x;exact O t I,λhf c x d=>?_]
   rcases Fm.mp d with e | d
   .obtain ⟨_,b,L2,J,V,_⟩:=(w.okT t I).own hf
    rw[x] at J;cases J
    exact O t I (by rw[<- e,V];exact Fe)
   .exact (R c d).1.2 t I hf x
  .exact w.st j u h' t I
 .have:b≠a:=λz=>by
   subst z
   rcases v4 hu with h | h
   .rw[e] at h;cases h
   .exact n h
  rw[aD this];exact w.base b o e n
 .rcases val j u h with ⟨E,D⟩ | ⟨n,h'⟩
  .subst E
   rw[D] at S
   cases S
   exact w.fx.frS j y C N r a ev
  .exact w.fx.frS j u h' N hf b S
 .obtain ⟨o,Q⟩:=w.fx.bin b s
  exact F b o Q
 .obtain ⟨o2,Q⟩:=w.fx.ob b o s
  exact F b o2 Q
 .rcases val j u h with ⟨E,D⟩ | ⟨n,h'⟩
  .rw[D] at W;cases W
  .exact w.fx.lvS j u h' W
def MutD (K:FG) (r:V->List V->Hp->VK->Prop) (f:D->List D->Option (D×D)):Prop:=∀ (a:Addr) (d:D) (b:List Addr) (as:List It3) (H:Hp) (Q:VK) (p:D×D),Rep K H d (.ref a) (a::b)->jE d=true->a ∉ b->(∀ x∈as,Rep K H x.d x.v x.L)->(∀ x∈as,a ∉ x.L)->f d (as.map (·.d))=some p ->
 (∀ (o':HO) (e:List Addr) (w:It3),Rep K (upd H a o') p.1 (.ref a) (a::e)->jE p.1=true->(∀ c∈e,c∈b\/dS as c)->w.f=.z->w.d=p.2->Rep K (upd H a o') w.d w.v w.L->(∀ c∈w.L,c∈b\/dS as c)->Q w.v (upd H a o'))->r (.ref a) (as.map (·.v)) H Q
def chk (ok:D->Bool) (i:Nat):M3 Unit:=λZ=>match (Z[i]?).join with
 | some (d,_)=>if ok d then some (.ok (),Z) else none
 | none=>none
theorem pg {i:Nat} (e:ac (ab i) k Z=some (r,Z')):∃ p,(Z[i]?).join=some p/\k (.pl i) Z=some (r,Z'):=by
 unfold ac ab at e
 cases q:(Z[i]?).join with
 | none=>rw[q] at e;exact nsE e
 | some p=>rw[q] at e;exact #[p,rfl,e]
theorem y9 {i:Nat} (e:ac (chk ok i) k Z=some (r,Z')):(∀ p,(Z[i]?).join=some p->ok p.1=true)/\k () Z=some (r,Z'):=by
 unfold ac chk at e
 grind
def vm (ok:D->Bool) (f:D->List D->Option (D×D)) (i:Nat) (ms:M3 (List R3)):EM:=ac (ab i) λ_=>ac (chk ok i) λ_=>ac ms λrs=>ac (gives rs) λds=>λZ=>match (Z[i]?).join with
 | some (d,.u)=>match f d ds with
  | some p=>some (.ok (.val p.2 .z),Z.set i (some (p.1,.u)))
  | none=>none
 | _=>none
theorem Wf.changed {i:Nat} {as us:List It3} (R:MutD K r f) (w:Wf K G H Y Z (us++T) g) (e:(Z[i]?).join=some (d,.u)) (P:Y[i]?=some (some v)) (D:∀ y∈as,Itm (us++T) g y/\y.f=.z) (ef:f d (as.map (·.d))=some p) (q:∀ v H',Got K G Y (Z.set i (some (p.1,.u))) T (.val p.2 .z) v H'->Q v H'):r v (as.map (·.v)) H Q:=by
 obtain ⟨y,B,O,M,o⟩:=w.slot e
 rw[P] at o
 injection o with o
 injection o with o
 have n:y.f≠.z:=by rw[M];intro q;cases q
 have F:=w.okS i y B
 obtain ⟨m,a,E,v1,v2,I,_⟩:=F.own n
 have ra:=F.rep
 rw[v1,v2,O] at ra
 rw[O] at m
 rw[o,v1]
 have na:∀ x∈as,a ∉ x.L:=λx t b=>by
  have:=(w.kid (D x t).1 b λhf=>absurd (D x t).2 hf).1 i y B n
  exact this v1
 refine R a d E as H Q p ra m I (λx t=>(w.itm (D x t).1).rep) na ef λo' ρ u τ S s1 J X V A=>?_
 have k:∀ c,(c∈E\/dS as c)->d7 (us++T) g c/\(G.H0 c=none\/G.src c):=λc b=>by
  rcases b with b | b
  .have C:c∈y.L:=by rw[v2];exact Ff _ b
   exact #[w.kid (.inl #[i,B]) C λ_ l=>by rw[v1] at l;cases l;exact I b,F.src c C]
  .exact w.alls D b
 have N:∀ c,(c∈E\/dS as c)->c≠a:=λc b z=>(k c b).1.1 i y B n (by rw[z];exact v1)
 have W:=w.mutate (o':=o') B M v1 S τ (λh=>N a (s1 a h) rfl) λc b=>k c (s1 c b)
 have σ:=W.pushAll (ws:=[u]) λx t=>by
  rw[FT.mp t]
  refine #[J,V,λc b=>?_]
  have s:=k c (A c b)
  refine #[#[λj z l hf hz=>?_,s.1.2],s.2]
  have l:(if j=i then some (#[p.1,.ref a,a::ρ,.u]:It3) else g j)=some z:=l
  by_cases q:j=i
  .rw[if_pos q] at l
   cases l
   cases hz
   exact N a (A a b) rfl
  .rw[if_neg q] at l
   exact s.1.1 j z l hf hz
 rw[<- X,<- J] at q
 exact q u.v _ #[[u],_,σ.sub ((List.Sublist.refl [u]).append (Fw us T)),.val u]
theorem CZ {i:Nat} (n:MutD K r f) (hok:∀ d v L H,ok d=true->Rep K H d v L->tyV K Ty v H) (h:tE K G0 W0 (vm ok f i ms) Y H Q):tBM K Ty r (uM i) (tA K G0 W0 ms) Y H Q:=by
 refine h.use λG W le Z T g o Z' w e q=>?_
 obtain ⟨s,j,e⟩:=pg e
 obtain ⟨A,e⟩:=y9 e
 obtain ⟨m,f0⟩:=s
 obtain ⟨y,t,F,I,k⟩:=w.slot j
 refine #[y.v,k,hok m y.v y.L H (A _ j) (by rw[<- F];exact (w.okS i y t).rep),?_]
 refine tA.seq le w e q.err λrs Z1 e1 J H1 Ts g1 B a1=>?_
 obtain ⟨ds,Z2,g2,a,_,C,_,ys,D,f1,f2⟩:=a1.gives B e1
 subst f1 f2
 cases c:(Z2[i]?).join with
 | none=>rw[c] at a;exact nsE a
 | some p3 =>
  obtain ⟨E,x⟩:=p3
  rw[c] at a
  cases x with
  | u =>
   dsimp only at a
   cases b:f E (ys.map (·.d)) with
   | none=>rw[b] at a;exact nsE a
   | some p =>
    rw[b] at a
    cases a
    exact C.changed n c k D b q
  | l=>exact nsE a
  | z=>exact nsE a
def lL (t:V->V->V->Hp->(Hp->Prop)->Prop):V->List V->Hp->VK->Prop:=λx a H Q=>∃ k v,a=[k,v]/\t x k v H λH'=>Q .non H'
def oh (f:D->List D->Option (D×D)) (i:Nat) (mk b:EM):SM:=ac b λc=>ac (ab i) λ_=>ac mk λa=>ac (gives [a,c]) λds=>λZ=>match (Z[i]?).join with
 | some (d,.u)=>match f d ds with
  | some p=>some (.ok .nx,Z.set i (some (p.1,.u)))
  | none=>none
 | _=>none
theorem CI {i:Nat} (x:MutD K (lL t) f) (h:tS K G0 W0 (oh f i mk mv) E Y H):wB (tE K G0 W0 mv) (gSub (uM i) (tE K G0 W0 mk) t) E Y H:=by
 refine h.use λG W le Z T g r Z' w e q=>?_
 refine tE.seq le w e q.err λA Z1 e1 v H1 #[Ts,g1,m,a1]=>?_
 obtain ⟨C,n,e1⟩:=pg e1
 obtain ⟨τ,f0⟩:=C
 obtain ⟨y,V,ρ,σ,k⟩:=m.slot n
 refine #[y.v,k,?_]
 .refine tE.seq le m e1 q.err λs Z2 o J H2 #[Us,g2,L,a2]=>?_
  have O:Ars Y [s,A] [J,v] (([]++Ts)++Us):=.cons a2 (.cons a1 .nil)
  have S:Wf K G H2 Y Z2 ((([]++Ts)++Us)++T) g2:=L.perm (by
   rw[List.nil_append,<- List.append_assoc]
   exact (List.perm_append_comm).append_right T)
  obtain ⟨ds,Z3,g3,a,_,D,_,ys,M,f1,f2⟩:=O.gives S o
  subst f1
  cases b:(Z3[i]?).join with
  | none=>rw[b] at a;exact nsE a
  | some p3 =>
   obtain ⟨N,F⟩:=p3
   rw[b] at a
   cases F with
   | u =>
    dsimp only at a
    cases j:f N (ys.map (·.d)) with
    | none=>rw[j] at a;exact nsE a
    | some p =>
     rw[j] at a
     cases a
     have:=D.changed (Q:=λ_ H'=>E.nx Y H') x b k M j λB H' #[P,X,I,a5]=>q _ _ _ (I.sub (Fw P T))
     rw[f2] at this
     obtain ⟨k',B,c,R⟩:=this
     cases c
     exact R
   | l=>exact nsE a
   | z=>exact nsE a
end
structure RE (X:Cx) (G0:Gm) (W0:D->Sto->Prop) (e:Expr) (m:EM):Prop where
 h:PE X e (tE X.K G0 W0 m)
structure RT (X:Cx) (G0:Gm) (W0:D->Sto->Prop) (e:Expr) (m:M3 Bool):Prop where
 h:PT X e (tT X.K G0 W0 m)
structure RW (X:Cx) (G0:Gm) (W0:D->Sto->Prop) (e:Expr) (m:M3 Bool):Prop where
 h:PW X e (tT X.K G0 W0 m)
structure RA (X:Cx) (G0:Gm) (W0:D->Sto->Prop) (es:List Expr) (m:M3 (List R3)):Prop where
 h:PA X es (tA X.K G0 W0 m)
structure RS (X:Cx) (G0:Gm) (W0:D->Sto->Prop) (s:Stmt) (m:SM):Prop where
 h:PS X s (tS X.K G0 W0 m)
structure RSs (X:Cx) (G0:Gm) (W0:D->Sto->Prop) (s:List Stmt) (m:SM):Prop where
 h:PSs X s (tS X.K G0 W0 m)
structure RI (X:Cx) (G0:Gm) (W0:D->Sto->Prop) (tg iter:Expr) (m:IM):Prop where
 h:PI X tg iter (tI X.K G0 W0 m)
structure RG (X:Cx) (pr:Nat->Bool) (target:Expr) (bnd:D->Sto->Option Sto):Prop where
 h:∃ tg,PG X target tg/\Bnd X.K pr tg bnd
structure RGs (X:Cx) (pr:Nat->Bool) (targets:List Expr) (bnd:List D->Sto->Option Sto):Prop where
 h:∃ tg,PGs X targets tg/\zC X.K pr tg bnd
theorem PE.imp (h:PE X e t) (f:∀ Y H Q,t' Y H Q->t Y H Q):PE X e t':=λpins s Y H Q I q=>h pins s Y H Q I (f Y H Q q)
theorem PT.imp (h:PT X e t) (f:∀ Y H Q,t' Y H Q->t Y H Q):PT X e t':=λpins s Y H Q I q=>h pins s Y H Q I (f Y H Q q)
theorem PW.imp (h:PW X e t) (f:∀ Y H Q,t' Y H Q->t Y H Q):PW X e t':=λa pins s Y H Q I q=>h a pins s Y H Q I (f Y H Q q)
theorem PA.imp (h:PA X e t) (f:∀ Y H Q,t' Y H Q->t Y H Q):PA X e t':=λpos pins s Y H Q I q=>h pos pins s Y H Q I (f Y H Q q)
theorem PS.imp (h:PS X e t) (f:∀ D Y H,t' D Y H->t D Y H):PS X e t':=λpins s Y H D I q=>h pins s Y H D I (f D Y H q)
theorem PSs.imp (h:PSs X e t) (f:∀ D Y H,t' D Y H->t D Y H):PSs X e t':=λpins s Y H D I q=>h pins s Y H D I (f D Y H q)
theorem PI.imp (h:PI X tg e t) (f:∀ Y H R,t' Y H R->t Y H R):PI X tg e t':=λpins s Y H R I q=>h pins s Y H R I (f Y H R q)
theorem szl:(16777216:Nat)=sizeLine:=by rw[sizeLine_eq]
section
variable {X:Cx} {G0:Gm} {W0:D->Sto->Prop} {a b c e:Expr} {es:List Expr} {pos:Pos} {ma mb mc m:EM} {ms:M3 (List R3)} {t u:M3 Bool} {de:List Expr}
theorem om (i:Nat) (b:X.N[i]?=some x) (c:Vis X.env.scope x) (hd:(x == ("__debug__":Str))=false) (a:(x == ("__classdict__":Str))=false):RE X G0 W0 (.Name x pos) (ab i):=#[PE.imp (lO b c hd a) λ_ _ _ h=>CV h]
theorem Dw:RE X G0 W0 (.Constant (.int i) j pos) (mC (.int i)):=#[PE.imp DU λ_ _ _ h=>jg (λ_=>.int i) h]
theorem re_bl:RE X G0 W0 (.Constant (.bool i) j pos) (mC (.bl i)):=#[PE.imp pe_bl λ_ _ _ h=>jg (λ_=>.bl i) h]
theorem Dt:RE X G0 W0 (.Constant .none j pos) (mC .non):=#[PE.imp DR λ_ _ _ h=>jg (λ_=>.non) h]
theorem pH {i:Int} (a:Gl X x) (hm:X.mg x=some (.int i tk)) (hd:(x == ("__debug__":Str))=false):RE X G0 W0 (.Name x pos) (mC (.int i)):=#[PE.imp (AV (v:=V.int i) a hm #[_,rfl] hd) λ_ _ _ h=>jg (λ_=>.int i) h]
theorem jT (c:OpR X (binaryOp op) r) (hd:OpD X.K r f) (d:RE X G0 W0 a ma) (e:RE X G0 W0 b mb):RE X G0 W0 (.BinOp a op b pos) (af f ma mb):=#[PE.imp (pe_op c d.h e.h) λ_ _ _ h=>lA hd h]
theorem re_un (b:UnR X (unaryOp op) r) (hd:UnD X.K r f) (c:RE X G0 W0 a ma):RE X G0 W0 (.UnaryOp op a pos) (mUn f ma):=#[PE.imp (pe_un b c.h) λ_ _ _ h=>B0 hd h]
theorem rf (c:OpR X (compareOp op) r) (hd:OpD X.K r f) (d:RE X G0 W0 a ma) (e:RE X G0 W0 b mb) (hm:behindInMarks op b=false):RE X G0 W0 (.Compare a [op] [b] pos) (af f ma mb):=#[PE.imp (AX c d.h e.h hm) λ_ _ _ h=>lA hd h]
theorem re_ix (c:IxR X r) (hd:OpD X.K r f) (d:RE X G0 W0 a ma) (e:RE X G0 W0 b mb) (g:uE b):RE X G0 W0 (.Subscript a b pos) (af f ma mb):=#[PE.imp (pe_ix c d.h e.h g) λ_ _ _ h=>lA hd h]
theorem Dx (c:RE X G0 W0 a ma) (d:RE X G0 W0 (.BoolOp .And (b::de) pos) mb):RE X G0 W0 (.BoolOp .And (a::b::de) pos) (l4 ma mb):=#[PE.imp (DX c.h d.h) λ_ _ _ h=>C1 h]
theorem re_or (c:RE X G0 W0 a ma) (d:RE X G0 W0 (.BoolOp .Or (b::de) pos) mb):RE X G0 W0 (.BoolOp .Or (a::b::de) pos) (mOr ma mb):=#[PE.imp (pe_or c.h d.h) λ_ _ _ h=>tE_or h]
theorem Dr (h:RE X G0 W0 a ma):RE X G0 W0 (.BoolOp op [a] pos) ma:=#[DP h.h]
theorem Ds (b:RE X G0 W0 a ma):RE X G0 W0 (.UnaryOp .Not a pos) (Ew ma):=#[PE.imp (DQ b.h) λ_ _ _ h=>CY h]
theorem re_if (e:RT X G0 W0 c t) (d:RE X G0 W0 a ma) (f:RE X G0 W0 b mb):RE X G0 W0 (.IfExp c a b pos) (mIf t ma mb):=#[PE.imp (xK e.h d.h f.h) λ_ _ _ h=>tE_if h]
def jW (f b:D->D->Option (D×Fl)) (ma mb mc:EM):EM:=ac ma λra=>ac mb λrb=>ac (der ra) λda=>ac (der rb) λdb=>ac (aX ((f da db).bind λp=>asB p.1)) λk=>if k then ac mc λrc=>ac (der rb) λdb=>ac (der rc) λa=>aX ((b db a).map λp=>R3.val p.1 p.2) else aT (.val (.bl false) .z)
theorem Dh (b:RE X G0 W0 a ma) (he:∀ whole,isTrue a X.env whole=(do let v <- whole;standAt a.pos;holding [v] (truthy v))):RT X G0 W0 a (cB ma):=#[PT.imp (DG b.h he) λ_ _ _ h=>tT_b h]
theorem rt_w (h:RW X G0 W0 a t):RT X G0 W0 a t:=#[h.h.pt]
theorem z4 (b:RT X G0 W0 a t):RW X G0 W0 (.BoolOp .And [a] pos) t:=#[AD b.h]
theorem Db (b:RT X G0 W0 a t):RW X G0 W0 (.BoolOp .Or [a] pos) t:=#[DD b.h]
theorem Dc (c:RT X G0 W0 a t) (d:RW X G0 W0 (.BoolOp .And (b::de) pos) u):RW X G0 W0 (.BoolOp .And (a::b::de) pos) (qH t u):=#[PW.imp (DE c.h d.h) λ_ _ _ h=>CH h]
theorem rw_or (c:RT X G0 W0 a t) (d:RW X G0 W0 (.BoolOp .Or (b::de) pos) u):RW X G0 W0 (.BoolOp .Or (a::b::de) pos) (cOr t u):=#[PW.imp (pw_or c.h d.h) λ_ _ _ h=>tT_or h]
theorem Di (b:RT X G0 W0 a t):RT X G0 W0 (.UnaryOp .Not a pos) (fD t):=#[PT.imp (DH b.h) λ_ _ _ h=>CG h]
theorem Dz:RA X G0 W0 [] ah:=#[PA.imp rp λ_ _ _ h=>wC h]
theorem Az (b:RE X G0 W0 e m) (c:RA X G0 W0 es ms) (a:starEach (e::es) X.env=(false,eval e X.env)::starEach es X.env):RA X G0 W0 (e::es) (aa m ms):=#[PA.imp (k8 b.h c.h a) λ_ _ _ h=>sQ h]
theorem Dq (h:RA X G0 W0 es ms):RE X G0 W0 (.Tuple es x1 pos) (eZ ms):=#[PE.imp (DO h.h) λ_ _ _ h=>CW szl h]
theorem Du (h:RA X G0 W0 es ms):RE X G0 W0 (.List es pos) (l0 ms):=#[PE.imp (DS h.h) λ_ _ _ h=>C0 szl h]
theorem b8 {id:String} (d:CallR X (.builtin id) r) (hd:cY X.K r f) (j:Gl X x) (hm:X.mg x=none) (c:bootBuiltins x=some (.builtin id)) (g:RA X G0 W0 (e::es) ms) (i:x≠"__name__") (a:(x == ("__debug__":Str))=false) (he:starEach (e::es) X.env=(false,eval e X.env)::starEach es X.env) (b:(backTo pos (starEach es X.env)).any (·.1)=false):RE X G0 W0 (.Call (.Name x p) (e::es) [] pos) (ao f ms):=#[PE.imp (lP d j hm c g.h i a he b) λ_ _ _ h=>lz hd h]
theorem jS (d:CallR X (.type T) r) (hd:cY X.K r f) (j:Gl X x) (hm:X.mg x=none) (c:bootBuiltins x=some (.type T)) (g:RA X G0 W0 (e::es) ms) (i:x≠"__name__") (a:(x == ("__debug__":Str))=false) (he:starEach (e::es) X.env=(false,eval e X.env)::starEach es X.env) (b:(backTo pos (starEach es X.env)).any (·.1)=false):RE X G0 W0 (.Call (.Name x p) (e::es) [] pos) (ao f ms):=#[PE.imp (u5 d j hm c g.h i a he b) λ_ _ _ h=>lz hd h]
variable {st:Stmt} {sts:List Stmt} {sm sn:SM}
theorem Af:RSs X G0 W0 [] cU:=#[PSs.imp AL λ_ _ _ h=>CN h]
theorem xa (h1:RS X G0 W0 st sm) (h2:RSs X G0 W0 sts sn):RSs X G0 W0 (st::sts) (aA sm sn):=#[PSs.imp (xA h1.h h2.h) λ_ _ _ h=>CK h]
theorem Ae (h1:RS X G0 W0 st sm):RSs X G0 W0 [st] sm:=#[AK h1.h]
theorem Ah (he:RE X G0 W0 e m) (a:swapsWith e none pos.line X.env=pure false):RS X G0 W0 (.Expr e pos) (gh m):=#[PS.imp (AM he.h a) λ_ _ _ h=>zJ h]
theorem Dj (np:Nat) (a:∀ i,np<=i->G0.pr i=false) (he:RE X G0 W0 e m):RS X G0 W0 (.Return (some e) pos) (aL np m):=#[PS.imp (DJ he.h) λ_ _ _ h=>CL a h]
theorem rs_if (b:RT X G0 W0 c t) (a:RSs X G0 W0 x sm) (d:RSs X G0 W0 y sn):RS X G0 W0 (.If c x y pos) (sIf t sm sn):=#[PS.imp (ps_if b.h a.h d.h) λ_ _ _ h=>tS_if h]
theorem xg (i:Nat) (c:X.N.Nodup) (hi:X.N[i]?=some x) (d:Loc X.env.scope x) (he:RE X G0 W0 e m) (a:swapsWith e (some (.Name x pos')) pos.line X.env=pure false) (hf:X.fn x=true\/X.env.scope.names.lookup x=some .local) (b:G0.pr i=false):RS X G0 W0 (.Assign [.Name x pos'] e pos) (aZ i m):=#[PS.imp (DI c hi d he.h a hf) λ_ _ _ h=>CJ b h]
theorem xb (a:PassesOwn (model X.prog X.w) X.A X.env X.xe) (d:RT X G0 W0 c t) (b:RSs X G0 W0 body sm):RS X G0 W0 (.While c body [] pos) (eW t sm):=#[PS.imp (xB a d.h b.h) λ_ _ _ h=>wx h]
theorem Dl (b:PassesOwn (model X.prog X.w) X.A X.env X.xe) (c:X.calm=true) (hi:RI X G0 W0 tg iter im) (e:RG X G0.pr tg bnd) (d:RSs X G0 W0 body sm) (a:∀ x,foldedSetIterable iter X.env x=pure x):RS X G0 W0 (.For tg iter body [] pos) (cy im bnd sm):=by
 obtain ⟨g,h1,h2⟩:=e.h
 exact #[PS.imp (DK b c hi.h h1 d.h a) λ_ _ _ h=>CO h2 h]
theorem sW (i:Nat) (a:X.N.Nodup) (hi:X.N[i]?=some x) (c:Loc X.env.scope x) (hf:X.fn x=true\/X.env.scope.names.lookup x=some .local) (b:pr i=false):RG X pr (.Name x pos) (am i):=#[_,k6 a hi c hf,jL b]
theorem At:RGs X pr [] qM:=#[_,tD,qI]
theorem xn (h1:RG X pr e bn) (h2:RGs X pr es bs) (a:(assignEach (e::es) X.env).map (·.2)=assign e X.env::(assignEach es X.env).map (·.2)):RGs X pr (e::es) (eS bn bs):=by
 obtain ⟨g,a1,a2⟩:=h1.h
 obtain ⟨b,b1,b2⟩:=h2.h
 exact #[_,lN a1 b1 a,ki a2 b2]
theorem Dp {k n:Nat} (c:X.calm=true) (h:RGs X pr es bs) (b:(assignEach es X.env).length=n) (a:(assignEach es X.env).findIdx? (·.1)=none):RG X pr (.Tuple es k pos) (qL n bs):=by
 obtain ⟨d,b1,b2⟩:=h.h
 exact #[_,xI c b1 b a,uq b2]
theorem Ax (NY:List Str) (ix:List (Option Nat)) (d:X.calm=true) (hi:RI X G0 W0 tg iter im) (f:∀ s H C fp,PTs (aN X NY scope s H C fp) ifs (tT X.K (bg ix) noX cm)) (he:∀ s H C fp,RE (aN X NY scope s H C fp) (bg ix) noX elt em) (g:il scope X.N X.env.scope NY ix=true) (b:Inj ix) (e:∀ x,foldedSetIterable iter X.env x=pure x) (c:∃ a,Bnd X.K (bg ix).pr a bnd/\∀ s H C fp,PG (aN X NY scope s H C fp) tg a):RE X G0 W0 (.ListComp elt [#[tg,iter,ifs,0]] scope pos) (bt im bnd cm em ix):=by
 obtain ⟨a,b1,b2⟩:=c
 exact #[PE.imp (AW NY ix d hi.h b2 f (λs H C fp=>(he s H C fp).h) g e) λ_ _ _ h=>zU szl b b1 h]
end
noncomputable def ak (F:Fn) (ms:M3 (List R3)):EM:=ac ms λrs=>λZ=>match prs (frz (qt rs) Z) rs with
 | none=>none
 | some ps=>match F ps with
  | none=>none
  | some (.ok p,qs)=>if qs.length=ps.length then some (.ok (.val p.1 p.2),back rs ps qs (frz (qt rs) Z)) else none
  | some (.error _,_)=>none
def uN (K:FG) (F:Fn):Sp:=λa H Q _=>∃ (ps:List It3) (p:D×Fl) (fs:List (D×Fl)),a=ps.map (·.v)/\(∀ p∈ps,Arg K H p)/\ps.Pairwise Apart3/\F (ps.map λp=>(p.d,p.f))=some (.ok p,fs) /\
 ∀ x qs H',Behind K H H' ps qs x->x.d=p.1->x.f=p.2->qs.map (λq=>(q.d,q.f))=fs->Q x.v H'
section
variable {K:FG} {G G0:Gm} {W W0:D->Sto->Prop} {H H':Hp} {Y:St} {Z Z':Sto} {T T':List It3} {g:Nat->Option It3} {x y z:It3} {α β:Type}
theorem wA (h:tE K G0 W0 (ak F ms) Y H Q):tA K G0 W0 ms Y H λu H1=>uN K F u H1 Q E0:=by
 refine h.use λG W le Z T g o Z' w e q=>?_
 refine tA.seq le w e q.err λrs Z1 e1 u H1 Ts g1 t a1=>?_
 obtain ⟨g2,d,S⟩:=Wf.frz (is:=qt rs) t
 cases j:prs (L3.frz (qt rs) Z1) rs with
 | none=>rw[j] at e1;exact nsE e1
 | some pfs =>
  rw[j] at e1
  dsimp only at e1
  have hd:∀ i,2<=(pls rs).count i->∀ y,g2 i=some y->y.f=.z:=λi N y n=>by
   have hm:i∈qt rs:=FV.mpr #[List.count_pos_iff.mp (by lia),by simpa using N]
   have s1:=d.sl i
   rw[n] at s1
   have O:∃ y0,g1 i=some y0:=by
    cases A:g1 i with
    | some y0=>exact #[y0,rfl]
    | none =>
     exfalso
     have s2:=t.sl i
     rw[A] at s2
     have:=qp (is:=qt rs) s2.symm
     rw[this] at s1
     cases s1
   obtain ⟨y0,l⟩:=O
   obtain ⟨τ,b,_,R⟩:=S i y0 l
   rw[n] at b
   cases b
   exact R hm
  obtain ⟨ps,f1,f2,L,f4,E⟩:=Ars.args a1 d hd j
  have hit:∀ p∈ps,Itm (Ts++T) g2 p:=λp k=>by
   rcases f4 p k with ⟨i,_,P⟩ | h
   .exact .inl #[i,P]
   .exact .inr (Fi _ h)
  have c:∀ p∈ps,Arg K H1 p:=λp k=>⟨(d.itm (hit p k)).rep,λhf=>by
   obtain ⟨m,a,L',v1,v2,C,_⟩:=(d.itm (hit p k)).own hf
   exact ⟨m,a,L',v1,v2,C⟩⟩
  subst f2
  cases b:F pfs with
  | none=>rw[b] at e1;exact nsE e1
  | some r =>
   obtain ⟨out,fs⟩:=r
   rw[b] at e1
   cases out with
   | ok p =>
    dsimp only at e1
    split at e1
    .cases e1
     refine #[ps,p,fs,rfl,c,L,by rw[f1];exact b,?_]
     intro x qs H' B I D J
     obtain ⟨g',V,M⟩:=Wf.after d j f1 f4 E B.toBehindX
     have s:=M x B.rep B.own B.src B.apx
     rw[J] at s
     rw[<- I,<- D] at q
     exact q x.v H' #[[x],g',s,.val x]
    .exact nsE e1
   | error er=>exact nsE e1
def eB (b:Bool) (p:It3):It3:=if b then di p else p
theorem nG:∀ {mask:List Bool} {ps:List It3},(List.zipWith eB mask ps).map (λp=>(p.d,p.f))=List.zipWith vp mask (ps.map λp=>(p.d,p.f))
 | [],_=>rfl
 | _::_,[]=>rfl
 | b::mask,p::ps=>by
  simp only[List.zipWith_cons_cons,FF,nG]
  cases b <;> rfl
theorem vo {i:Nat} (h:(List.zipWith eB mask ps)[i]?=some q):∃ b p,mask[i]?=some b/\ps[i]?=some p/\q=eB b p:=by grind
theorem qg {i:Nat} (a:ps.length=mask.length) (h:ps[i]?=some p):∃ b,mask[i]?=some b/\(List.zipWith eB mask ps)[i]?=some (eB b p):=by
 have hi:i < mask.length:=by have:=(Fu.mp h).1;omega
 simp_all
theorem eA (b:Bool) (p:It3):(eB b p).d=p.d/\(eB b p).v=p.v/\(eB b p).L=p.L/\((eB b p).f=p.f\/(eB b p).f=.z):=by
 cases b
 .exact #[rfl,rfl,rfl,.inl rfl]
 .exact #[rfl,rfl,rfl,.inr rfl]
theorem NoRoot.low (h:NoRoot a b) (g:a'.v=a.v) (hf:a'.f=a.f\/a'.f=.z) (d:b'.L=b.L):NoRoot a' b':=λq c e=>by
 rw[d]
 rcases hf with f | f
 .exact h (by rw[<- f];exact q) c (by rw[<- g];exact e)
 .exact absurd f q
def prM (mask:List Bool) (i:Nat):Bool:=match mask[i]? with
 | some b=>!b
 | none=>false
theorem Bq {f:α->β} {l:List α} {i:Nat} {a:α} (h:l[i]?=some a):(l.map f)[i]?=some (f a):=by rw[Fz,h];rfl
theorem ub {n:Nat} (hn:mask.length<=n) (h:uN K (fnM mask n m) vs H Q E) :
  ∃ G:Gm,G.pr=prM mask/\tS K G noX m { nx:=λ_ H'=>Q .non H',rt:=Q } (vs.map some++List.replicate (n - vs.length) none) H:=by
 obtain ⟨ps,p,fs,rfl,ha,hp,l,q⟩:=h
 unfold fnM at l
 rw[Ft] at l
 split at l
 .rename_i hl
  rw[<- nG] at l
  generalize w:List.zipWith eB mask ps=g at l
  have ar:g.length=ps.length:=by rw[<- w,List.length_zipWith];lia
  have R:g.map (·.v)=ps.map (·.v):=by
   refine List.ext_getElem? λi=>?_
   rw[Fz,Fz]
   cases e:ps[i]? with
   | none=>rw[List.getElem?_eq_none (by have:=List.getElem?_eq_none_iff.mp e;lia)]
   | some u =>
    obtain ⟨b,_,t⟩:=qg (mask:=mask) hl e
    rw[w] at t
    rw[t]
    show some (eB b u).v=some u.v
    rw[(eA b u).2.1]
  have up:∀ (i:Nat) (u:It3),g[i]?=some u->∃ b s,mask[i]?=some b/\ps[i]?=some s/\u=eB b s:=λi u e=>by rw[<- w] at e;exact vo e
  have A:∀ u∈g,∃ b s,s∈ps/\u=eB b s:=λu hu=>by
   obtain ⟨i,hi,e⟩:=List.mem_iff_getElem.mp hu
   obtain ⟨b,s,_,t,y⟩:=up i u (by rw[Fo hi,e])
   exact #[b,s,Fv t,y]
  have M:∀ u∈g,Arg K H u:=λu hu=>by
   obtain ⟨b,s,h0,rfl⟩:=A u hu
   obtain ⟨e1,t,y,W⟩:=eA b s
   refine #[by rw[e1,t,y];exact (ha s h0).rep,λhf=>?_]
   rw[e1,t,y]
   refine (ha s h0).own λz=>hf ?_
   rcases W with f | f
   .rw[f];exact z
   .exact f
  have I:g.Pairwise Apart3:=by
   rw[List.pairwise_iff_getElem]
   intro i j hi hj lt
   obtain ⟨b,s,_,t,y⟩:=up i _ (Fo hi)
   obtain ⟨C,σ,_,T,S⟩:=up j _ (Fo hj)
   have ap:=dE hp (λ_ _=>Apart3.symm) (FD lt) t T
   rw[y,S]
   obtain ⟨_,a2,τ,a4⟩:=eA b s
   obtain ⟨_,b2,b3,b4⟩:=eA C σ
   exact #[ap.1.low a2 a4 b3,ap.2.low b2 b4 τ]
  have O:∀ (i:Nat) (u:It3),g[i]?=some u->u.f≠.z->prM mask i=true:=λi u e hf=>by
   obtain ⟨b,s,e1,t,y⟩:=up i u e
   unfold prM
   rw[e1]
   cases b with
   | false=>rfl
   | true=>rw[y] at hf;exact absurd rfl hf
  have alls:∀ c,dS g c->dS ps c:=λc #[u,hu,N]=>by
   obtain ⟨b,s,h0,rfl⟩:=A u hu
   exact #[s,h0,by rw[<- (eA b s).2.2.1];exact N]
  have lift:∀ {H':Hp} {qs:List It3},BehindX K H H' g qs->BehindX K H H' ps qs:=λ{H' qs} B=>by
   refine #[λb o hb hn=>B.frame b o hb λu hu hf R=>?_,Paired.ofGet ?_ λk u v eu ev=>?_,B.apart]
   .obtain ⟨C,s,h0,rfl⟩:=A u hu
    obtain ⟨_,t,_,W⟩:=eA C s
    rcases W with f | f
    .exact hn s h0 (by rw[<- f];exact hf) (by rw[<- t];exact R)
    .rw[f] at hf;cases hf
   .rw[<- ar];exact Paired.length B.back
   .obtain ⟨b,_,t⟩:=qg (mask:=mask) hl eu
    rw[w] at t
    have b1:=Paired.at B.back t ev
    obtain ⟨a1,a2,τ,a4⟩:=eA b u
    refine #[λhz=>?_,by rw[b1.v,a2],?_,b1.arg,λc N=>(b1.src c N).imp id (alls c),λhf C J=>?_]
    .have:eB b u=u:=by
      cases b
      .rfl
      .obtain ⟨d,v,L,f⟩:=u
       have hz:f=.z:=hz
       subst hz;rfl
     rw[<- this]
     exact b1.z (by rw[this];exact hz)
    .rcases b1.f with h | h
     .rcases a4 with f | f
      .exact .inl (h.trans f)
      .exact .inr (h.trans f)
     .exact .inr h
    .rcases a4 with f | f
     .exact b1.there (by rw[f];exact hf) C (by rw[a2];exact J)
     .-- lowered: as it was
      obtain ⟨_,a,L',v1,v2,_⟩:=(ha u (Fv eu)).own (by rw[hf];intro q;cases q)
      rw[J] at v1;cases v1
      have hq:=b1.z f
      have r:=b1.arg.rep
      rw[hq,a1,a2,τ] at r
      exact (r.inH C (by rw[v2];exact Fe)).ex
  have V:g.length<=n:=by lia
  have wf:=wk (K:=K) (H:=H) (n:=n) (pr:=prM mask) V M I O
  rw[R] at wf
  refine #[gOf H (prM mask) ((ps.map (·.v)).map some++List.replicate (n - (ps.map (·.v)).length) none) g,rfl,?_]
  have h0:∀ (i:Nat) (u:It3),g[i]?=some u->((ps.map (·.v)).map some++List.replicate (n - (ps.map (·.v)).length) none)[i]?=some (some u.v):=λi u e=>nc (by rw[<- R];exact Bq e)
  unfold fn0 at l
  cases e:m (kF n (g.map λp=>(p.d,p.f))) with
  | none=>rw[e] at l;exact nsE l
  | some rr =>
   obtain ⟨r,Z2⟩:=rr
   rw[e] at l
   refine tS.mk (r:=r) (Le.refl K _ _) wf e ?_
   have fin:∀ {x:It3} {Y':St} {H':Hp} {g':Nat->Option It3} {d:D} {f:Fl},Wf K (gOf H (prM mask) ((ps.map (·.v)).map some++List.replicate (n - (ps.map (·.v)).length) none) g) H' Y' Z2 [x] g'->x.d=d->x.f=f ->
     ((iO Z2 0 (g.map λp=>(p.d,p.f))).map λfs=>((.ok (d,f),fs):Except D (D×Fl)×List (D×Fl)))=some (.ok p,fs)->Q x.v H':=λ{x Y' H' g' d f} P xd xf l=>by
    cases F:iO Z2 0 (g.map λp=>(p.d,p.f)) with
    | none=>rw[F] at l;exact nsE l
    | some fs' =>
     rw[F] at l
     cases l
     obtain ⟨qs,B,hq⟩:=sI (n:=n) M I O h0 P F
     have BX:=lift B.toBehindX
     exact q x qs H' #[BX,B.rep,B.own,λc N=>(B.src c N).imp id (alls c),B.apx] xd xf hq
   cases r with
   | error er=>
    dsimp only at l
    cases F:iO Z2 0 (g.map λp=>(p.d,p.f)) with
    | none=>rw[F] at l;exact nsE l
    | some fs'=>rw[F] at l;cases l
   | ok fl =>
    cases fl with
    | nx =>
     intro Y' H' g' P
     obtain ⟨Ts,g2,w2,a2⟩:=P.const .non
     obtain ⟨x,rfl,ρ,X,x3⟩:=a2.val_inv
     have:=fin w2 ρ X l
     rw[x3] at this
     exact this
    | br=>exact nsE l
    | ct=>exact nsE l
    | rt d f =>
     intro x Y' H' g' P ρ X
     exact fin P ρ X l
 .exact nsE l
end
abbrev au (P:Program) (w:World) (K:FG) (mg:Str->Option Value) (base:Heap) (x:Str) (k:Nat) (ps:List Str) (F:Fn):Prop:=Callee P w K mg base x k ps (uN K F)
theorem aE {k:Nat} {nn:Nat} (D:Def K mg x st) (S:FnScope N ps (ae st)) (c:mask.length=ps.length) (b:N.length=nn) (n:∀ (kV doc pm:Value) (an:Option Addr) (a ct:Value) (us:List Value),us.length=ps.length->bindArgs (PySem.W.fnOf x x (aV st) (aO st) (ae st) .none kV doc pm an a ct) #[us,[]]=pure (ps.zip us)) (body:∀ (a:Value) (A:Around) (outer:List Env) (s:Shared) (H:Hp) (E:XK) (f:Addr) (G:Gm),Room k (A.deeper (PyProof.Rows.envOfC x (ae st) s.heap.objs.size f a))->G.pr=prM mask->RSs (qw CX0 P w K mg base N x (ae st) f a A outer s H E).nox G noX (aO st) m) :
  au P w K mg base x (k+1) ps (fnM mask nn m):=by
 refine D.callee n λf fd F=>F.ok S (λi H Q E h=>?_) λa A outer s H i Q E d h=>?_
 .obtain ⟨g,p,fs,rfl,_,_,j,_⟩:=h
  unfold fnM at j
  grind
 .have hle:mask.length<=nn:=by
   rw[c,<- b]
   have:=congrArg List.length S.pre
   rw[FP] at this
   omega
  obtain ⟨G,e,l⟩:=ub hle h
  subst b
  exact #[_,(body a A outer s H E f G d e).h,l]
theorem Ay {k:Nat} (c:au X.prog X.w X.K X.mg X.base x k ps F) (f:Room k X.A) (d:RA X G0 W0 (e::es) ms) (g:Gl X x) (a:(x == ("__debug__":Str))=false) (he:starEach (e::es) X.env=(false,eval e X.env)::starEach es X.env) (b:(backTo pos (starEach es X.env)).any (·.1)=false):RE X G0 W0 (.Call (.Name x p) (e::es) [] pos) (ak F ms) :=
 #[PE.imp (pe_fn c f d.h g a he b) λ_ _ _ h=>wA h]
def orD (f g:D->D->Option (D×Fl)) (a b:D):Option (D×Fl):=match f a b with
 | some p=>some p
 | none=>g a b
section
variable {K:FG} {H:Hp} {Ks:Addr->Prop} {d:D} {v:V} {L:List Addr} {X:Cx}
theorem cz (r:Rep K H d v []):New K H H Ks #[d,v,[],.z]:=#[Same.refl _,r,λ_ h=>(by cases h),λh=>absurd rfl h]
theorem pV (r:Rep K H d v L) (h:∀ c∈L,Ks c):New K H H Ks #[d,v,L,.z]:=#[Same.refl _,r,λc a=>.inr (h c a),λh=>absurd rfl h]
theorem Bi (a:H p=none) (r:Reps (Rep K H) ds vs L) (h:∀ c∈L,Ks c):New K H (upd H p (.lst vs)) Ks #[.lst ds,.ref p,p::L,.u]:=by
 have np:p ∉ L:=λd=>by obtain ⟨o,b⟩:=(r.inH p d).ex;rw[a] at b;exact nsE b
 refine #[bh a,.lst a8 (r.same (bh a)),λc d=>?_,λ_=>#[rfl,p,L,rfl,rfl,np,a]]
 grind
theorem u9 (a:H p=none) (r:Reps (Rep K H) ds vs L) (h:∀ c∈L,Ks c):New K H (upd H p (.tup vs)) Ks #[.tup ds,.ref p,L,.z] :=
 #[bh a,.tup a8 (r.same (bh a)),λc b=>.inr (h c b),λh=>absurd rfl h]
theorem jC (a:y∈ys) (h:Arg K H y) (hm:jE y.d=false):∀ c∈y.L,dR ys c:=λc b=>⟨y,a,b,λhf=>by
 have:=(h.own hf).1
 rw[hm] at this;cases this⟩
theorem oM (g:y∈ys) (h:Arg K H y) (d:y.v=.ref a) (b:y.L=a::L):∀ c∈L,dR ys c:=λc f=>⟨y,g,by rw[b];exact Ff _ f,λhf e=>by
 obtain ⟨_,j,L',v1,v2,i⟩:=h.own hf
 rw[d] at v1;cases v1
 rw[b] at v2;cases v2
 rw[d] at e;cases e
 exact i f⟩
theorem OpD.or (h:OpD K r f) (h':OpD K r' g):OpD K (λx y H Q=>r x y H Q\/r' x y H Q) (orD f g):=λa b H Q p ra rb e q=>by
 unfold orD at e
 cases c:f a.d b.d with
 | some p'=>rw[c] at e;cases e;exact .inl (h a b H Q _ ra rb c q)
 | none=>rw[c] at e;exact .inr (h' a b H Q p ra rb e q)
def fB (C:Int->Int->Bool) (g:Int->Int->D):D->D->Option (D×Fl)
 | .int i,.int j=>if C i j then #v[g i j] else none
 | _,_=>none
theorem jG (d:∀ i j,Cb i j=true->C i j) (f:∀ i j H,Rep K H (gd i j) (g i j) []):OpD K (rI C g) (fB Cb gd):=λa b H Q p ra rb e q=>by
 obtain ⟨da,o,r,n⟩:=a
 obtain ⟨db,h,m,l⟩:=b
 obtain ⟨ra,k⟩:=ra
 obtain ⟨rb,ob⟩:=rb
 dsimp only at ra rb
 cases da <;> try (exact nsE e)
 rename_i i
 obtain ⟨rfl,rfl⟩:=ra.view
 cases db <;> try (exact nsE e)
 rename_i j
 obtain ⟨rfl,rfl⟩:=rb.view
 have e:(if Cb i j then some (gd i j,Fl.z) else none)=some p:=e
 split at e
 .rename_i c
  cases e
  exact #[i,j,rfl,rfl,d i j c,q #[gd i j,g i j,[],.z] H (cz (f i j H)) rfl rfl]
 .exact nsE e
theorem rI_of:rI0 g=rI (λ_ _=>True) g:=by
 funext x y H Q
 unfold rI0 rI
 grind
theorem ig (a:∀ i j H,Rep K H (gd i j) (g i j) []):OpD K (rI0 g) (fB (λ_ _=>true) gd):=by
 rw[rI_of]
 exact jG (λ_ _ _=>trivial) a
abbrev qQ:Int->Int->Bool:=λ_ _=>true
abbrev addI:=fB qQ λi j=>.int (i+j)
abbrev cT:=fB qQ λi j=>.int (i - j)
abbrev dW:=fB (λi j=>decide ((-(2 ^ 64) < i/\i < 2 ^ 64)\/(-(2 ^ 64) < j/\j < 2 ^ 64))) λi j=>.int (i * j)
abbrev rF:=fB (λ_ j=>decide (0 < j)) λi j=>.int (i % j)
abbrev xF:=fB (λi j=>decide (0<=j/\j<=1000000/\i.natAbs < 2 ^ 64)) λi j=>.int (i ^ j.toNat)
abbrev ltI:=fB qQ λi j=>.bl (decide (i < j))
abbrev leI:=fB qQ λi j=>.bl (decide (i<=j))
abbrev gtI:=fB qQ λi j=>.bl (decide (j < i))
theorem od_addI:OpD K (rI0 λi j=>.int (i+j)) addI:=ig λi j _=>.int _
theorem A6:OpD K (rI0 λi j=>.int (i - j)) cT:=ig λi j _=>.int _
theorem A9:OpD K (rI CMul λi j=>.int (i * j)) dW:=jG (λi j h=>by simpa[CMul,wj,zA] using h) λi j _=>.int _
theorem Ba:OpD K (rI (λ_ j=>0 < j) λi j=>.int (i % j)) rF:=jG (λi j h=>by simpa[CMul,wj,zA] using h) λi j _=>.int _
theorem A8:OpD K (rI zA λi j=>.int (i ^ j.toNat)) xF:=jG (λi j h=>by simpa[CMul,wj,zA] using h) λi j _=>.int _
theorem xV:OpD K (rI0 λi j=>.bl (decide (i < j))) ltI:=ig λi j _=>.bl _
theorem tK:OpD K (rI0 λi j=>.bl (decide (i<=j))) leI:=ig λi j _=>.bl _
theorem od_gt:OpD K (rI0 λi j=>.bl (decide (j < i))) gtI:=ig λi j _=>.bl _
def EY:D->D->Option (D×Fl)
 | .tup xs,.tup ys=>if xs.length+ys.length<=16777216 then #v[.tup (xs++ys)] else none
 | _,_=>none
def E1:D->D->Option (D×Fl)
 | .lst xs,.lst ys=>if xs.length+ys.length<=16777216 then some (.lst (xs++ys),.u) else none
 | _,_=>none
def EZ:D->D->Option (D×Fl)
 | .str xs,.str ys=>if xs.length+ys.length<=16777216 then #v[.str (xs++ys)] else none
 | _,_=>none
theorem Reps.len (r:Reps (Rep K H) ds vs L):ds.length=vs.length:=by
 induction r with
 | nil=>rfl
 | cons _ _ ih=>simp[ih]
theorem Reps.append (r:Reps (Rep K H) ds vs L) (b:Reps (Rep K H) ds' vs' L'):Reps (Rep K H) (ds++ds') (vs++vs') (L++L'):=by
 induction r with
 | nil=>exact b
 | cons a _ ih=>rw[List.append_assoc];exact .cons a ih
theorem Reps.nil_iff (r:Reps (Rep K H) ds vs L):ds=[] ↔ vs=[]:=by cases r <;> simp
def ot (K:FG):R2:=λx y H Q=>∃ a b ys,x=.ref a/\y=.ref b/\SqT K H a []/\SqT K H b ys/\Q (.ref b) H
theorem xR:OpR X (binaryOp .Add) (ot X.K):=by
 intro pins s Y H x y v u Q I m r h
 obtain ⟨a,b,ys,rfl,rfl,t,z,q⟩:=h
 cases m
 cases r
 obtain ⟨its,p,A,_⟩:=I.tuple t
 obtain ⟨l,B,p2,_⟩:=I.tuple z
 have e:its=[]:=p.nil_iff.mpr rfl
 subst e
 obtain ⟨⟨cls,w,data,sl⟩,j,k,n,hd⟩:=id A
 obtain ⟨⟨i,g,data2,f⟩,c,d,o,hd2⟩:=id p2
 simp only at k hd d hd2
 subst k hd d hd2
 exact concat_meets #[_,j,rfl] #[_,c,rfl] noFill_tuple_add seq_tuple_add PySem.F.slot_tuple_add PySem.F.entry_tuple_add (PySem.F.args_tuple_add_2 _ _)
   (PyProof.Rows.tuple_addW0 a b _ _ n o w g sl f (by simp)) #[j,c,#[.ref b,H,I,rfl,q]]
theorem od_catT:OpD K (λx y H Q=>tv K x y H Q\/ot K x y H Q) EY:=λa b H Q p ra rb e q=>by
 obtain ⟨da,C,l,s⟩:=a
 obtain ⟨db,B,k,t⟩:=b
 obtain ⟨ra,r⟩:=ra
 obtain ⟨rb,ob⟩:=rb
 dsimp only at ra rb
 cases da <;> try (exact nsE e)
 rename_i xs
 obtain ⟨i,u,rfl,g,rs⟩:=ra.view
 cases db <;> try (exact nsE e)
 rename_i ys
 obtain ⟨f,ws,rfl,j,d⟩:=rb.view
 have e:(if xs.length+ys.length<=16777216 then some (D.tup (xs++ys),Fl.z) else none)=some p:=e
 split at e
 .rename_i A
  cases e
  by_cases n:u=[]
  .have o:=rs.nil_iff.mpr n
   subst n o
   refine .inr #[i,f,ws,rfl,rfl,SqT.of g,SqT.of j,?_]
   exact q #[.tup ys,.ref f,k,.z] H (pV (.tup j d) (jC (y:=#[.tup ys,.ref f,k,t]) (Ff _ (FT.mpr rfl)) #[.tup j d,ob] rfl)) rfl rfl
  .refine .inl #[i,f,u,ws,rfl,rfl,SqT.of g,SqT.of j,n,by rw[<- rs.len,<- d.len,<- szl];exact A,λhw=>?_,λhw p v=>?_]
   .have m:=d.nil_iff.mpr hw
    subst m
    refine q #[.tup (xs++[]),.ref i,l,.z] H (pV (by rw[List.append_nil];exact .tup g rs) (jC (y:=#[.tup xs,.ref i,l,s]) Fe #[.tup g rs,r] rfl)) rfl rfl
   .refine q #[.tup (xs++ys),.ref p,l++k,.z] _ (u9 v (rs.append d) λc w=>?_) rfl rfl
    rcases Fq.mp w with h | h
    .exact jC (y:=#[.tup xs,.ref i,l,s]) Fe #[.tup g rs,r] rfl c h
    .exact jC (y:=#[.tup ys,.ref f,k,t]) (Ff _ (FT.mpr rfl)) #[.tup j d,ob] rfl c h
 .exact nsE e
theorem Bf:OpD K AC E1:=λa b H Q p ra rb e q=>by
 obtain ⟨da,x,j,s⟩:=a
 obtain ⟨db,w,i,v⟩:=b
 obtain ⟨ra,m⟩:=ra
 obtain ⟨rb,ob⟩:=rb
 dsimp only at ra rb
 cases da <;> try (exact nsE e)
 rename_i xs
 obtain ⟨g,o,j,rfl,rfl,k,rs⟩:=ra.view
 cases db <;> try (exact nsE e)
 rename_i ys
 obtain ⟨f,ws,i,rfl,rfl,l,d⟩:=rb.view
 have e:(if xs.length+ys.length<=16777216 then some (D.lst (xs++ys),Fl.u) else none)=some p:=e
 split at e
 .rename_i t
  cases e
  refine #[g,f,o,ws,rfl,rfl,k,l,by rw[<- rs.len,<- d.len,<- szl];exact t,λp r=>?_]
  refine q #[.lst (xs++ys),.ref p,p::(j++i),.u] _ (Bi r (rs.append d) λc n=>?_) rfl rfl
  rcases Fq.mp n with h | h
  .exact oM (y:=#[.lst xs,.ref g,g::j,s]) Fe #[.lst k rs,m] rfl rfl c h
  .exact oM (y:=#[.lst ys,.ref f,f::i,v]) (Ff _ (FT.mpr rfl)) #[.lst l d,ob] rfl rfl c h
 .exact nsE e
theorem od_catS:OpD K (λx y H Q=>∃ i j,x=.str i/\y=.str j/\i.length+j.length<=sizeLine/\Q (.str (i++j)) H) EZ:=λa b H Q p ra rb e q=>by
 obtain ⟨da,k,l,h⟩:=a
 obtain ⟨db,d,g,m⟩:=b
 obtain ⟨ra,f⟩:=ra
 obtain ⟨rb,ob⟩:=rb
 dsimp only at ra rb
 cases da <;> try (exact nsE e)
 rename_i i
 obtain ⟨rfl,rfl⟩:=ra.view
 cases db <;> try (exact nsE e)
 rename_i j
 obtain ⟨rfl,rfl⟩:=rb.view
 have e:(if i.length+j.length<=16777216 then some (D.str (i++j),Fl.z) else none)=some p:=e
 split at e
 .rename_i c
  cases e
  exact #[i,j,rfl,rfl,by rw[<- szl];exact c,q #[.str (i++j),.str (i++j),[],.z] H (cz (.str _)) rfl rfl]
 .exact nsE e
abbrev bH:=orD addI (orD EZ (orD EY E1))
theorem En:OpD K (λx y H Q=>rI0 (λi j=>.int (i+j)) x y H Q\/((∃ i j,x=.str i/\y=.str j/\i.length+j.length<=sizeLine/\Q (.str (i++j)) H)\/((tv K x y H Q\/ot K x y H Q)\/AC x y H Q))) bH:=od_addI.or (od_catS.or (od_catT.or Bf))
theorem A4:OpR X (binaryOp .Add) (λx y H Q=>rI0 (λi j=>.int (i+j)) x y H Q\/((∃ i j,x=.str i/\y=.str j/\i.length+j.length<=sizeLine/\Q (.str (i++j)) H)\/((tv X.K x y H Q\/ot X.K x y H Q)\/AC x y H Q))):=op_add.or (op_add_str.or ((op_catT.or xR).or Eg))
def eqS:D->D->Option Bool
 | .non,.non=>some true | .non,.int _=>some false | .int _,.non=>some false | .non,.bl _=>some false | .bl _,.non=>some false | .non,.str _=>some false | .str _,.non=>some false
 | .int i,.int j=>some (decide (i=j)) | .bl i,.bl j=>some (decide (i=j)) | .str i,.str j=>some (decide (i=j))
 | .int _,.str _=>some false | .str _,.int _=>some false | .bl _,.str _=>some false | .str _,.bl _=>some false
 | _,_=>none
theorem yT (ra:Rep K H a u L) (rb:Rep K H b v L') (e:eqS a b=some k):C9 u v=true/\k=decide (u=v):=by
 cases a <;> cases b <;> first | exact nsE e | (obtain ⟨rfl,rfl⟩:=ra.view;obtain ⟨rfl,rfl⟩:=rb.view;cases e;exact #[rfl,by simp])
def yF:D->Bool
 | .non=>true
 | _=>false
def isN:D->D->Option (D×Fl)
 | a,.non=>#v[.bl (yF a)]
 | _,_=>none
theorem Rep.non_iff (ra:Rep K H a u L):yF a=decide (u=.non):=by cases ra <;> simp[yF]
theorem Em:OpD K (λx y H Q=>y=.non/\Q (.bl (decide (x=.non))) H) isN:=λa b H Q p ra rb e q=>by
 obtain ⟨db,c,d,f⟩:=b
 obtain ⟨rb,ob⟩:=rb
 dsimp only at rb
 cases db <;> try (exact nsE e)
 obtain ⟨rfl,rfl⟩:=rb.view
 unfold isN at e
 cases e
 refine #[rfl,?_]
 rw[<- ra.rep.non_iff]
 exact q #[_,_,[],.z] H (cz (.bl _)) rfl rfl
def lT:D->Option (D×Fl)
 | .int i=>#v[.int (-i)]
 | _=>none
theorem CD:UnD K (rU λi=>.int (-i)) lT:=λa H Q p ra e q=>by
 obtain ⟨da,d,f,c⟩:=a
 obtain ⟨ra,b⟩:=ra
 dsimp only at ra
 cases da <;> try (exact nsE e)
 obtain ⟨rfl,rfl⟩:=ra.view
 cases e
 exact #[_,rfl,q #[_,_,[],.z] H (cz (.int _)) rfl rfl]
theorem Reps.at:∀ {ds:List D} {b:List V} {L:List Addr} {i:Nat} {d:D},Reps (Rep K H) ds b L->ds[i]?=some d->∃ v L',b[i]?=some v/\Rep K H d v L'/\∀ c∈L',c∈L
 | _,_,_,_,_,.nil,h=>by simp at h
 | _,_,_,0,_,.cons r _,h=>by simp at h;subst h;exact #[_,_,rfl,r,λc a=>Fi _ a]
 | _,_,_,i+1,_,.cons _ t,h=>by
  obtain ⟨v,L',h1,h2,h3⟩:=Reps.at (i:=i) t (by simpa using h)
  exact #[v,L',by simpa using h1,h2,λc a=>Fj _ (h3 c a)]
theorem Reps.atI {i:Int} (r:Reps (Rep K H) ds vs L) (h:atI ds i=some d):∃ v L',atI vs i=some v/\Rep K H d v L'/\∀ c∈L',c∈L:=by
 unfold L2.atI at h ⊢
 rw[<- r.len]
 cases e:ixN ds.length i with
 | none=>rw[e] at h;exact nsE h
 | some j=>rw[e] at h;exact r.at h
def ixD:D->D->Option (D×Fl)
 | .lst xs,.int i=>(atI xs i).map λd=>(d,.z)
 | .fls xs,.int i=>(atI xs i).map λd=>(d,.z)
 | .tup xs,.int i=>(atI xs i).map λd=>(d,.z)
 | _,_=>none
theorem od_ix:OpD K (λx y H Q=>xv K x y H Q\/xu K x y H Q) ixD:=λa b H Q p ra rb e q=>by
 obtain ⟨da,t,l,m⟩:=a
 obtain ⟨db,s,o,r⟩:=b
 obtain ⟨rb,ob⟩:=rb
 have g:=ra
 obtain ⟨ra,n⟩:=ra
 dsimp only at ra rb
 cases da <;> try (exact nsE e)
 all_goals (cases db <;> try (exact nsE e))
 all_goals (rename_i xs i;obtain ⟨rfl,rfl⟩:=rb.view)
 .obtain ⟨f,k,rfl,h,rs⟩:=ra.view
  obtain ⟨d,h1,h2⟩:=Fh.mp (show (atI xs i).map (λd=>(d,Fl.z))=some p from e)
  subst h2
  obtain ⟨v,L',g1,g2,g3⟩:=rs.atI h1
  refine .inr #[f,k,i,v,rfl,rfl,SqT.of h,g1,q #[d,v,L',.z] H (pV g2 λc j=>?_) rfl rfl]
  exact jC (y:=#[.tup xs,.ref f,l,m]) Fe g rfl c (g3 c j)
 .obtain ⟨f,k,l,rfl,rfl,h,rs⟩:=ra.view
  obtain ⟨d,h1,h2⟩:=Fh.mp (show (atI xs i).map (λd=>(d,Fl.z))=some p from e)
  subst h2
  obtain ⟨v,L',g1,g2,g3⟩:=rs.atI h1
  refine .inl #[f,k,i,v,rfl,rfl,SqL.of h,g1,q #[d,v,L',.z] H (pV g2 λc j=>?_) rfl rfl]
  exact oM (y:=#[.lst xs,.ref f,f::l,m]) Fe g rfl rfl c (g3 c j)
 .obtain ⟨f,k,rfl,h,rs⟩:=ra.view
  obtain ⟨d,h1,h2⟩:=Fh.mp (show (atI xs i).map (λd=>(d,Fl.z))=some p from e)
  subst h2
  obtain ⟨v,L',g1,g2,g3⟩:=rs.atI h1
  refine .inl #[f,k,i,v,rfl,rfl,h.sq,g1,q #[d,v,L',.z] H (pV g2 λc j=>?_) rfl rfl]
  exact jC (y:=#[.fls xs,.ref f,l,m]) Fe g rfl c (g3 c j)
theorem ix_ok:IxR X (λx y H Q=>xv X.K x y H Q\/xu X.K x y H Q):=ix_list.or EB
end
section
variable {K:FG} {H:Hp} {Ks:Addr->Prop} {d:D} {v:V} {L:List Addr} {X:Cx}
def c1 (f:D->Option (D×Fl)):List D->Option (D×Fl)
 | [d]=>f d
 | _=>none
def c2 (f:D->D->Option (D×Fl)):List D->Option (D×Fl)
 | [d,d']=>f d d'
 | _=>none
theorem eD {ys:List It3} (e:c1 f (ys.map (·.d))=some p):∃ y,ys=[y]/\f y.d=some p:=by
 match ys,e with
 | [],e=>exact nsE e
 | [y],e=>exact #[y,rfl,e]
 | _::_::_,e=>exact nsE e
theorem sG {ys:List It3} (e:c2 f (ys.map (·.d))=some p):∃ y z,ys=[y,z]/\f y.d z.d=some p:=by
 match ys,e with
 | [],e=>exact nsE e
 | [_],e=>exact nsE e
 | [y,z],e=>exact #[y,z,rfl,e]
 | _::_::_::_,e=>exact nsE e
def rO:D->Option (D×Fl)
 | .lst xs=>#v[.int xs.length]
 | .fls xs=>#v[.int xs.length]
 | .tup xs=>#v[.int xs.length]
 | _=>none
abbrev bO:=c1 rO
theorem zc:cY K (λxs H Q=>∃ p ys,xs=[.ref p]/\(SqL K H p ys\/SqT K H p ys)/\Q (.int ys.length) H) bO:=λys H Q p ra e q=>by
 obtain ⟨y,rfl,f⟩:=eD e
 clear e
 have e:=f
 clear f
 have d:=(ra y Fe).rep
 obtain ⟨da,i,g,h⟩:=y
 dsimp only at d e
 cases da <;> try (exact nsE e)
 .rename_i xs
  obtain ⟨b,a,rfl,c,rs⟩:=d.view
  cases e
  exact #[b,a,rfl,.inr (SqT.of c),by rw[<- rs.len];exact q #[_,_,[],.z] H (cz (.int _)) rfl rfl]
 .rename_i xs
  obtain ⟨b,a,g,rfl,rfl,c,rs⟩:=d.view
  cases e
  exact #[b,a,rfl,.inl (SqL.of c),by rw[<- rs.len];exact q #[_,_,[],.z] H (cz (.int _)) rfl rfl]
 .rename_i xs
  obtain ⟨b,a,rfl,c,rs⟩:=d.view
  cases e
  exact #[b,a,rfl,.inl c.sq,by rw[<- rs.len];exact q #[_,_,[],.z] H (cz (.int _)) rfl rfl]
def tupQ:D->Option (D×Fl)
 | .lst xs=>#v[.tup xs]
 | .tup xs=>#v[.tup xs]
 | _=>none
abbrev ly:=c1 tupQ
theorem EU:cY K (λxs H Q=>∃ p ys,xs=[.ref p]/\((SqL K H p ys/\∀ l,H l=none->Q (.ref l) (upd H l (.tup ys)))\/(SqT K H p ys/\Q (.ref p) H))) ly:=λys H Q p ra e q=>by
 obtain ⟨y,rfl,h⟩:=eD e
 clear e
 have e:=h
 clear h
 have g:=ra y Fe
 have f:=g.rep
 obtain ⟨da,k,b,i⟩:=y
 dsimp only at f e
 cases da <;> try (exact nsE e)
 .rename_i xs
  obtain ⟨a,d,rfl,c,rs⟩:=f.view
  cases e
  exact #[a,d,rfl,.inr #[SqT.of c,q #[.tup xs,.ref a,b,.z] H (pV (.tup c rs) (jC (y:=#[.tup xs,.ref a,b,i]) Fe g rfl)) rfl rfl]]
 .rename_i xs
  obtain ⟨a,d,b,rfl,rfl,c,rs⟩:=f.view
  cases e
  exact #[a,d,rfl,.inl #[SqL.of c,λl j=>q #[.tup xs,.ref l,b,.z] _ (u9 j rs (oM (y:=#[.lst xs,.ref a,a::b,i]) Fe g rfl rfl)) rfl rfl]]
def absQ:D->Option (D×Fl)
 | .int i=>#v[.int (if i < 0 then -i else i)]
 | _=>none
abbrev absD:=c1 absQ
theorem Rep.int_inv {i:Int} (r:Rep K H (.int i) v L):v=.int i:=by cases r;rfl
theorem EX:cY K (λxs H Q=>∃ i,xs=[.int i]/\Q (.int (if i < 0 then -i else i)) H) absD:=λys H Q p ra e q=>by
 obtain ⟨y,rfl,a⟩:=eD e
 clear e
 have e:=a
 clear a
 have b:=(ra y Fe).rep
 obtain ⟨da,d,f,c⟩:=y
 dsimp only at b e
 cases b <;> try (exact nsE e)
 cases e
 exact #[_,rfl,q #[_,_,[],.z] H (cz (.int _)) rfl rfl]
def qj (C:Int->Int->Bool) (g:Int->Int->D):D->D->Option (D×Fl)
 | .int i,.int j=>if C i j then #v[g i j] else none
 | _,_=>none
theorem jZ (e:qj C g a b=some p):∃ i j,a=.int i/\b=.int j/\C i j=true/\p=(g i j,.z):=by
 cases a <;> cases b <;> try (exact nsE e)
 rename_i i j
 have e:(if C i j then some (g i j,Fl.z) else none)=some p:=e
 split at e
 .rename_i h;cases e;exact #[i,j,rfl,rfl,h,rfl]
 .exact nsE e
abbrev Ch:=c2 (qj qQ λi j=>.int (if j > i then j else i))
abbrev Cg:=c2 (qj qQ λi j=>.int (if j < i then j else i))
abbrev yW:=c2 (qj (λ_ j=>decide (0 < j/\j < 1073741824)) λi j=>.tup [.int (i / j),.int (i % j)])
theorem BK:cY K (λxs H Q=>∃ i j,xs=[.int i,.int j]/\Q (.int (if j > i then j else i)) H) Ch:=λys H Q p ra e q=>by
 obtain ⟨y,z,rfl,a⟩:=sG e
 clear e
 have e:=a
 clear a
 obtain ⟨i,j,d,f,_,rfl⟩:=jZ e
 have c:=(ra y Fe).rep
 have b:=(ra z (Ff _ Fe)).rep
 rw[d] at c
 rw[f] at b
 refine #[i,j,?_,q #[_,_,[],.z] H (cz (.int _)) rfl rfl]
 show [y.v,z.v]=_
 rw[c.int_inv,b.int_inv]
theorem BH:cY K (λxs H Q=>∃ i j,xs=[.int i,.int j]/\Q (.int (if j < i then j else i)) H) Cg:=λys H Q p ra e q=>by
 obtain ⟨y,z,rfl,a⟩:=sG e
 clear e
 have e:=a
 clear a
 obtain ⟨i,j,d,f,_,rfl⟩:=jZ e
 have c:=(ra y Fe).rep
 have b:=(ra z (Ff _ Fe)).rep
 rw[d] at c
 rw[f] at b
 refine #[i,j,?_,q #[_,_,[],.z] H (cz (.int _)) rfl rfl]
 show [y.v,z.v]=_
 rw[c.int_inv,b.int_inv]
theorem vK:cY K (λxs H Q=>∃ i j,xs=[.int i,.int j]/\wj i j/\∀ p,H p=none->Q (.ref p) (upd H p (.tup [.int (i / j),.int (i % j)]))) yW:=λys H Q p ra e q=>by
 obtain ⟨y,z,rfl,b⟩:=sG e
 clear e
 have e:=b
 clear b
 obtain ⟨i,j,h,k,a,rfl⟩:=jZ e
 have f:=(ra y Fe).rep
 have d:=(ra z (Ff _ Fe)).rep
 rw[h] at f
 rw[k] at d
 refine #[i,j,?_,by simpa[wj] using a,λp g=>q #[_,.ref p,[],.z] _ (u9 g (L:=[]) (.cons (L:=[]) (.int _) (.cons (L:=[]) (.int _) .nil)) λc a=>by cases a) rfl rfl]
 show [y.v,z.v]=_
 rw[f.int_inv,d.int_inv]
def iW:List D->Option (List Bool)
 | []=>some []
 | .bl b::ds=>(iW ds).map (b::·)
 | _=>none
theorem qJ:∀ {ds:List D} {bs:List Bool},iW ds=some bs->ds=bs.map D.bl
 | [],bs,e=>by cases e;rfl
 | d::ds,bs,e=>by
  cases d <;> try (exact nsE e)
  rename_i b
  obtain ⟨r,h1,h2⟩:=Fh.mp (show (iW ds).map (b::·)=some bs from e)
  subst h2
  rw[qJ h1];rfl
theorem Reps.bls:∀ {bs:List Bool} {a:List V} {L:List Addr},Reps (Rep K H) (bs.map D.bl) a L->a=bs.map V.bl
 | [],_,_,.nil=>rfl
 | b::bs,_,_,.cons r rs=>by
  rw[Reps.bls rs]
  cases r;rfl
def E7:D->Option (D×Fl)
 | .lst xs=>(iW xs).map λbs=>(.bl (bs.all id),.z)
 | _=>none
abbrev sK:=c1 E7
theorem EW:cY K (λxs H Q=>∃ (a:Addr) (bs:List Bool),xs=[.ref a]/\SqL K H a (bs.map V.bl)/\Q (.bl (bs.all id)) H) sK:=λys H Q p ra e q=>by
 obtain ⟨y,rfl,b⟩:=eD e
 clear e
 have e:=b
 clear b
 have c:=(ra y Fe).rep
 obtain ⟨da,j,g,i⟩:=y
 dsimp only at c e
 cases da <;> try (exact nsE e)
 rename_i xs
 obtain ⟨d,h,g,rfl,rfl,f,rs⟩:=c.view
 obtain ⟨bs,h1,h2⟩:=Fh.mp (show (iW xs).map (λbs=>(D.bl (bs.all id),Fl.z))=some p from e)
 subst h2
 have:=qJ h1
 subst this
 have:=rs.bls
 subst this
 exact #[d,bs,rfl,SqL.of f,q #[_,_,[],.z] H (cz (.bl _)) rfl rfl]
def j8 (xs:List D) (lo hi:Option Int):List D:=(xs.drop (HT.sIx xs.length 0 lo)).take (HT.sIx xs.length xs.length hi - HT.sIx xs.length 0 lo)
end
def B6:D->Option (List D)
 | .lst xs=>some xs
 | .fls xs=>some xs
 | .tup xs=>some xs
 | _=>none
def cP (m:EM):IM:=ac m λr=>ac (der r) λd=>aX ((B6 d).map λds=>([r],ds))
def iSeq (K:FG) (tl:TE):TI:=λY H R=>tl Y H λx H1=>(∃ a,x=.ref a/\(∃ xs,SqL K H1 a xs)/\R (Itl K a) H1)\/∃ a,x=.ref a/\(∃ xs,SqT K H1 a xs)/\R (Itt K a) H1
theorem DM (k:PE X l tl):PI X tg l (iSeq X.K tl):=by
 intro pins s Y H R I h
 exact thn (k pins s Y H _ I h) λv s1 #[x,H1,c,g,i]=>by
   rcases i with ⟨a,e,⟨xs,f⟩,q⟩ | ⟨a,e,⟨xs,f⟩,q⟩
   .subst e
    cases g
    obtain ⟨its,j,p,hz⟩:=c.list f
    refine wpAny_pyIter_list p.isList ?_
    refine #[s1.heap.objs.size,[s1.heap.objs.size],_,_,H1,rfl,c.kept (t':=s1.toks) λb o e=>Fg _ e,uH a _,#[_,Fs _ rfl,rfl,rfl],λb d=>?_,q]
    have e:b=s1.heap.objs.size:=by simpa using d
    subst e
    exact c.fpOk (FA _) (c.hok.fresh (FA _))
   .subst e
    cases g
    obtain ⟨its,j,p,hz⟩:=c.tuple f
    refine wpAny_pyIter_tuple (show s1.heap.IsTuple a its.toArray from p) ?_
    refine #[s1.heap.objs.size,[s1.heap.objs.size],_,_,H1,rfl,c.kept (t':=s1.toks) λb o e=>Fg _ e,qR a _,#[_,Fs _ rfl,rfl,rfl],λb d=>?_,q]
    have e:b=s1.heap.objs.size:=by simpa using d
    subst e
    exact c.fpOk (FA _) (c.hok.fresh (FA _))
section
variable {K:FG} {G G0:Gm} {W W0:D->Sto->Prop} {H H':Hp} {Y:St} {Z Z':Sto} {T T':List It3} {g:Nat->Option It3} {x y z:It3} {α β:Type} {X:Cx}
theorem Ar.item2 (w:Wf K G H Y Z (Ts++T) g) (a:Ar Y r v Ts) (e:der r Z=some (.ok d,Z)):∃ y,y.d=d/\y.v=v/\((∃ i,i∈pls [r]/\g i=some y)\/y∈Ts):=by
 cases a with
 | @pl i v h =>
  have j:der (.pl i) Z=((Z[i]?).join).map λp=>(.ok p.1,Z):=rfl
  rw[j] at e
  cases q:(Z[i]?).join with
  | none=>rw[q] at e;exact nsE e
  | some p =>
   rw[q] at e
   obtain ⟨y,e1,c,l,b⟩:=w.slot (d:=p.1) (f:=p.2) q
   have k:p.1=d:=by cases e;rfl
   rw[h] at b
   injection b with b
   injection b with b
   exact #[y,c.trans k,b.symm,.inl #[i,Fe,e1]]
 | val x=>cases e;exact #[x,rfl,rfl,.inr (by simp)]
theorem kW (k:Reps (Rep K H1) ds vs j) (q:∀ c∈j,dR [y] c) (t:∀ c∈j,c∈y.L) (f:∀ (M:Addr->Prop) (H':Hp),(∀ b,M b->MutAt H1 b)->(∀ b o,H1 b=some o->¬ M b->H' b=some o)->(∀ b∈y.L,¬ M b)->(∀ (i:Nat) (v:V),vs[i]?=some v->J.go i H'/\∀ x a,J.yld i H' x a->a=H'/\x=v)/\J.stop vs.length H'):Walk K J H1 [y] ds:=by
 obtain ⟨ws,h1,h2,h3⟩:=Reps.split k
 refine #[ws,λx g=>#[(h3 x g).1,(h3 x g).2.1,λc h=>q c ((h3 x g).2.2 c h)],λM H' hm e m=>?_]
 obtain ⟨go,stop⟩:=f M H' hm e (m y Fe)
 refine #[λi d hd=>?_,by rw[k.len];exact stop]
 have hi:∃ u,ws[i]?=some u/\u.d=d:=by
  grind
 obtain ⟨u,l,r⟩:=hi
 have p:vs[i]?=some u.v:=by rw[<- h2,Fz,l];rfl
 obtain ⟨g1,g2⟩:=go i u.v p
 refine #[g1,λx a s=>?_]
 obtain ⟨e1,n⟩:=g2 x a s
 subst e1 n
 have hu:=Fv l
 refine #[u,#[Same.refl _,(h3 u hu).2.1.keep e hm λb w=>m y Fe b (t b ((h3 u hu).2.2 b w)),λc h=>.inr #[u,hu,h],λhf=>absurd (h3 u hu).1 hf],r,(h3 u hu).1,rfl]
theorem m4 {y:It3} {a:Addr} {ds:List D} {c:List V} (k:∀ H',SqL K H' a c->True) (h:∀ (M:Addr->Prop) (H':Hp),(∀ b,M b->MutAt H b)->(∀ b o,H b=some o->¬ M b->H' b=some o)->(∀ b∈y.L,¬ M b)->SqL K H' a c) :
  ∀ (M:Addr->Prop) (H':Hp),(∀ b,M b->MutAt H b)->(∀ b o,H b=some o->¬ M b->H' b=some o)->(∀ b∈y.L,¬ M b)->(∀ (i:Nat) (v:V),c[i]?=some v->(Itl K a).go i H'/\∀ x d,(Itl K a).yld i H' x d->d=H'/\x=v)/\(Itl K a).stop c.length H':=λM H' hm j g=>by
 have sq:SqL K H' a c:=h M H' hm j g
 refine #[λi v e=>#[#[c,v,sq,e],λx d #[e1,f]=>#[e1,?_]],#[c,sq,FA _]]
 have:=f c sq
 rw[e] at this
 injection this with this
 exact this.symm
theorem CT (h:tI K G0 W0 (cP m) Y H R):iSeq K (tE K G0 W0 m) Y H R:=by
 obtain ⟨G,W,le,Z,T,g,o,Z',w,e,q⟩:=h
 have l:∀ x,o=.error x->W x Z':=λx O=>by subst O;exact q
 refine tE.seq le w e l λra Z1 e1 v H1 #[Ts,g1,B,a1]=>?_
 obtain ⟨d,Q,s⟩:=aH e1
 obtain ⟨p,E,rfl,rfl⟩:=bj s
 obtain ⟨ds,k,X⟩:=Fh.mp E
 subst X
 obtain ⟨y,P,V,L⟩:=a1.item2 B Q
 have S:Itm (Ts++T) g1 y:=by
  rcases L with ⟨i,_,τ⟩ | h
  .exact .inl #[i,τ]
  .exact .inr (Fi _ h)
 have I:=(B.itm S).arg
 have D:∀ J,Walk K J H1 [y] ds->R J H1:=λJ hw=>q J H1 [v] Ts g1 [y] B (by simpa using Ars.cons a1 .nil) (λz hz=>by rw[FT.mp hz];exact L) hw
 clear e1 s E q
 subst P V
 have f:=I
 obtain ⟨da,ρ,u,A⟩:=y
 obtain ⟨t,σ⟩:=I
 dsimp only at t k
 cases da with
 | tup xs =>
  obtain ⟨a,j,rfl,b,rs⟩:=t.view
  cases k
  refine .inr #[a,rfl,#[_,SqT.of b],D _ (kW rs (jC (y:=#[.tup ds,.ref a,u,A]) Fe f rfl) (λc r=>r) λM H' hm n C=>?_)]
  have sq:SqT K H' a j:=SqT.of (n a _ b λz=>(hm a z).notup b)
  refine #[λi v F=>#[#[j,v,sq,F],λx N #[e1,s]=>#[e1,?_]],#[j,sq,FA _]]
  have:=s j sq
  rw[F] at this
  injection this with this
  exact this.symm
 | lst xs =>
  obtain ⟨a,j,u,rfl,rfl,b,rs⟩:=t.view
  cases k
  refine .inl #[a,rfl,#[_,SqL.of b],D _ (kW rs (oM (y:=#[.lst ds,.ref a,a::u,A]) Fe f rfl rfl) (λc r=>Ff _ r) (m4 (ds:=ds) (λ_ _=>trivial) λM H' hm n C=>SqL.of (n a _ b (C a Fe))))]
 | fls xs =>
  obtain ⟨a,j,rfl,b,rs⟩:=t.view
  cases k
  refine .inl #[a,rfl,#[_,b.sq],D _ (kW rs (jC (y:=#[.fls ds,.ref a,u,A]) Fe f rfl) (λc r=>r) (m4 (ds:=ds) (λ_ _=>trivial) λM H' hm n C=>(b.keep n hm).sq))]
 | _=>exact nsE k
theorem Dn (h:RE X G0 W0 l m):RI X G0 W0 tg l (cP m):=#[PI.imp (DM h.h) λ_ _ _ h=>CT h]
def aS (lo:Int) (n:Nat):List D:=(List.range n).map λ(k:Nat)=>D.int (lo+(k:Int))
theorem pe {lo:Int} {n:Nat}:Walk K (Itr lo n) H1 ys (aS lo n):=by
 refine #[[],λx h=>(by cases h),λM H' _ _ _=>#[λi d hd=>?_,?_]]
 .unfold aS at hd
  rw[Fz] at hd
  obtain ⟨k,a,b⟩:=Fh.mp hd
  obtain ⟨c,e⟩:=Fu.mp a
  rw[List.getElem_range] at e
  subst e
  rw[List.length_range] at c
  refine #[c,λx g #[e1,f]=>?_]
  subst e1
  exact #[#[d,x,[],.z],cz (by rw[<- b,f];exact .int _),rfl,rfl,rfl]
 .show n<=(aS lo n).length
  unfold aS
  simp
def cj (j:Int):Bool:=decide (-(2 ^ 62)<=j/\j < 2 ^ 62)
def dO:List D->Option (List D)
 | [.int j]=>if cj j then some (aS 0 j.toNat) else none
 | _=>none
def dN:List D->Option (List D)
 | [.int i,.int j]=>if cj i && cj j then some (aS i (j - i).toNat) else none
 | _=>none
def aY (f:List D->Option (List D)) (ms:M3 (List R3)):IM:=ac ms λrs=>ac (dj rs) λds=>aX ((f ds).map λxs=>([],xs))
theorem zO (h:tI K G0 W0 (aY dO ms) Y H R):Cn (tA K G0 W0 ms) Y H R:=by
 obtain ⟨G,W,le,Z,T,g,o,Z',w,e,q⟩:=h
 have b:∀ x,o=.error x->W x Z':=λx i=>by subst i;exact q
 refine tA.seq le w e b λrs Z1 e1 u H1 Ts g1 k a1=>?_
 obtain ⟨ds,s,m⟩:=ba e1
 obtain ⟨p,n,rfl,rfl⟩:=bj m
 obtain ⟨xs,a,t⟩:=Fh.mp n
 subst t
 obtain ⟨ys,f,f1,f2⟩:=a1.items k (λx i=>Fi _ i) s
 subst f1 f2
 match ys,a,f,a1 with
 | [],a,_,_=>exact nsE a
 | y::z::r,a,_,_=>cases hd:y.d <;> (rw[FF,FF,hd] at a;exact nsE a)
 | [y],a,f,a1 =>
  have l:=(k.itm (f y Fe)).rep
  cases hd:y.d <;> (rw[FF,hd] at a;try (exact nsE a))
  rename_i j
  rw[hd] at l
  have a:(if cj j then some (aS 0 j.toNat) else none)=some xs:=a
  split at a
  .rename_i c
   cases a
   have c:=of_decide_eq_true c
   refine #[j,by show [y.v]=_;rw[l.int_inv],c.1,c.2,?_]
   exact q _ H1 [] [] g1 [] (k.sub (Fw Ts T)) .nil (λ_ h=>by cases h) pe
  .exact nsE a
theorem zN (h:tI K G0 W0 (aY dN ms) Y H R):Cm (tA K G0 W0 ms) Y H R:=by
 obtain ⟨G,W,le,Z,T,g,o,Z',w,e,q⟩:=h
 have b:∀ x,o=.error x->W x Z':=λx l=>by subst l;exact q
 refine tA.seq le w e b λrs Z1 e1 F H1 Ts g1 f a1=>?_
 obtain ⟨ds,C,t⟩:=ba e1
 obtain ⟨p,B,rfl,rfl⟩:=bj t
 obtain ⟨xs,A,E⟩:=Fh.mp B
 subst E
 obtain ⟨ys,c,f1,f2⟩:=a1.items f (λx l=>Fi _ l) C
 subst f1 f2
 have inv:∀ {ds:List D},dN ds=some xs->∃ i j,ds=[.int i,.int j]/\cj i=true/\cj j=true/\xs=aS i (j - i).toNat:=λ{ds} h=>by
  unfold dN at h
  split at h
  .rename_i i j
   split at h
   .rename_i m
    cases h
    simp only[Bool.and_eq_true] at m
    exact #[i,j,rfl,m.1,m.2,rfl]
   .exact nsE h
  .exact nsE h
 obtain ⟨i,j,a,hi,k,rfl⟩:=inv A
 match ys,a,c,a1 with
 | [],a,_,_=>cases a
 | [y],a,_,_=>exact absurd (congrArg List.length a) (by simp)
 | y::z::u::r,a,_,_=>exact absurd (congrArg List.length a) (by simp)
 | [y,z],a,c,a1 =>
  have n:=(f.itm (c y Fe)).rep
  have s:=(f.itm (c z (Ff _ Fe))).rep
  have h1:y.d=.int i:=by injection a
  have h2:z.d=.int j:=by injection a with _ h;injection h
  rw[h1] at n
  rw[h2] at s
  have hi:=of_decide_eq_true hi
  have k:=of_decide_eq_true k
  refine #[i,j,by show [y.v,z.v]=_;rw[n.int_inv,s.int_inv],#[hi.1,hi.2,k.1,k.2],?_]
  exact q _ H1 [] [] g1 [] (f.sub (Fw Ts T)) .nil (λ_ h=>by cases h) pe
theorem Ap (d:Gl X "range") (hm:X.mg "range"=none) (c:RA X G0 W0 [a] ms) (b:starEach [a] X.env=[(false,eval a X.env)]):RI X G0 W0 tg (.Call (.Name "range" p) [a] [] pos) (aY dO ms):=#[PI.imp (u3 d hm c.h b) λ_ _ _ h=>zO h]
theorem Ao (f:Gl X "range") (hm:X.mg "range"=none) (e:RA X G0 W0 [a,b] ms) (d:starEach [a,b] X.env=[(false,eval a X.env),(false,eval b X.env)]) (c:starEach [b] X.env=[(false,eval b X.env)]):RI X G0 W0 tg (.Call (.Name "range" p) [a,b] [] pos) (aY dN ms):=#[PI.imp (uZ f hm e.h d c) λ_ _ _ h=>zN h]
end
section
variable {K:FG} {G G0:Gm} {W W0:D->Sto->Prop} {H H':Hp} {Y:St} {Z Z':Sto} {T T':List It3} {g:Nat->Option It3} {x y z:It3} {α β:Type} {X:Cx} {L:List Addr}
def uQ (bnd:D->Sto->Option Sto) (m:EM):SM:=ac m λr=>ac (fh r) λp=>λZ=>(bnd p.1 Z).map λZ1=>(.ok .nx,Z1)
theorem CP (k:Bnd K G0.pr tg bnd) (h:tS K G0 W0 (uQ bnd m) E Y H):wB (tE K G0 W0 m) tg E Y H:=by
 refine h.use λG W le Z T g r Z' w e q=>?_
 refine tE.seq le w e q.err λra Z1 e1 v H1 #[Ts,g1,a,a1]=>?_
 obtain ⟨p,Z2,g2,x,b,i,f1,_,_,l⟩:=a1.take a e1
 have n:=Wf.lowT (Ts:=[x]) i
 obtain ⟨Z3,f,c⟩:=Fh.mp b
 cases c
 rw[<- l]
 exact k G H1 Y Z2 _ T g2 (di x) _ le.pr rfl n (by show bnd x.d Z2=_;rw[f1];exact f) λY2 g3 j=>q _ _ _ j
theorem Dm (d:RG X G0.pr tg bnd) (he:RE X G0 W0 e m) (c:swapsWithSole [tg] e pos.line X.env=pure false) (hw:swappedStores [tg] e X.env=pure none) (h1:(assignEach [tg] X.env).map (·.2)=[assign tg X.env]):RS X G0 W0 (.Assign [tg] e pos) (uQ bnd m):=by
 obtain ⟨g,a,b⟩:=d.h
 exact #[PS.imp (xE he.h a c hw h1) λ_ _ _ h=>CP b h]
theorem q5 {i:Nat} {y:Str} (m:X.N.Nodup) (g:X.N[i]?=some y) (f:Loc X.env.scope y) (NY:List Str) (ix:List (Option Nat)) (e:X.calm=true) (hi:RI X G0 W0 tg iter im) (l:∀ s H C fp,PTs (aN X NY scope s H C fp) ifs (tT X.K (bg ix) noX cm)) (he:∀ s H C fp,RE (aN X NY scope s H C fp) (bg ix) noX elt em) (n:il scope X.N X.env.scope NY ix=true) (b:Inj ix) (c:swapsWith (.ListComp elt [#[tg,iter,ifs,0]] scope pos) (some (.Name y py)) spos.line X.env=pure true) (hf:X.fn y=true\/X.env.scope.names.lookup y=some .local) (j:∀ x,foldedSetIterable iter X.env x=pure x) (k:G0.pr i=false) (d:∃ a,Bnd X.K (bg ix).pr a bnd/\∀ s H C fp,PG (aN X NY scope s H C fp) tg a):RS X G0 W0 (.Assign [.Name y py] (.ListComp elt [#[tg,iter,ifs,0]] scope pos) spos) (aZ i (bt im bnd cm em ix)):=by
 obtain ⟨a,b1,b2⟩:=d
 exact #[PS.imp (rh m g f NY ix e hi.h b2 l (λs H C fp=>(he s H C fp).h) n c hf j) λ_ _ _ h=>qU szl b b1 k h]
def isL:D->Bool
 | .lst _=>true
 | _=>false
theorem yG:∀ d v L H,isL d=true->Rep K H d v L->tyV K "list" v H:=λd v L H h r=>by
 cases r with
 | lst ha _=>exact .inl #[rfl,_,SqL.of ha]
 | _=>cases h
def BT:D->List D->Option (D×D)
 | .lst xs,[d]=>if xs.length < 16777216 then some (.lst (xs++[d]),.non) else none
 | _,_=>none
theorem Eu:MutD K tw BT:=λa d k as H Q p r m na ra j e q=>by
 cases d with
 | lst xs =>
  obtain ⟨_,g,_,e1,s,l,rs⟩:=r.view
  cases e1
  cases s
  match as,e,ra,j with
  | [],e,_,_=>exact nsE e
  | _::_::_,e,_,_=>exact nsE e
  | [y],e,ra,j =>
   have e:(if xs.length < 16777216 then some (D.lst (xs++[y.d]),D.non) else none)=some p:=e
   split at e
   .rename_i w
    cases e
    refine #[a,g,y.v,rfl,rfl,l,by rw[<- rs.len,<- szl];exact w,?_]
    have t:=ra y Fe
    have u:=j y Fe
    have ma:MutAt H a:=.inl #[_,l]
    have keep:∀ {d v L},Rep K H d v L->a ∉ L->Rep K (upd H a (.lst (g++[y.v]))) d v L:=λ{d v L} r n=>r.keep (M:=λb=>b=a) (λb o f h=>by rw[aD h];exact f) (λb e=>by rw[e];exact ma) λb f e=>n (by rw[<- e];exact f)
    have keeps:Reps (Rep K (upd H a (.lst (g++[y.v])))) xs g k:=rs.keep (M:=λb=>b=a) (λb o f h=>by rw[aD h];exact f) (λb e=>by rw[e];exact ma) λb f e=>na (by rw[<- e];exact f)
    exact q (.lst (g++[y.v])) (k++(y.L++[])) #[.non,.non,[],.z] (.lst a8 (keeps.append (.cons (keep t u) .nil))) rfl (λc i=>by
     rcases Fq.mp i with h | h
     .exact .inl h
     .rw[List.append_nil] at h;exact .inr #[y,Fe,h]) rfl rfl .non λc i=>by cases i
   .exact nsE e
 | _=>exact nsE e
def yR:D->List D->Option (D×D)
 | .lst xs,[.lst ys]=>if xs.length+ys.length<=16777216 then some (.lst (xs++ys),.non) else none
 | _,_=>none
theorem ext2 (a:D):yR (.lst xs) (a::b::r)=none:=by cases a <;> rfl
theorem Et:MutD K tj yR:=λa d w as H Q p r m na ra j e q=>by
 cases d with
 | lst xs =>
  obtain ⟨_,l,_,e1,v,t,rs⟩:=r.view
  cases e1
  cases v
  match as,e,ra,j with
  | [],e,_,_=>exact nsE e
  | y::_::_,e,_,_=>exact nsE ((ext2 y.d).symm.trans e)
  | [y],e,ra,j =>
   have s:=ra y Fe
   have u:=j y Fe
   obtain ⟨A,C,F,E⟩:=y
   dsimp only at s u e
   cases A with
   | lst ys =>
    obtain ⟨b,ws,x,rfl,rfl,i,g⟩:=s.view
    have e:(if xs.length+ys.length<=16777216 then some (D.lst (xs++ys),D.non) else none)=some p:=e
    split at e
    .rename_i B
     cases e
     refine #[a,b,l,ws,rfl,rfl,t,i,by rw[<- rs.len,<- g.len,<- szl];exact B,?_]
     have ma:MutAt H a:=.inl #[_,t]
     have keeps:∀ {ds f L},Reps (Rep K H) ds f L->a ∉ L->Reps (Rep K (upd H a (.lst (l++ws)))) ds f L:=λ{ds f L} r n=>r.keep (M:=λb=>b=a) (λb o i h=>by rw[aD h];exact i) (λb e=>by rw[e];exact ma) λb i e=>n (by rw[<- e];exact i)
     exact q (.lst (l++ws)) (w++x) #[.non,.non,[],.z] (.lst a8 ((keeps rs na).append (keeps g λh=>u (Ff _ h)))) rfl (λc k=>by
      rcases Fq.mp k with h | h
      .exact .inl h
      .exact .inr #[_,Fe,Ff _ h]) rfl rfl .non λc k=>by cases k
    .exact nsE e
   | _=>exact nsE e
 | _=>exact nsE e
def zY:D->List D->Option (D×D)
 | .lst xs,[.int i,d]=>(ixN xs.length i).map λj=>(.lst (xs.set j d),.non)
 | _,_=>none
theorem Reps.set:∀ {ds:List D} {b:List V} {L L':List Addr} {d:D} {v:V} (j:Nat),Reps (Rep K H) ds b L->Rep K H d v L'->∃ L2,Reps (Rep K H) (ds.set j d) (b.set j v) L2/\∀ c∈L2,c∈L\/c∈L'
 | _,_,_,_,_,_,j,.nil,_=>#[[],.nil,λc a=>by cases a]
 | _,_,_,L',_,_,0,.cons (L:=L1) (L':=L1') r rs,r'=>⟨L'++L1',.cons r' rs,λc a=>by
  rcases Fq.mp a with h | h
  .exact .inr h
  .exact .inl (Fj _ h)⟩
 | _,_,_,L',_,_,j+1,.cons (L:=L1) (L':=L1') r rs,r'=>by
  obtain ⟨L2,h1,h2⟩:=Reps.set j rs r'
  refine #[L1++L2,.cons r h1,λc a=>?_]
  rcases Fq.mp a with h | h
  .exact .inl (Fi _ h)
  .rcases h2 c h with h | h
   .exact .inl (Fj _ h)
   .exact .inr h
theorem set1 (a:D):zY (.lst xs) [a]=none:=by cases a <;> rfl
theorem set3' (a:D):zY (.lst xs) (a::b::c::r)=none:=by cases a <;> rfl
theorem Bo:MutD K (lL sZ) zY:=λa d x as H Q p r m na ra l e q=>by
 cases d with
 | lst xs =>
  obtain ⟨_,g,_,e1,w,u,rs⟩:=r.view
  cases e1
  cases w
  match as,e,ra,l with
  | [],e,_,_=>exact nsE e
  | [y],e,_,_=>exact nsE ((set1 y.d).symm.trans e)
  | y::_::_::_,e,_,_=>exact nsE ((set3' y.d).symm.trans e)
  | [k,y],e,ra,l =>
   have t:=ra k Fe
   have A:=ra y (Ff _ Fe)
   have C:=l y (Ff _ Fe)
   obtain ⟨kd,F,E,G⟩:=k
   dsimp only at t
   cases kd with
   | int i =>
    obtain ⟨rfl,rfl⟩:=t.view
    obtain ⟨j,h1,h2⟩:=Fh.mp (show (ixN xs.length i).map (λj=>(D.lst (xs.set j y.d),D.non))=some p from e)
    subst h2
    refine #[.int i,y.v,rfl,a,g,i,j,rfl,rfl,u,by rw[<- rs.len];exact h1,?_]
    have ma:MutAt H a:=.inl #[_,u]
    have s:Rep K (upd H a (.lst (g.set j y.v))) y.d y.v y.L:=A.keep (M:=λb=>b=a) (λb o f h=>by rw[aD h];exact f) (λb e=>by rw[e];exact ma) λb f e=>C (by rw[<- e];exact f)
    have keeps:Reps (Rep K (upd H a (.lst (g.set j y.v)))) xs g x:=rs.keep (M:=λb=>b=a) (λb o f h=>by rw[aD h];exact f) (λb e=>by rw[e];exact ma) λb f e=>na (by rw[<- e];exact f)
    obtain ⟨L2,h3,B⟩:=keeps.set j s
    exact q (.lst (g.set j y.v)) L2 #[.non,.non,[],.z] (.lst a8 h3) rfl (λc n=>(B c n).imp id λh=>#[y,Ff _ Fe,h]) rfl rfl .non λc n=>by cases n
   | _=>exact nsE e
 | _=>exact nsE e
theorem sY {i:Nat} {x:Str} {id:String} (l:PlainAttrs Ty) (slot:Slot Ty nm id) (j:typeOf (.builtin id)=pure (.type "method_descriptor")) (hm:MtR X id r) (k:MutD X.K r f) (hok:∀ d v L H,ok d=true->Rep X.K H d v L->tyV X.K Ty v H) (n:PE X (.Name x pn) (uM i)) (o:RA X G0 W0 (e::es) ms) (c:attributeBase (.Name x pn) nm X.env (eval (.Name x pn) X.env)=eval (.Name x pn) X.env) (g:((backTo cpos (starEach (e::es) X.env)).all (λx=>!x.1) && (backToKw cpos (keywordEach [] X.env)).all (λx=>x.1.isSome) && decide ((e::es).length+([]:List Keyword).length+(if ([]:List Keyword).isEmpty then 0 else 1) < 30))=true) (b:(apos.endLine == cpos.line)=true) (m:starEach (e::es) X.env=(false,eval e X.env)::starEach es X.env) (a:(backTo cpos (starEach es X.env)).any (·.1)=false):RE X G0 W0 (.Call (.Attribute (.Name x pn) nm apos) (e::es) [] cpos) (vm ok f i ms) :=
 #[PE.imp (pe_bm l slot j hm n o.h c g b m a) λ_ _ _ h=>CZ k hok h]
theorem xc {i:Nat} {x:Str} (c:zw X t) (l:MutD X.K (lL t) f) (g:PE X (.Name x pn) (uM i)) (m:RE X G0 W0 k mk) (d:RE X G0 W0 e mv) (j:∀ v,assign (.Subscript (.Name x pn) k p2) X.env v=(do
   let a <- holding [v] (eval (.Name x pn) X.env)
   let b <- holding [v,a] (eval k X.env)
   standAt p2
   holding [v,a,b] (setItem a b v)
   release [v,a,b] [])) (h1:swapsWithSole [.Subscript (.Name x pn) k p2] e pos.line X.env=pure false) (h2:swappedStores [.Subscript (.Name x pn) k p2] e X.env=pure none) (h3:(assignEach [.Subscript (.Name x pn) k p2] X.env).map (·.2)=[assign (.Subscript (.Name x pn) k p2) X.env]):RS X G0 W0 (.Assign [.Subscript (.Name x pn) k p2] e pos) (oh f i mk mv) :=
 #[PS.imp (xE d.h (DN g m.h c j) h1 h2 h3) λ_ _ _ h=>CI l h]
end
section
variable {K:FG} {G G0:Gm} {W W0:D->Sto->Prop} {H H':Hp} {Y:St} {Z Z':Sto} {T T':List It3} {g:Nat->Option It3} {x y z:It3} {α β:Type} {X:Cx} {L:List Addr}
theorem xj:PTs σ [] (tT K (bg ix) noX cW):=λpins s Y H Q I h=>AI pins s Y H Q I (CF h)
theorem xi (h:RT σ (bg ix) noX c m):PTs σ [c] (tT σ.K (bg ix) noX m):=AH h.h
theorem yH (h:(ix.filterMap id).Nodup):Inj ix:=by
 intro j k i a b
 induction ix generalizing j k with
 | nil=>simp at a
 | cons o ix ih =>
  grind
def oi:SM:=λ_=>none
theorem xh:RS X G0 W0 st oi:=⟨PS.imp xD λ_ _ _ h=>by
 refine h.use λG W le Z T g r Z' w e q=>?_
 cases e⟩
theorem wz (ho:OpD K r f) (A:OpD K r' f') (h:tE K G0 W0 (jW f f' ma mb mc) Y H Q):qV r r' (tE K G0 W0 ma) (tE K G0 W0 mb) (tE K G0 W0 mc) Y H Q:=by
 refine h.use λG W le Z T g o Z' w e q=>?_
 refine tE.seq le w e q.err λra Z1 e1 va H1 #[Ts,g1,w1,a1]=>?_
 refine tE.seq le w1 e1 q.err λrb Z2 X vb H2 #[Us,g2,j,a2]=>?_
 obtain ⟨da,σ,e3⟩:=aH X
 obtain ⟨db,d2,e4⟩:=aH e3
 obtain ⟨k,e5,n⟩:=iG e4
 obtain ⟨S,N,f1,f2⟩:=a1.item j (λx b=>Fj _ (Fi _ b)) σ
 obtain ⟨V,O,f3,f4⟩:=a2.item j (λx b=>Fi _ b) d2
 obtain ⟨p,I,ρ⟩:=FR.mp e5
 have hp:=zq ρ
 subst f1 f2 f4
 rw[<- f3] at I
 refine ho S V H2 _ p (j.itm N).arg (j.itm O).arg I λu H3 L ud uf=>?_
 have w3:=j.push L λc h=>j.kids (ys:=[S,V]) (λy d=>by
  rcases Fm.mp d with h | d
  .rw[h];exact N
  .rw[FT.mp d];exact O) h
 have E:=L.rep
 rw[ud,hp] at E
 refine #[k,E.bl_eq.1,?_]
 have J:=w3.sub (List.sublist_cons_self u _)
 cases k with
 | false =>
  cases n
  have i:=J.sub (T':=T) ((Fw Ts T).trans (Fw Us _))
  exact q _ _ (i.const (.bl false))
 | true =>
  simp only[if_true] at n ⊢
  refine tE.seq le J n q.err λrc Z5 e9 vc H5 #[m,P,i,a5]=>?_
  obtain ⟨z,d3,t⟩:=aH e9
  obtain ⟨dc,d4,C⟩:=aH t
  obtain ⟨p',a,rfl,rfl⟩:=bj C
  obtain ⟨l,R,f5,f6⟩:=a2.item i (λx b=>Fj _ (Fi _ b)) d3
  obtain ⟨F,M,f7,f8⟩:=a5.item i (λx b=>Fi _ b) d4
  cases D:f' z dc with
  | none=>rw[D] at a;exact nsE a
  | some s =>
   rw[D] at a
   cases a
   have τ:=i
   rw[show m++(Us++(Ts++T))=(m++(Us++Ts))++T by simp] at τ
   have B:Itm ((m++(Us++Ts))++T) P l:=by simpa using R
   have v:Itm ((m++(Us++Ts))++T) P F:=by simpa using M
   rw[<- f6,<- f8]
   refine A l F H5 Q s (i.itm R).arg (i.itm M).arg (by rw[f5,f7];exact D) (nQ τ (λy d=>?_) q)
   rcases Fm.mp d with h | d
   .rw[h];exact B
   .rw[FT.mp d];exact v
theorem pJ (k:OpR X (compareOp op) r) (hd:OpD X.K r f) (e:OpR X (compareOp op') r') (d:OpD X.K r' f') (g:RE X G0 W0 a ma) (i:RE X G0 W0 b mb) (j:RE X G0 W0 c mc) (h:PE X a (tE X.K G0 W0 ma)->PE X b (tE X.K G0 W0 mb)->PE X c (tE X.K G0 W0 mc)->PE X (.Compare a [op,op'] [b,c] pos) (qV r r' (tE X.K G0 W0 ma) (tE X.K G0 W0 mb) (tE X.K G0 W0 mc))):RE X G0 W0 (.Compare a [op,op'] [b,c] pos) (jW f f' ma mb mc):=#[PE.imp (h g.h i.h j.h) λ_ _ _ h=>wz hd d h]
theorem i5 (c:OpR X (compareOp op) r) (hd:OpD X.K r f) (d:RE X G0 W0 a ma) (e:RE X G0 W0 b mb) (hm:behindInMarks op b=false):RT X G0 W0 (.Compare a [op] [b] pos) (cB (af f ma mb)):=#[PT.imp (AJ c d.h e.h hm) λ_ _ _ h=>lA hd (tT_b h)]
def ik (n:Nat):List D->List D
 | []=>[]
 | d::ds=>.tup [.int n,d]::ik (n+1) ds
theorem j7:∀ {ds:List D} {n i:Nat},(ik n ds)[i]?=(ds[i]?).map λd=>.tup [.int ((n+i:Nat):Int),d]
 | [],n,i=>by simp[ik]
 | d::ds,n,0=>by simp[ik]
 | d::ds,n,i+1=>by
  show (ik (n+1) ds)[i]?=_
  rw[j7]
  simp only[List.getElem?_cons_succ]
  rw[show n+1+i=n+(i+1) by lia]
theorem j6:∀ {ds:List D} {n:Nat},(ik n ds).length=ds.length
 | [],_=>rfl
 | d::ds,n=>by simp[ik,j6]
def rX (ms:M3 (List R3)):IM:=ac ms λrs=>ac (dj rs) λds=>aX (match ds with
 | [.lst xs]=>some (rs,ik 0 xs)
 | _=>none)
theorem zQ (h:tI K G0 W0 (rX ms) Y H R):Cp K (tA K G0 W0 ms) Y H R:=by
 obtain ⟨G,W,le,Z,T,g,o,Z',w,e,q⟩:=h
 have t:∀ x,o=.error x->W x Z':=λx m=>by subst m;exact q
 refine tA.seq le w e t λrs Z1 e1 l H1 Ts g1 F a1=>?_
 obtain ⟨ds,j,A⟩:=ba e1
 obtain ⟨p,s,rfl,rfl⟩:=bj A
 have inv:∃ xs,ds=[.lst xs]/\p=(rs,ik 0 xs):=by
  split at s
  .cases s;exact #[_,rfl,rfl]
  .exact nsE s
 obtain ⟨xs,rfl,rfl⟩:=inv
 match rs,j,a1,q with
 | [],j,_,_=>cases j
 | r::r'::rs,j,_,_ =>
  obtain ⟨_,_,f⟩:=aH (k:=λd=>ac (dj (r'::rs)) λds=>aT (d::ds)) j
  obtain ⟨az,e6,e7⟩:=ba f
  obtain ⟨_,_,e8⟩:=aH (k:=λd=>ac (dj rs) λds=>aT (d::ds)) e6
  obtain ⟨a3,_,e9⟩:=ba e8
  cases e9
  cases e7
 | [r],j,a1,q =>
  obtain ⟨d,C,f⟩:=aH (k:=λd=>ac (dj []) λds=>aT (d::ds)) j
  have hd:d=.lst xs:=by
   have f:some ((.ok [d],Z'):Except D (List D)×Sto)=some (.ok [.lst xs],Z'):=f
   cases f;rfl
  subst hd
  cases a1 with
  | @cons _ v Ts1 _ vs1 Us1 a as =>
   cases as with
   | nil =>
    obtain ⟨y,S,y2,V⟩:=Ar.item2 (T:=T) (by simpa using F) a C
    have hy:Itm (([]++Ts1)++T) g1 y:=by
     rcases V with ⟨i,_,ei⟩ | h
     .exact .inl #[i,ei]
     .exact .inr (by simpa using Fi T h)
    have N:=(F.itm hy).arg
    have qq:∀ J,Walk K J H1 [y] (ik 0 xs)->R J H1:=λJ hw=>q J H1 [v] ([]++Ts1) g1 [y] F (.cons a .nil) (λz hz=>by
     rw[FT.mp hz]
     rcases V with h | h
     .exact .inl h
     .exact .inr (by simpa using h)) hw
    clear q
    subst y2
    have E:=N
    obtain ⟨yd,ρ,yL,yf⟩:=y
    obtain ⟨Q,oo⟩:=N
    dsimp only at Q S
    subst S
    cases Q with
    | @lst _ pa l La ha rs =>
     refine #[pa,rfl,#[_,SqL.of ha],qq _ ?_]
     obtain ⟨ws,h1,h2,h3⟩:=Reps.split rs
     refine #[ws,λx m=>#[(h3 x m).1,(h3 x m).2.1,λc B=>oM (y:=#[.lst xs,.ref pa,pa::La,yf]) Fe E rfl rfl c ((h3 x m).2.2 c B)],λM H' hm τ X=>?_]
     have sq:SqL K H' pa l:=SqL.of (τ pa _ ha (X _ Fe pa Fe))
     refine #[λi d hd=>?_,by rw[j6];exact #[l,sq,by rw[<- rs.len];exact FA _]]
     rw[j7] at hd
     obtain ⟨O,n,rfl⟩:=Fh.mp hd
     have hw:∃ u,ws[i]?=some u/\u.d=O:=by
      rw[<- h1,Fz] at n
      obtain ⟨u,a,b⟩:=Fh.mp n
      exact #[u,a,b]
     obtain ⟨u,I,ud⟩:=hw
     have P:l[i]?=some u.v:=by rw[<- h2,Fz,I];rfl
     have hu:=Fv I
     refine #[#[l,u.v,sq,P],λx a0 #[Tt,ρ,e1,A,s,C]=>?_]
     have f:=C l sq
     rw[P] at f
     cases f
     subst e1 s
     have σ:Rep K H' u.d u.v u.L:=(h3 u hu).2.1.keep τ hm λb hb=>X _ Fe b (Ff _ ((h3 u hu).2.2 b hb))
     refine #[#[.tup [.int ((0+i:Nat):Int),O],.ref Tt,[]++(u.L++[]),.z],u9 A (.cons (L:=[]) (by rw[FK];exact .int _) (.cons (by rw[<- ud];exact σ) .nil)) (λc B=>#[u,hu,by simpa using B]),rfl,rfl,rfl]
theorem As {k:Nat} (d:Gl X "enumerate") (hm:X.mg "enumerate"=none) (c:RA X G0 W0 [a] ms) (b:starEach [a] X.env=[(false,eval a X.env)]):RI X G0 W0 (.Tuple elts k tp) (.Call (.Name "enumerate" p) [a] [] pos) (rX ms):=#[PI.imp (AT d hm c.h b) λ_ _ _ h=>zQ h]
end
end L3
namespace L3
theorem AN {i:Nat} (h:mask.length<=i):prM mask i=false:=by
 unfold prM
 rw[List.getElem?_eq_none h]
end L3
end
section
namespace L3
open PySem L2
structure Bl (mg:Str->Option Value):Prop where
 len:mg "len"=none
 range:mg "range"=none
 abs:mg "abs"=none
 divmod:mg "divmod"=none
 enumerate:mg "enumerate"=none
 tuple:mg "tuple"=none
 isinstance:mg "isinstance"=none
 int:mg "int"=none
 bool:mg "bool"=none
 all:mg "all"=none
 str:mg "str"=none
 max:mg "max"=none
 min:mg "min"=none
 list:mg "list"=none
 dict:mg "dict"=none
 repr:mg "repr"=none
 sorted:mg "sorted"=none
 set:mg "set"=none
 zip:mg "zip"=none
 reversed:mg "reversed"=none
theorem Cw:bootBuiltins "len"=some (.builtin "len"):=by decide +kernel
theorem b_abs:bootBuiltins "abs"=some (.builtin "abs"):=by decide +kernel
theorem zn:bootBuiltins "divmod"=some (.builtin "divmod"):=by decide +kernel
theorem uy:bootBuiltins "tuple"=some (.type "tuple"):=by decide +kernel
theorem o8:bootBuiltins "isinstance"=some (.builtin "isinstance"):=by decide +kernel
theorem Cy:bootBuiltins "int"=some (.type "int"):=by decide +kernel
theorem E3:bootBuiltins "bool"=some (.type "bool"):=by decide +kernel
theorem b_all:bootBuiltins "all"=some (.builtin "all"):=by decide +kernel
theorem zm:bootBuiltins "max"=some (.builtin "max"):=by decide +kernel
theorem zk:bootBuiltins "min"=some (.builtin "min"):=by decide +kernel
theorem zo:bootBuiltins "dict"=some (.type "dict"):=by decide +kernel
theorem zj:bootBuiltins "sorted"=some (.builtin "sorted"):=by decide +kernel
section
variable {K:FG} {G G0:Gm} {W W0:D->Sto->Prop} {H H':Hp} {Y:St} {Z Z':Sto} {T T':List It3} {g:Nat->Option It3} {x y z:It3} {α β:Type} {X:Cx} {L:List Addr}
theorem sP (h:tE K G0 W0 m Y H Q) (f:∀ v H,Q v H->Q' v H):tE K G0 W0 m Y H Q':=by
 refine h.use λG W le Z T g o Z' w e q=>?_
 refine tE.mk le w e ?_
 cases o with
 | ok r=>exact λv H' g=>f v H' (q v H' g)
 | error x=>exact q
def Cj:D->Option String
 | .non=>some "NoneType" | .bl _=>some "bool" | .int _=>some "int" | .str _=>some "str"
 | .tup _=>some "tuple" | .lst _=>some "list" | .fls _=>some "list" | .dk _=>some "dict" | .dt _=>some "dict" | .exc _ _=>none
def rS (t:String) (d:D):Option (D×Fl):=(Cj d).map λk=>(.bl (oO k t),.z)
theorem Rep.kind (r:Rep K H d v L) (e:Cj d=some k):KindOf K H v k:=by
 cases r with
 | non=>cases e;exact .non
 | bl b=>cases e;exact .bool b
 | int i=>cases e;exact .int i
 | str s=>cases e;exact .str s
 | tup h _=>cases e;exact .tuple (SqT.of h)
 | lst h _=>cases e;exact .list (SqL.of h)
 | lstF h _=>cases e;exact .list h.sq
 | dK h _ _=>cases e;exact .dK h
 | dT h _ _=>cases e;exact .dT h
 | exc _ _=>cases e
 | excV _ _ _ _ _ _ _ _=>cases e
theorem oq (f:CallR X (.builtin "isinstance") (λxs H Q=>∃ x k,xs=[x,.ty t]/\KindOf X.K H x k/\Q (.bl (oO k t)) H)) (l:Gl X "isinstance") (hm:X.mg "isinstance"=none) (g:PE X (.Name tn pT) (tC (.ty t))) (i:RE X G0 W0 a ma) (b:starEach [a,.Name tn pT] X.env=(false,eval a X.env)::starEach [.Name tn pT] X.env) (c:starEach [.Name tn pT] X.env=(false,eval (.Name tn pT) X.env)::starEach [] X.env) (d:(backTo pos (starEach [.Name tn pT] X.env)).any (·.1)=false):RE X G0 W0 (.Call (.Name "isinstance" p) [a,.Name tn pT] [] pos) (mUn (rS t) ma) :=
 ⟨PE.imp (lP f l hm o8 (k8 i.h (k8 g rp c) b) (by decide) (by decide) b d) λY H Q h=>by
  have h:=B0 (r:=λx H Q=>∃ k,KindOf X.K H x k/\Q (.bl (oO k t)) H) (λa H Q p ra e q=>by
   obtain ⟨k,h1,h2⟩:=Fh.mp e
   subst h2
   exact #[k,ra.rep.kind h1,q #[.bl (oO k t),.bl (oO k t),[],.z] H (cz (.bl _)) rfl rfl]) h
  refine sP h λx H1 #[k,j,q]=>?_
  exact ⟨x,k,rfl,j,q⟩⟩
def yD:D->Option Key
 | .int i=>some (.inl i)
 | .str s=>some (.inr s)
 | _=>none
def fc:List D->Option (List Key)
 | []=>some []
 | d::ds=>match yD d,fc ds with
  | some k,some ks=>some (k::ks)
  | _,_=>none
theorem vw (r:Rep K H d v L) (e:yD d=some k):v=kV k:=by
 cases r <;> cases e <;> rfl
theorem ib:∀ {ds:List D} {a:List V} {L:List Addr} {ks:List Key},Reps (Rep K H) ds a L->fc ds=some ks->a=ks.map kV
 | _,_,_,ks,.nil,e=>by cases e;rfl
 | _,_,_,ks,.cons (d:=d) (ds:=ds) r rs,e=>by
  unfold fc at e
  cases h1:yD d with
  | none=>rw[h1] at e;exact nsE e
  | some k =>
   cases h2:fc ds with
   | none=>rw[h1,h2] at e;exact nsE e
   | some ks' =>
    rw[h1,h2] at e
    cases e
    rw[vw r h1,ib rs h2];rfl
def cV (kvs:List (List Key×D)) (k:List Key):Option D:=(kvs.find? λa=>decide (a.1=k)).map (·.2)
def ee (kvs:List (List Key×D)) (k:List Key) (v:D):List (List Key×D) :=
 if (kvs.any λa=>decide (a.1=k))=true then kvs.map (λa=>if a.1=k then (a.1,v) else a) else kvs++[(k,v)]
theorem qo:∀ {kvs:List (List Key×D)} {ps:List (List Key×V)} {L:List Addr} {k:List Key} {d:D},kvs.map (·.1)=ps.map (·.1)->Reps (Rep K H) (kvs.map (·.2)) (ps.map (·.2)) L->cV kvs k=some d->∃ v L',kH ps k=some v/\Rep K H d v L'/\∀ c∈L',c∈L
 | [],ps,L,k,d,hk,r,e=>by cases e
 | f::kvs,[],L,k,d,hk,r,e=>by cases hk
 | f::kvs,p::ps,L,k,d,hk,r,e=>by
  have b:f.1=p.1/\kvs.map (·.1)=ps.map (·.1):=by simpa using hk
  generalize i:(f::kvs).map (·.2)=xs at r
  generalize j:(p::ps).map (·.2)=ys at r
  cases r with
  | nil=>cases i
  | cons a as =>
   cases i
   cases j
   unfold cV at e
   rw[List.find?_cons] at e
   by_cases h:f.1=k
   .rw[FH h] at e
    cases e
    exact #[_,_,je (b.1.symm.trans h),a,λc g=>Fi _ g]
   .rw[FI h] at e
    obtain ⟨v,L',h1,h2,h3⟩:=qo b.2 as e
    exact #[v,L',by rw[jf (λz=>h (b.1.trans z))];exact h1,h2,λc g=>Fj _ (h3 c g)]
def t9:D->D->Option (D×Fl)
 | .dt kvs,.tup ks=>match fc ks with
  | some k=>(cV kvs k).map λd=>(d,.z)
  | none=>none
 | _,_=>none
def tu:R2:=λx y H Q=>∃ a v,x=.ref a/\DGet H a y (some v)/\Q v H
theorem Bd:OpD K tu t9:=λa b H Q p ra rb e q=>by
 obtain ⟨da,B,C,j⟩:=a
 obtain ⟨db,A,w,x⟩:=b
 have f:=ra
 obtain ⟨ra,u⟩:=ra
 obtain ⟨rb,ob⟩:=rb
 dsimp only at ra rb e
 cases da with
 | dt kvs =>
  obtain ⟨h,ps,i,rfl,rfl,⟨n,l⟩,m,rs⟩:=ra.view
  cases db with
  | tup ks =>
   obtain ⟨s,ws,rfl,r,g⟩:=rb.view
   have e:(match fc ks with | some k=>(cV kvs k).map λd=>(d,Fl.z) | none=>none)=some p:=e
   cases h1:fc ks with
   | none=>rw[h1] at e;exact nsE e
   | some k =>
    rw[h1] at e
    obtain ⟨d,h2,h3⟩:=Fh.mp (show (cV kvs k).map (λd=>(d,Fl.z))=some p from e)
    subst h3
    have hw:=ib g h1
    subst hw
    obtain ⟨v,L',g1,g2,g3⟩:=qo m rs h2
    refine #[h,v,rfl,by rw[<- g1];exact DGet.t l r,q #[d,v,L',.z] H (pV g2 λc o=>?_) rfl rfl]
    exact oM (y:=#[.dt kvs,.ref h,h::i,j]) Fe f rfl rfl c (g3 c o)
  | _=>exact nsE e
 | _=>exact nsE e
open PySem.Spec PyProof.Rows in
theorem BB (hu:X.A.units+1 < cLine):IxR X tu:=by
 intro value slice pins s Y H x y v u Q I f j h i
 obtain ⟨a,w,rfl,g,q⟩:=h
 cases f
 have c:=qv I g
 unfold subscriptTail
 refine Fb ?_
 rw[getitemInPython_of_ne c.not_modules]
 refine Fb (wpAny_specialOf c PySem.F.slot_dict_getitem.lookup ?_)
 have fin:wpAny (model X.prog X.w) X.A (subscripted slice false (.ref a) u) (λr e=>wpAny (model X.prog X.w) X.A (letTemporaryGo value (.ref a) r >>= λ_=>pure r) (EP X pins Y Q) X.xe e) X.xe s:=by
  rw[i]
  exact wpAny_operating (vH hu I g j λk s3 d b=>Fb (wpAny_letTemporaryGo (Fc #[w,H,d,b,q])))
 first
  | exact Fc (Fb fin)
  | exact Fb (Fc (Fb fin))
  | exact Fb fin
abbrev aw:=orD ixD t9
theorem Ej:OpD K (λx y H Q=>(xv K x y H Q\/xu K x y H Q)\/tu x y H Q) aw:=od_ix.or Bd
theorem EC (hu:X.A.units+1 < cLine):IxR X (λx y H Q=>(xv X.K x y H Q\/xu X.K x y H Q)\/tu x y H Q):=ix_ok.or (BB hu)
def oK:EM:=aT (.val (.dt []) .u)
theorem xp:RE X G0 W0 (.Dict [] [] pos) oK:=⟨PE.imp xL λY H Q h=>by
 refine h.use λG W le Z T g o Z' w e q=>?_
 cases e
 intro p a
 refine q _ _ (Wf.done (Us:=[]) (ys:=[]) (x:=#[.dt [],.ref p,[p],.u]) w (λ_ h=>(by cases h)) #[bh a,.dT a8 rfl .nil,λc b=>?_,λ_=>#[rfl,p,[],rfl,rfl,(by simp),a]])
 rw[FT.mp b];exact .inl a⟩
def tz:D->List D->Option (D×D)
 | .dt kvs,[.tup ks,v]=>match fc ks with
  | some k=>if kvs.length < 16777216 then some (.dt (ee kvs k v),.non) else none
  | none=>none
 | _,_=>none
def s9:E9:=λo i v H Q=>∃ a H',o=.ref a/\DPut H a i v H'/\Q H'
theorem wI (hu:X.A.units+1 < cLine):zw X s9:=by
 intro pins s Y H o i v j f u Q I b d c h
 obtain ⟨a,H',rfl,g,q⟩:=h
 cases b
 exact vG hu I g d c λs' e=>#[H',e,q]
theorem pN:∀ {kvs:List (List Key×D)} {ps:List (List Key×V)} {L L':List Addr} {k:List Key} {d:D} {v:V},kvs.map (·.1)=ps.map (·.1)->Reps (Rep K H) (kvs.map (·.2)) (ps.map (·.2)) L->Rep K H d v L' ->
  ∃ L2,Reps (Rep K H) ((kvs.map λb=>if b.1=k then (b.1,d) else b).map (·.2)) ((ps.map λb=>if b.1=k then (b.1,v) else b).map (·.2)) L2/\(∀ c∈L2,c∈L\/c∈L')
 | [],[],L,L',k,d,v,hk,r,rd=>#[[],.nil,λc f=>by cases f]
 | [],_::_,_,_,_,_,_,hk,_,_=>by cases hk
 | _::_,[],_,_,_,_,_,hk,_,_=>by cases hk
 | b::kvs,p::ps,L,L',k,d,v,hk,r,rd=>by
  have e:b.1=p.1/\kvs.map (·.1)=ps.map (·.1):=by simpa using hk
  generalize g:(b::kvs).map (·.2)=xs at r
  generalize i:(p::ps).map (·.2)=ys at r
  cases r with
  | nil=>cases g
  | @cons _ _ L1 _ _ L1' a as =>
   cases g
   cases i
   obtain ⟨L2,h1,h2⟩:=pN (k:=k) e.2 as rd
   by_cases h:b.1=k
   .refine #[L'++L2,?_,λc f=>?_]
    .simp only[FF,if_pos h,if_pos (e.1.symm.trans h)]
     exact .cons rd h1
    .rcases Fq.mp f with z | z
     .exact .inr z
     .rcases h2 c z with y | y
      .exact .inl (Fj _ y)
      .exact .inr y
   .refine #[L1++L2,?_,λc f=>?_]
    .simp only[FF,if_neg h,if_neg (λz=>h (e.1.trans z))]
     exact .cons a h1
    .rcases Fq.mp f with z | z
     .exact .inl (Fi _ z)
     .rcases h2 c z with y | y
      .exact .inl (Fj _ y)
      .exact .inr y
theorem zr {kvs:List (List Key×D)} {ps:List (List Key×V)} (b:kvs.map (·.1)=ps.map (·.1)):(kvs.any λa=>decide (a.1=k))=ps.any λa=>decide (a.1=k):=by
 have h1:(kvs.any λa=>decide (a.1=k))=(kvs.map (·.1)).any λx=>decide (x=k):=by rw[List.any_map];rfl
 have h2:(ps.any λa=>decide (a.1=k))=(ps.map (·.1)).any λx=>decide (x=k):=by rw[List.any_map];rfl
 rw[h1,h2,b]
theorem p7 {kvs:List (List Key×α)} {d:α}:(kvs.map λa=>if a.1=k then (a.1,d) else a).map (·.1)=kvs.map (·.1):=by
 rw[F4]
 refine F5 λa _=>?_
 show (if a.1=k then (a.1,d) else a).1=a.1
 split <;> rfl
theorem put1 (a:D):tz (.dt kvs) [a]=none:=by cases a <;> rfl
theorem put3' (a:D):tz (.dt kvs) (a::b::c::r)=none:=by cases a <;> rfl
theorem Bp:MutD K (lL s9) tz:=λa d s as H Q p r m na ra w e q=>by
 cases d with
 | dt kvs =>
  obtain ⟨_,ps,_,e1,B,⟨n,A⟩,i,rs⟩:=r.view
  cases e1
  cases B
  match as,e,ra,w with
  | [],e,_,_=>exact nsE e
  | [y],e,_,_=>exact nsE ((put1 y.d).symm.trans e)
  | y::_::_::_,e,_,_=>exact nsE ((put3' y.d).symm.trans e)
  | [k,y],e,ra,w =>
   have x:=ra k Fe
   have E:=ra y (Ff _ Fe)
   have F:=w y (Ff _ Fe)
   obtain ⟨kd,J,I,N⟩:=k
   dsimp only at x
   cases kd with
   | tup ks =>
    obtain ⟨C,ws,rfl,f,u⟩:=x.view
    have e:(match fc ks with | some k=>if kvs.length < 16777216 then some (D.dt (ee kvs k y.d),D.non) else none | none=>none)=some p:=e
    cases h1:fc ks with
    | none=>rw[h1] at e;exact nsE e
    | some key =>
     rw[h1] at e
     dsimp only at e
     split at e
     .rename_i G
      cases e
      have hw:=ib u h1
      subst hw
      have hlen:kvs.length=ps.length:=by have:=congrArg List.length i;simpa using this
      refine #[.ref C,y.v,rfl,a,_,rfl,DPut.t A f (by rw[<- hlen,<- szl];exact G),?_]
      have ma:MutAt H a:=.inr (.inr #[_,_,A])
      have g:Rep K (upd H a (.dT (fQ ps key y.v) n)) y.d y.v y.L:=E.keep (M:=λb=>b=a) (λb o f h=>by rw[aD h];exact f) (λb e=>by rw[e];exact ma) λb f e=>F (by rw[<- e];exact f)
      have keeps:Reps (Rep K (upd H a (.dT (fQ ps key y.v) n))) (kvs.map (·.2)) (ps.map (·.2)) s:=rs.keep (M:=λb=>b=a) (λb o f h=>by rw[aD h];exact f) (λb e=>by rw[e];exact ma) λb f e=>na (by rw[<- e];exact f)
      have fin:∃ l,Reps (Rep K (upd H a (.dT (fQ ps key y.v) n))) ((ee kvs key y.d).map (·.2)) ((fQ ps key y.v).map (·.2)) l/\(∀ c∈l,c∈s\/c∈y.L)/\(ee kvs key y.d).map (·.1)=(fQ ps key y.v).map (·.1):=by
       generalize upd H a (HO.dT (fQ ps key y.v) n)=H2 at keeps g ⊢
       unfold ee fQ
       rw[zr i]
       split
       .obtain ⟨L2,g1,g2⟩:=pN (k:=key) i keeps g
        exact #[L2,g1,g2,by rw[p7,p7];exact i]
       .refine #[s++(y.L++[]),?_,λc j=>?_,by rw[List.map_append,List.map_append,i];rfl]
        .rw[List.map_append,List.map_append]
         exact keeps.append (.cons g .nil)
        .rcases Fq.mp j with z | z
         .exact .inl z
         .rw[List.append_nil] at z;exact .inr z
      obtain ⟨l,g1,g2,g3⟩:=fin
      exact q (.dT (fQ ps key y.v) n) l #[.non,.non,[],.z] (.dT a8 g3 g1) rfl (λc j=>(g2 c j).imp id λh=>#[y,Ff _ Fe,h]) rfl rfl .non λc j=>by cases j
     .exact nsE e
   | _=>exact nsE e
 | _=>exact nsE e
def DY (f g:D->List D->Option (D×D)) (a:D) (b:List D):Option (D×D):=match f a b with
 | some p=>some p
 | none=>g a b
theorem MutD.or {f g:D->List D->Option (D×D)} (h:MutD K r f) (h':MutD K r' g):MutD K (λx y H Q=>r x y H Q\/r' x y H Q) (DY f g):=λa d c as H Q p r m na ra i e q=>by
 unfold DY at e
 cases b:f d (as.map (·.d)) with
 | some p'=>rw[b] at e;cases e;exact .inl (h a d c as H Q _ r m na ra i b q)
 | none=>rw[b] at e;exact .inr (h' a d c as H Q p r m na ra i e q)
abbrev n9:=DY zY tz
theorem ye:MutD K (lL λo i v H Q=>sZ o i v H Q\/s9 o i v H Q) n9:=λa d b as H Q p r m na ra c e q=>by
 rcases MutD.or Bo Bp a d b as H Q p r m na ra c e q with ⟨k,v,h1,h2⟩ | ⟨k,v,h1,h2⟩
 .exact #[k,v,h1,.inl h2]
 .exact #[k,v,h1,.inr h2]
theorem sR (hu:X.A.units+1 < cLine):zw X (λo i v H Q=>sZ o i v H Q\/s9 o i v H Q):=by
 intro pins s Y H o i v c b u Q I a e d h
 rcases h with h | h
 .exact wH pins s Y H o i v c b u Q I a e d h
 .exact wI hu pins s Y H o i v c b u Q I a e d h
end
section
open PySem.Spec PyProof.Rows HT
variable {prog:Program} {w:World} {A:Around} {E:Value->Shared->Prop} {s:Shared}
theorem iN {lo hi:Option Int} (a:IsTup s.heap t items) (e:s.heap.IsSliceOf sl vl vu .none) (pl:IsPart vl lo) (pu:IsPart vu hi) (hw:sIx items.size 0 lo=0/\sIx items.size items.size hi=items.size) (h:Q (.ref t) s) (hsz:items.size<=sizeLine):wpAny (model prog w) A (getItem (.ref t) (.ref sl)) Q E s:=by
 obtain ⟨os,b,c,f⟩:=id e
 have d:s.TypeIs (.ref sl) "slice":=#[os,b,c]
 unfold getItem
 try with_reducible refine Fd ?_
 first | refine Fb (Fc ?_) | skip
 refine Fb (wpAny_sequenceKey a.typeIs (by decide) ?_)
 refine Fb (wpAny_callSpecial?_slot (name:=Str.ofString "__getitem__") a.typeIs PyProof.Rows.slot_tuple_getitem
  (wpAny_call_entry PyProof.Rows.slot_tuple_getitem a.typeIs entry_tuple_getitem ?_ (args_tuple_getitem _ _)))
 show wpAny _ _ (Builtin.Tuple.tupleItemsOf (.ref t) >>= _) _ _ s
 refine Fb (tupleItemsOf_ a ?_)
 refine Fb (wpAny_typeOf d ?_)
 rw[if_pos (by decide)]
 refine Fb (fj e pl pu ?_)
 show wpAny _ _ (if (((sIx items.size 0 lo:Nat):Int) == 0 && (1:Int) == 1 && (sIx items.size items.size hi - sIx items.size 0 lo) == items.size)=true then _ else _) _ _ s
 rw[if_pos (by simp[hw.1,hw.2])]
 refine Fb ?_
 unfold Builtin.Tuple.tupleIsExact
 refine Fb (wpAny_typeOf a.typeIs ?_)
 refine Fc ?_
 rw[if_pos (by decide)]
 exact Fb (wpAny_rule (Fc #[_,rfl,Fc h]))
end
section
variable {K:FG} {G G0:Gm} {W W0:D->Sto->Prop} {H H':Hp} {Y:St} {Z Z':Sto} {T T':List It3} {g:Nat->Option It3} {x y z:It3} {α β:Type} {X:Cx} {L:List Addr}
def xt (K:FG):V->Option Int->Option Int->Hp->VK->Prop:=λx lo hi H Q=>∃ a xs,x=.ref a/\SqT K H a xs/\(HT.sIx xs.length 0 lo=0/\HT.sIx xs.length xs.length hi=xs.length)/\Q (.ref a) H
theorem zW:SlR X (xt X.K):=by
 intro pins s Y H x v vl f lo hi sl Q I c e pl pu h
 obtain ⟨a,xs,rfl,d,hw,q⟩:=h
 cases c
 obtain ⟨its,r,b,hz⟩:=I.tuple d
 have hlen:its.toArray.size=xs.length:=by rw[FE];exact r.length.symm
 refine #["tuple",_,PyProof.Rows.slot_tuple_getitem.lookup,b.typeIs,?_]
 exact iN b e pl pu (by rw[hlen];exact hw) #[.ref a,H,I,rfl,q] (by rw[hlen];exact hz)
def asI:D->Option Int
 | .int i=>some i
 | _=>none
def pQ:M3 (Option Int):=aT none
def iQ (m:EM):M3 (Option Int):=ac m λr=>ac (der r) λd=>aX ((asI d).map some)
def EndP (K:FG) (G:Gm) (W:D->Sto->Prop) (Y:St) (T:List It3) (Z':Sto) (Q:Option Int->Hp->Prop):Except D (Option Int)->Prop
 | .ok b=>∀ H' g',Wf K G H' Y Z' T g'->Q b H'
 | .error e=>W e Z'
def tP (K:FG) (G0:Gm) (W0:D->Sto->Prop) (m:M3 (Option Int)):TO:=λY H Q=>∃ G W,Le K G W G0 W0/\∃ Z T g r Z',Wf K G H Y Z T g/\m Z=some (r,Z')/\EndP K G W Y T Z' Q r
structure RP (X:Cx) (G0:Gm) (W0:D->Sto->Prop) (e:Option Expr) (m:M3 (Option Int)):Prop where
 h:PO X e (tP X.K G0 W0 m)
theorem PO.imp (h:PO X e t) (f:∀ Y H Q,t' Y H Q->t Y H Q):PO X e t':=λpins s Y H Q I q=>h pins s Y H Q I (f Y H Q q)
theorem Aj:RP X G0 W0 none pQ:=⟨PO.imp AQ λY H Q h=>by
 obtain ⟨G,W,le,Z,T,g,r,Z',w,e,q⟩:=h
 cases e
 exact q _ _ w⟩
theorem Ai (h:RE X G0 W0 e m):RP X G0 W0 (some e) (iQ m):=⟨PO.imp (AO h.h) λY H Q h=>by
 obtain ⟨G,W,le,Z,T,g,r,Z',w,e,q⟩:=h
 have a:∀ x,r=.error x->W x Z':=λx b=>by subst b;exact q
 refine tE.seq le w e a λra Z1 e1 v H1 #[Ts,g1,f,a1]=>?_
 obtain ⟨d,p,j⟩:=aH e1
 obtain ⟨o,l,rfl,rfl⟩:=bj j
 obtain ⟨i,k,s⟩:=Fh.mp l
 subst s
 obtain ⟨y,n,f1,f2⟩:=a1.item f (λx b=>Fi _ b) p
 have c:=(f.itm n).rep
 rw[f1] at c
 have hd:d=.int i:=by cases d <;> cases k;rfl
 rw[hd] at c
 refine ⟨i,by rw[<- f2];exact c.int_inv,q _ _ (f.sub (Fw Ts T))⟩⟩
def mSl (f:D->Option Int->Option Int->Option (D×Fl)) (ma:EM) (pl pu:M3 (Option Int)):EM:=ac ma λra=>ac pl λlo=>ac pu λhi=>ac (der ra) λd=>aX ((f d lo hi).map λp=>R3.val p.1 p.2)
def SlD (K:FG) (r:V->Option Int->Option Int->Hp->VK->Prop) (f:D->Option Int->Option Int->Option (D×Fl)):Prop:=∀ (a:It3) (lo hi:Option Int) (H:Hp) (Q:VK) (p:D×Fl),Arg K H a->f a.d lo hi=some p ->
 (∀ w H',New K H H' (dR [a]) w->w.d=p.1->w.f=p.2->Q w.v H')->r a.v lo hi H Q
theorem tP.seq (le:Le K G W G0 W0) (w:Wf K G H Y Z T g) (e:ac ma k Z=some (r,Z')) (he:∀ x,r=.error x->W x Z') (h:∀ b Z1,k b Z1=some (r,Z')->∀ H1 g1,Wf K G H1 Y Z1 T g1->P b H1):tP K G0 W0 ma Y H P:=by
 unfold ac at e
 cases q:ma Z with
 | none=>rw[q] at e;exact nsE e
 | some p =>
  obtain ⟨o,Z1⟩:=p
  rw[q] at e
  cases o with
  | error x=>cases e;exact #[G,W,le,Z,T,g,.error x,Z',w,q,he x rfl]
  | ok ra=>exact #[G,W,le,Z,T,g,.ok ra,Z1,w,q,h ra Z1 e]
theorem tE_sl (hd:SlD K r f) (h:tE K G0 W0 (mSl f ma pl pu) Y H Q):tSl r (tE K G0 W0 ma) (tP K G0 W0 pl) (tP K G0 W0 pu) Y H Q:=by
 refine h.use λG W le Z T g o Z' w e q=>?_
 refine tE.seq le w e q.err λra Z1 e1 A H1 #[Ts,g1,u,a1]=>?_
 refine tP.seq le u e1 q.err λlo Z2 j H2 g2 v=>?_
 refine tP.seq le v j q.err λhi Z3 l m g3 b=>?_
 obtain ⟨d,t,k⟩:=aH l
 obtain ⟨p,a,rfl,rfl⟩:=bj k
 obtain ⟨y,i,f1,f2⟩:=a1.item b (λx n=>Fi _ n) t
 subst f1 f2
 cases c:f y.d lo hi with
 | none=>rw[c] at a;exact nsE a
 | some s =>
  rw[c] at a
  cases a
  exact hd y lo hi m Q s (b.itm i).arg c (nQ b (λz hz=>by rw[FT.mp hz];exact i) q)
theorem Reps.take:∀ {ds:List D} {b:List V} {L:List Addr} (n:Nat),Reps (Rep K H) ds b L->∃ L',Reps (Rep K H) (ds.take n) (b.take n) L'/\∀ c∈L',c∈L
 | _,_,_,0,_=>#[[],by simpa using Reps.nil,λc a=>by cases a]
 | _,_,_,n+1,.nil=>#[[],by simpa using Reps.nil,λc a=>by cases a]
 | _,_,_,n+1,.cons (L:=L1) r rs=>by
  obtain ⟨L',h1,h2⟩:=Reps.take n rs
  exact ⟨L1++L',by simpa using Reps.cons r h1,λc a=>by
   rcases Fq.mp a with h | h
   .exact Fi _ h
   .exact Fj _ (h2 c h)⟩
theorem Reps.drop:∀ {ds:List D} {b:List V} {L:List Addr} (n:Nat),Reps (Rep K H) ds b L->∃ L',Reps (Rep K H) (ds.drop n) (b.drop n) L'/\∀ c∈L',c∈L
 | _,_,L,0,r=>#[L,by simpa using r,λc a=>a]
 | _,_,_,n+1,.nil=>#[[],by simpa using Reps.nil,λc a=>by cases a]
 | _,_,_,n+1,.cons r rs=>by
  obtain ⟨L',h1,h2⟩:=Reps.drop n rs
  exact #[L',by simpa using h1,λc a=>Fj _ (h2 c a)]
theorem Reps.cut (lo hi:Option Int) (r:Reps (Rep K H) ds vs L):∃ L',Reps (Rep K H) (j8 ds lo hi) (qx vs lo hi) L'/\∀ c∈L',c∈L:=by
 unfold j8 qx
 rw[<- r.len]
 obtain ⟨d,h1,h2⟩:=r.drop (HT.sIx ds.length 0 lo)
 obtain ⟨L2,h3,b⟩:=h1.take (HT.sIx ds.length ds.length hi - HT.sIx ds.length 0 lo)
 exact #[L2,h3,λc a=>h2 c (b c a)]
def slD:D->Option Int->Option Int->Option (D×Fl)
 | .lst xs,lo,hi=>some (.lst (j8 xs lo hi),.u)
 | .fls xs,lo,hi=>some (.lst (j8 xs lo hi),.u)
 | .tup xs,lo,hi=>#v[.tup (j8 xs lo hi)]
 | _,_,_=>none
theorem sd_sl:SlD K (λx lo hi H Q=>DB K x lo hi H Q\/(DA K x lo hi H Q\/xt K x lo hi H Q)) slD:=λa lo hi H Q p ra e q=>by
 obtain ⟨da,n,k,j⟩:=a
 have f:=ra
 obtain ⟨ra,m⟩:=ra
 dsimp only at ra e
 cases da with
 | lst xs =>
  obtain ⟨b,d,l,rfl,rfl,h,rs⟩:=ra.view
  cases e
  obtain ⟨L',h1,h2⟩:=rs.cut lo hi
  exact .inl #[b,d,rfl,SqL.of h,λp i=>q #[_,.ref p,p::L',.u] _ (Bi i h1 λc g=>oM (y:=#[.lst xs,.ref b,b::l,j]) Fe f rfl rfl c (h2 c g)) rfl rfl]
 | fls xs =>
  obtain ⟨b,d,rfl,h,rs⟩:=ra.view
  cases e
  obtain ⟨L',h1,h2⟩:=rs.cut lo hi
  exact .inl #[b,d,rfl,h.sq,λp i=>q #[_,.ref p,p::L',.u] _ (Bi i h1 λc g=>jC (y:=#[.fls xs,.ref b,k,j]) Fe f rfl c (h2 c g)) rfl rfl]
 | tup xs =>
  obtain ⟨b,d,rfl,h,rs⟩:=ra.view
  cases e
  by_cases hw:HT.sIx d.length 0 lo=0/\HT.sIx d.length d.length hi=d.length
  .have g:j8 xs lo hi=xs:=by
    unfold j8
    rw[rs.len,hw.1,hw.2,<- rs.len]
    simp
   rw[g] at q
   exact .inr (.inr #[b,d,rfl,SqT.of h,hw,q #[.tup xs,.ref b,k,.z] H (pV (.tup h rs) (jC (y:=#[.tup xs,.ref b,k,j]) Fe f rfl)) rfl rfl])
  .obtain ⟨L',h1,h2⟩:=rs.cut lo hi
   exact .inr (.inl #[b,d,rfl,SqT.of h,hw,λp i=>q #[_,.ref p,L',.z] _ (u9 i h1 λc g=>jC (y:=#[.tup xs,.ref b,k,j]) Fe f rfl c (h2 c g)) rfl rfl])
 | _=>exact nsE e
theorem C5:SlR X (λx lo hi H Q=>DB X.K x lo hi H Q\/(DA X.K x lo hi H Q\/xt X.K x lo hi H Q)):=sl_list.or (sl_tup.or zW)
theorem xo (he:RE X G0 W0 e m) (a:RP X G0 W0 lo pl) (hu:RP X G0 W0 hi pu):RE X G0 W0 (.Subscript e (.Slice lo hi none p2) pos) (mSl slD m pl pu):=#[PE.imp (xJ C5 he.h a.h hu.h) λ_ _ _ h=>tE_sl sd_sl h]
end
mutual
def pyD:D->Option PyData
 | .non=>some .none
 | .bl b=>some (.bool b)
 | .int i=>some (.int i)
 | .str x=>some (.str x)
 | .tup xs=>(pM xs).map .tuple
 | .lst xs=>(pM xs).map .list
 | .fls xs=>(pM xs).map .list
 | .dk _=>none
 | .dt _=>none
 | .exc _ _=>none
def pM:List D->Option (List PyData)
 | []=>some []
 | d::ds=>match pyD d,pM ds with
  | some p,some ps=>some (p::ps)
  | _,_=>none
end
section
variable {K:FG} {H:Hp} {Ks:Addr->Prop} {d:D} {v:V} {L:List Addr} {X:Cx}
theorem Rep.dv (r:Rep K H d v L):∀ p,pyD d=some p->DV K H v p:=by
 refine Rep.rec (motive_1:=λd v _ _=>∀ p,pyD d=some p->DV K H v p) (motive_2:=λds b _ _=>∀ ps,pM ds=some ps->DVs K H b ps) ?_ ?_ ?_ ?_ ?_ ?_ ?_ ?_ ?_ ?_ ?_ ?_ ?_ r
 .intro p e;unfold pyD at e;cases e;exact .non
 .intro _ p e;unfold pyD at e;cases e;exact .bl _
 .intro _ p e;unfold pyD at e;cases e;exact .int _
 .intro _ p e;unfold pyD at e;cases e;exact .str _
 .intro xs a b L h _ c p e
  unfold pyD at e
  obtain ⟨ps,e1,rfl⟩:=Fh.mp e
  exact .tup (SqT.of h) (c ps e1)
 .intro xs a b L h _ c p e
  unfold pyD at e
  obtain ⟨ps,e1,rfl⟩:=Fh.mp e
  exact .lst (SqL.of h) (c ps e1)
 .intro xs a b L h _ c p e
  unfold pyD at e
  obtain ⟨ps,e1,rfl⟩:=Fh.mp e
  exact .lst h.sq (c ps e1)
 .intro _ _ _ _ _ _ _ _ p e;unfold pyD at e;exact nsE e
 .intro _ _ _ _ _ _ _ _ _ p e;unfold pyD at e;exact nsE e
 .intros;rename_i e;unfold pyD at e;exact nsE e
 .intros;rename_i e;unfold pyD at e;exact nsE e
 .intro ps e;unfold pM at e;cases e;exact .nil
 .intro d v L ds b L' _ _ f g ps e
  unfold pM at e
  cases h1:pyD d with
  | none=>rw[h1] at e;exact nsE e
  | some p =>
   cases h2:pM ds with
   | none=>rw[h1,h2] at e;exact nsE e
   | some qs=>rw[h1,h2] at e;cases e;exact .cons (f p h1) (g qs h2)
def eqP (a b:D):Option Bool:=match pyD a,pyD b with
 | some p,some q=>if p.canLay0 && q.canLay0 && decide (min p.depth q.depth<=30) then some (PyData.eqv p q) else none
 | _,_=>none
def eqA (a b:D):Option Bool:=match eqS a b with
 | some k=>some k
 | none=>eqP a b
abbrev eqX (a b:D):Option (D×Fl):=(eqA a b).map λk=>(.bl k,.z)
abbrev neX (a b:D):Option (D×Fl):=(eqA a b).map λk=>(.bl (!k),.z)
def rEqP:R2:=λx y H Q=>∃ p q,DV X.K H x p/\DV X.K H y q/\p.canLay0=true/\q.canLay0=true/\min p.depth q.depth<=30/\Q (.bl (PyData.eqv p q)) H
def rNeP:R2:=λx y H Q=>∃ p q,DV X.K H x p/\DV X.K H y q/\p.canLay0=true/\q.canLay0=true/\min p.depth q.depth<=30/\Q (.bl (!PyData.eqv p q)) H
theorem xQ (hu:X.A.units+64 < cLine):OpR X (compareOp .Eq) (λx y H Q=>rEq x y H Q\/rEqP (X:=X) x y H Q):=by
 intro pins s Y H x y v u Q I a b h
 rcases h with h | ⟨p,q,h1,h2,h3,c,e,d⟩
 .exact op_eq pins s Y H x y v u Q I a b h
 .obtain ⟨as,ra⟩:=DV.reads I h1 a
  obtain ⟨bs,rb⟩:=DV.reads I h2 b
  exact PySem.SeqAt.compareEq_reads ra rb h3 c (by lia) #[.bl _,H,I,rfl,d]
theorem Eb (hu:X.A.units+64 < cLine):OpR X (compareOp .NotEq) (λx y H Q=>rNe x y H Q\/rNeP (X:=X) x y H Q):=by
 intro pins s Y H x y v u Q I a b h
 rcases h with h | ⟨p,q,h1,h2,h3,c,e,d⟩
 .exact op_ne pins s Y H x y v u Q I a b h
 .obtain ⟨as,ra⟩:=DV.reads I h1 a
  obtain ⟨bs,rb⟩:=DV.reads I h2 b
  exact PySem.SeqAt.compareNe_reads ra rb h3 c (by lia) #[.bl _,H,I,rfl,d]
theorem uc (e:eqP a b=some k):∃ p q,pyD a=some p/\pyD b=some q/\p.canLay0=true/\q.canLay0=true/\min p.depth q.depth<=30/\k=PyData.eqv p q:=by
 unfold eqP at e
 cases h1:pyD a with
 | none=>rw[h1] at e;exact nsE e
 | some p =>
  cases h2:pyD b with
  | none=>rw[h1,h2] at e;exact nsE e
  | some q =>
   rw[h1,h2] at e
   dsimp only at e
   split at e
   .rename_i h
    cases e
    simp only[Bool.and_eq_true,decide_eq_true_eq] at h
    exact #[p,q,rfl,rfl,h.1.1,h.1.2,h.2,rfl]
   .exact nsE e
theorem xW:OpD X.K (λx y H Q=>rEq x y H Q\/rEqP (X:=X) x y H Q) eqX:=λa b H Q p ra rb e q=>by
 obtain ⟨k,h1,h2⟩:=Fh.mp e
 subst h2
 unfold eqA at h1
 cases c:eqS a.d b.d with
 | some k' =>
  rw[c] at h1
  cases h1
  obtain ⟨s,j⟩:=yT ra.rep rb.rep c
  exact .inl #[s,by rw[<- j];exact q #[.bl k,.bl k,[],.z] H (cz (.bl k)) rfl rfl]
 | none =>
  rw[c] at h1
  obtain ⟨p,f,e1,g,i,h,l,rfl⟩:=uc h1
  exact .inr #[p,f,ra.rep.dv p e1,rb.rep.dv f g,i,h,l,q #[.bl _,.bl _,[],.z] H (cz (.bl _)) rfl rfl]
theorem Ek:OpD X.K (λx y H Q=>rNe x y H Q\/rNeP (X:=X) x y H Q) neX:=λa b H Q p ra rb e q=>by
 obtain ⟨k,h1,h2⟩:=Fh.mp e
 subst h2
 unfold eqA at h1
 cases c:eqS a.d b.d with
 | some k' =>
  rw[c] at h1
  cases h1
  obtain ⟨s,j⟩:=yT ra.rep rb.rep c
  exact .inl #[s,by rw[<- j];exact q #[.bl (!k),.bl (!k),[],.z] H (cz (.bl _)) rfl rfl]
 | none =>
  rw[c] at h1
  obtain ⟨p,f,e1,g,i,h,l,rfl⟩:=uc h1
  exact .inr #[p,f,ra.rep.dv p e1,rb.rep.dv f g,i,h,l,q #[.bl _,.bl _,[],.z] H (cz (.bl _)) rfl rfl]
def intQ1:D->Option (D×Fl)
 | .int i=>#v[.int i]
 | .bl k=>#v[.int (if k then 1 else 0)]
 | _=>none
abbrev qk:=c1 intQ1
theorem BM:cY K (λxs H Q=>(∃ i,xs=[.int i]/\Q (.int i) H)\/∃ k,xs=[.bl k]/\Q (.int (if k then 1 else 0)) H) qk:=λys H Q p ra e q=>by
 obtain ⟨y,rfl,a⟩:=eD e
 clear e
 have e:=a
 clear a
 have c:=(ra y Fe).rep
 obtain ⟨da,f,g,d⟩:=y
 dsimp only at c e
 cases c <;> try (exact nsE e)
 .rename_i b
  cases e
  exact .inr #[b,rfl,q #[_,_,[],.z] H (cz (.int _)) rfl rfl]
 .rename_i i
  cases e
  exact .inl #[i,rfl,q #[_,_,[],.z] H (cz (.int _)) rfl rfl]
end
theorem EL {k:Nat} {nn:Nat} (F:Fun K x x st f fd) (S:FnScope N ps (ae st)) (c:mask.length=ps.length) (b:N.length=nn) (body:∀ (a:Value) (A:Around) (outer:List Env) (s:Shared) (H:Hp) (E:XK) (f:Addr) (G:Gm),Room k (A.deeper (PyProof.Rows.envOfC x (ae st) s.heap.objs.size f a))->G.pr=prM mask->RSs (qw CX0 P w K mg base N x (ae st) f a A outer s H E).nox G noX (aO st) m) :
  FnOk P w K mg base CX0 (k+1) f fd ps (uN K (fnM mask nn m)):=by
 refine F.ok S (λd H Q E h=>?_) λa A outer s H d Q E e h=>?_
 .obtain ⟨l,p,fs,rfl,_,_,i,_⟩:=h
  unfold fnM at i
  grind
 .have hle:mask.length<=nn:=by
   rw[c,<- b]
   have:=congrArg List.length S.pre
   rw[FP] at this
   omega
  obtain ⟨G,g,j⟩:=ub hle h
  subst b
  exact #[_,(body a A outer s H E f G e g).h,j]
def wE (K:FG):Sp:=λb H Q _=>∃ (a:Addr) (ns:List Int),b=[.ref a]/\SqL K H a (ns.map V.int)/\BV H/\ns.length<=63/\∀ H',Q (.bl true) H'
theorem nq:∀ ns:List Int,Reps (Rep K H) (ns.map D.int) (ns.map V.int) []
 | []=>.nil
 | n::ns=>.cons (L:=[]) (.int n) (nq ns)
theorem Bz (g:∀ ns:List Int,ns.length<=63->∃ fs,F [(.fls (ns.map .int),.z)]=some (.ok (.bl true,.z),fs)) (h:wE K vs H Q E):uN K F vs H Q E:=by
 obtain ⟨a,ns,rfl,j,d,b,q⟩:=h
 obtain ⟨fs,e⟩:=g ns b
 have c:FzL K H a (ns.map V.int):=by
  rcases j with (h | h) | h
  .rcases d a with z | ⟨o,xs,z⟩
   .rw[h] at z;cases z
   .rw[h] at z;cases z
  .exact .inl h
  .exact .inr h
 refine #[[#[.fls (ns.map .int),.ref a,[],.z]],(.bl true,.z),fs,rfl,λp f=>?_,.cons (λ_ h=>by cases h) .nil,e,λx qs H' B i k _=>?_]
 .rw[FT.mp f]
  exact #[.lstF c (nq ns),λh=>absurd rfl h]
 .have r:=B.rep
  rw[i] at r
  have inv:∀ {v:V} {L:List Addr},Rep K H' (.bl true) v L->v=.bl true:=λr=>by cases r;rfl
  rw[inv r]
  exact q H'
section
variable {K:FG} {G G0:Gm} {W W0:D->Sto->Prop} {H H':Hp} {Y:St} {Z Z':Sto} {T T':List It3} {g:Nat->Option It3} {x y z:It3} {α β:Type} {X:Cx} {v:V} {d:D} {L:List Addr}
def bJ:List D->Option (List Int)
 | []=>some []
 | .int i::ds=>(bJ ds).map (i::·)
 | _=>none
theorem iH:∀ {ds:List D} {ns:List Int},bJ ds=some ns->ds=ns.map D.int
 | [],ns,e=>by cases e;rfl
 | d::ds,ns,e=>by
  cases d <;> try (exact nsE e)
  rename_i b
  obtain ⟨r,h1,h2⟩:=Fh.mp (show (bJ ds).map (b::·)=some ns from e)
  subst h2
  rw[iH h1];rfl
theorem Reps.ints:∀ {ns:List Int} {a:List V} {L:List Addr},Reps (Rep K H) (ns.map D.int) a L->a=ns.map V.int
 | [],_,_,.nil=>rfl
 | b::bs,_,_,.cons r rs=>by
  rw[Reps.ints rs]
  cases r;rfl
def rP:List Int->Option Int
 | []=>none
 | x::xs=>some (xs.foldl (λa b=>if b < a then b else a) x)
def jw:List Int->Option Int
 | []=>none
 | x::xs=>some (xs.foldl (λa b=>if a < b then b else a) x)
theorem eP:∀ (xs:List Int) (x:Int),(xs.foldl (λa b=>if b < a then b else a) x)∈x::xs/\∀ n∈x::xs,(xs.foldl (λa b=>if b < a then b else a) x)<=n
 | [],x=>#[Fe,λn h=>by simp at h;subst h;exact Int.le_refl _]
 | y::xs,x=>by
  obtain ⟨h1,h2⟩:=eP xs (if y < x then y else x)
  rw[List.foldl_cons]
  refine #[?_,λn c=>?_]
  .rcases Fm.mp h1 with h | h
   .rw[h];split <;> simp
   .exact Ff _ (Ff _ h)
  .have h3:=h2 _ Fe
   have d:(if y < x then y else x)<=x/\(if y < x then y else x)<=y:=by split <;> lia
   rcases Fm.mp c with h | c
   .subst h;exact Int.le_trans h3 d.1
   .rcases Fm.mp c with h | c
    .subst h;exact Int.le_trans h3 d.2
    .exact h2 n (Ff _ c)
theorem fY:∀ (xs:List Int) (x:Int),(xs.foldl (λa b=>if a < b then b else a) x)∈x::xs/\∀ n∈x::xs,n<=(xs.foldl (λa b=>if a < b then b else a) x)
 | [],x=>#[Fe,λn h=>by simp at h;subst h;exact Int.le_refl _]
 | y::xs,x=>by
  obtain ⟨h1,h2⟩:=fY xs (if x < y then y else x)
  rw[List.foldl_cons]
  refine #[?_,λn c=>?_]
  .rcases Fm.mp h1 with h | h
   .rw[h];split <;> simp
   .exact Ff _ (Ff _ h)
  .have h3:=h2 _ Fe
   have d:x<=(if x < y then y else x)/\y<=(if x < y then y else x):=by split <;> lia
   rcases Fm.mp c with h | c
   .subst h;exact Int.le_trans d.1 h3
   .rcases Fm.mp c with h | c
    .subst h;exact Int.le_trans d.2 h3
    .exact h2 n (Ff _ c)
theorem vv {m:Int} (h:rP ns=some m):ns≠[]/\∀ k,k∈ns->(∀ n∈ns,k<=n)->k=m:=by
 cases ns with
 | nil=>exact nsE h
 | cons x xs =>
  cases h
  obtain ⟨h1,h2⟩:=eP xs x
  grind
theorem pW {m:Int} (h:jw ns=some m):ns≠[]/\∀ k,k∈ns->(∀ n∈ns,n<=k)->k=m:=by
 cases ns with
 | nil=>exact nsE h
 | cons x xs =>
  cases h
  obtain ⟨h1,h2⟩:=fY xs x
  grind
def redQ (g:List Int->Option Int):D->Option (D×Fl)
 | .lst xs=>(bJ xs).bind λns=>(g ns).map λm=>(.int m,.z)
 | .tup xs=>(bJ xs).bind λns=>(g ns).map λm=>(.int m,.z)
 | _=>none
abbrev tQ:=c1 (redQ rP)
def DC (K:FG) (P:List Int->Int->Prop):List V->Hp->VK->Prop:=λxs H Q=>(∃ (l:Addr) (ns:List Int),xs=[.ref l]/\SqL K H l (ns.map V.int)/\ns≠[]/\∀ m,m∈ns->P ns m->Q (.int m) H)\/(∃ (l:Addr) (ns:List Int),xs=[.ref l]/\SqT K H l (ns.map V.int)/\ns≠[]/\∀ m,m∈ns->P ns m->Q (.int m) H)
theorem EV {g:List Int->Option Int} (j:∀ ns m,g ns=some m->ns≠[]/\∀ k,k∈ns->P ns k->k=m):cY K (DC K P) (c1 (redQ g)):=λys H Q p ra e q=>by
 obtain ⟨y,rfl,i⟩:=eD e
 clear e
 have e:=i
 clear i
 have b:=(ra y Fe).rep
 obtain ⟨da,r,n,o⟩:=y
 dsimp only at b e
 have key:∀ {xs:List D} {a:List V} {L:List Addr},Reps (Rep K H) xs a L->((bJ xs).bind λns=>(g ns).map λm=>((.int m,.z):D×Fl))=some p->∃ ns m,a=ns.map V.int/\g ns=some m/\p=(.int m,.z):=λ{xs a L} rs e=>by
  obtain ⟨ns,h1,h2⟩:=FR.mp e
  obtain ⟨m,h3,l⟩:=Fh.mp h2
  have:=iH h1
  subst this
  exact #[ns,m,rs.ints,h3,l.symm]
 cases da <;> try (exact nsE e)
 .rename_i xs
  obtain ⟨c,a,rfl,f,rs⟩:=b.view
  obtain ⟨ns,m,rfl,h1,rfl⟩:=key rs e
  obtain ⟨h2,h3⟩:=j ns m h1
  exact .inr #[c,ns,rfl,SqT.of f,h2,λk h d=>by rw[h3 k h d];exact q #[_,_,[],.z] H (cz (.int _)) rfl rfl]
 .rename_i xs
  obtain ⟨c,a,n,rfl,rfl,f,rs⟩:=b.view
  obtain ⟨ns,m,rfl,h1,rfl⟩:=key rs e
  obtain ⟨h2,h3⟩:=j ns m h1
  exact .inl #[c,ns,rfl,SqL.of f,h2,λk h d=>by rw[h3 k h d];exact q #[_,_,[],.z] H (cz (.int _)) rfl rfl]
theorem BI:cY K (DC K λns m=>∀ n∈ns,m<=n) tQ:=EV (P:=λns m=>∀ n∈ns,m<=n) λ_ _=>vv
theorem vQ (a:X.calm=true):CallR X (.builtin "min") (DC X.K λns m=>∀ n∈ns,m<=n):=(vO a).or (vM a)
end
section
variable {K:FG} {G G0:Gm} {W W0:D->Sto->Prop} {H H':Hp} {Y:St} {Z Z':Sto} {T T':List It3} {g:Nat->Option It3} {x y z:It3} {α β:Type} {X:Cx} {v:V} {d:D} {L:List Addr}
def B8 (g:List Int->Option Int):D->D->Option (D×Fl)
 | .lst xs,.non=>(bJ xs).map λns=>match g ns with
  | some m=>(.int m,.z)
  | none=>(.non,.z)
 | .lst xs,.int k=>(bJ xs).map λns=>match g ns with
  | some m=>(.int m,.z)
  | none=>(.int k,.z)
 | _,_=>none
abbrev vh:=B8 jw
theorem A7 {g:List Int->Option Int} (i:∀ ns m,g ns=some m->ns≠[]/\∀ k,k∈ns->P ns k->k=m) (h0:∀ ns,g ns=none->ns=[]):OpD K (λx d H Q=>tf K P x d H Q) (B8 g):=λa b H Q p ra rb e q=>by
 obtain ⟨da,y,o,t⟩:=a
 obtain ⟨db,v,s,u⟩:=b
 obtain ⟨ra,r⟩:=ra
 obtain ⟨rb,ob⟩:=rb
 dsimp only at ra rb e
 cases da with
 | lst xs =>
  obtain ⟨h,w,o,rfl,rfl,n,rs⟩:=ra.view
  have key:∀ (f:D) (dv:V),Rep K H f dv []->((bJ xs).map λns=>match g ns with | some m=>((.int m,.z):D×Fl) | none=>(f,.z))=some p->tf K P (.ref h) dv H Q:=λf dv rd e=>by
   obtain ⟨ns,h1,h2⟩:=Fh.mp e
   have:=iH h1
   subst this
   have:=rs.ints
   subst this
   refine #[h,ns,rfl,SqL.of n,λj=>?_,λm hm l=>?_]
   .cases c:g ns with
    | some m=>exact absurd j (i ns m c).1
    | none =>
     rw[c] at h2
     subst h2
     exact q #[f,dv,[],.z] H (cz rd) rfl rfl
   .cases c:g ns with
    | none=>rw[h0 ns c] at hm;cases hm
    | some m' =>
     rw[c] at h2
     subst h2
     rw[(i ns m' c).2 m hm l]
     exact q #[.int m',.int m',[],.z] H (cz (.int _)) rfl rfl
  cases db with
  | non =>
   obtain ⟨rfl,rfl⟩:=rb.view
   exact key .non .non .non e
  | int k =>
   obtain ⟨rfl,rfl⟩:=rb.view
   exact key (.int k) (.int k) (.int k) e
  | _=>exact nsE e
 | _=>first | exact nsE e | (cases db <;> exact nsE e)
theorem Bb:OpD K (λx d H Q=>tf K (λns m=>∀ n∈ns,n<=m) x d H Q) vh:=A7 (λ_ _=>pW) λns h=>by cases ns with | nil=>rfl | cons=>cases h
theorem Dv {id:String} {e d:Expr} {r:V->V->Hp->VK->Prop} (b:∀ {pins:List (Addr×Obj)} {s:Shared} {Y:St} {H:Hp} {x d:V} {u l:Value} {Q:VK},Inv X pins Y H s->RelV x u->RelV d l->r x d H Q->wpAny (model X.prog X.w) X.A (call (.builtin id) [u] [("default",l)]) (EP X pins Y Q) X.xe s) (q:OpD X.K (λx d H Q=>r x d H Q) f) (t:Gl X nm) (hm:X.mg nm=none) (m:bootBuiltins nm=some (.builtin id)) (he:RE X G0 W0 e ma) (hd:RE X G0 W0 d mb) (n:nm≠"__name__") (j:(nm == ("__debug__":Str))=false) (o:backTo pos (starEach [e] X.env)=(false,eval e X.env)::backTo pos (starEach [] X.env)) (k:backTo pos (starEach [] X.env)=[]) (a:(backTo pos (starEach [e] X.env)).any (·.1)=false) (c:(backToKw pos (keywordEach [#[some "default",d,kpos]] X.env)).all (·.1.isSome)=true) (i:(backToKw pos (keywordEach [#[some "default",d,kpos]] X.env)).any (·.1.isNone)=false) (g:(backToKw pos (keywordEach [#[some "default",d,kpos]] X.env)).filterMap (·.1)=(["default"]:List Str)) :
  RE X G0 W0 (.Call (.Name nm p) [e] [#[some "default",d,kpos]] pos) (af f ma mb):=#[PE.imp (DT b t hm m he.h hd.h n j o k a c i g) λ_ _ _ h=>lA q h]
theorem Reps.rep (r:Reps (Rep K H) ds vs L):∀ n:Nat,∃ L',Reps (Rep K H) (List.replicate n ds).flatten (List.replicate n vs).flatten L'/\∀ c∈L',c∈L
 | 0=>#[[],.nil,λ_ h=>by cases h]
 | n+1=>by
  obtain ⟨L',h1,h2⟩:=Reps.rep r n
  refine #[L++L',?_,λc a=>?_]
  .rw[List.replicate_succ,List.replicate_succ,List.flatten_cons,List.flatten_cons];exact r.append h1
  .rcases Fq.mp a with h | h
   .exact h
   .exact h2 c h
def zB (i j:Int):Prop:=0 < j/\j < 1267650600228229401496703205376
theorem xP:OpR X (binaryOp .FloorDiv) (rI zB λi j=>.int (i / j)):=opI λi j _ _ _ _ _ a q=>by
 have h1:(0:Int) < j:=a.1
 have h2:j < 1267650600228229401496703205376:=a.2
 refine PyProof.Rows.floordiv_int (by lia) (by rw[Int.fdiv_eq_ediv_of_nonneg i (by lia)];exact q) (.inl (PyProof.noPylong_of_log2 ?_))
 have h3:j.natAbs < 2 ^ 100:=by lia
 exact Nat.lt_trans ((Nat.log2_lt (by lia)).mpr h3) (by decide)
abbrev qu:=fB (λ_ j=>decide (0 < j/\j < 1267650600228229401496703205376)) λi j=>.int (i / j)
theorem Be:OpD K (rI zB λi j=>.int (i / j)) qu:=jG (λi j h=>by simpa[zB] using h) λi j _=>.int _
end
section
variable {K:FG} {G G0:Gm} {W W0:D->Sto->Prop} {H H':Hp} {Y:St} {Z Z':Sto} {T T':List It3} {g:Nat->Option It3} {x y z:It3} {α β:Type} {X:Cx} {v:V} {d:D} {L:List Addr}
def wK (i j:Nat) (ms:M3 (List R3)):SM:=ac ms λrs=>ac (gives rs) λds=>λZ=>match ds with
 | [a,b]=>if i < Z.length/\j < Z.length then some (.ok .nx,(Z.set i #v[a]).set j #v[b]) else none
 | _=>none
theorem Wf.again (w:Wf K G H Y Z T g) (a:Itm T g y) (hz:y.f=.z):Wf K G H Y Z (y::T) g :=
 w.push (Ks:=dR [y]) #[Same.refl _,(w.itm a).rep,λc b=>.inr #[y,Fe,b,λh=>absurd hz h],λh=>absurd hz h] λc h=>w.kids (λu hu=>by rw[FT.mp hu];exact a) h
theorem CM {i j:Nat} (hi:G0.pr i=false) (D:G0.pr j=false) (h:tS K G0 W0 (wK i j ms) E Y H):CQ i j (tA K G0 W0 ms) E Y H:=by
 refine h.use λG W le Z T g r Z' w e q=>?_
 refine tA.seq le w e q.err λrs Z1 e1 L H1 Ts g1 y a1=>?_
 obtain ⟨ds,Z2,g2,c,_,C,_,ys,l,f1,f2⟩:=a1.gives y e1
 match ds,c,ys,f1,l,f2 with
 | [],c,_,_,_,_=>exact nsE c
 | [_],c,_,_,_,_=>exact nsE c
 | _::_::_::_,c,_,_,_,_=>exact nsE c
 | [a,b],c,[],f1,_,_=>cases f1
 | [a,b],c,[_],f1,_,_=>cases f1
 | [a,b],c,_::_::_::_,f1,_,_=>cases f1
 | [a,b],c,[y1,m],f1,l,f2 =>
  have c:(if i < Z2.length/\j < Z2.length then some (Except.ok Flw.nx,(Z2.set i (some (a,Fl.z))).set j (some (b,Fl.z))) else none)=some (r,Z'):=c
  split at c
  .rename_i s
   cases c
   obtain ⟨t,B⟩:=l y1 Fe
   obtain ⟨u,J⟩:=l m (Ff _ Fe)
   have I:=C.again u J
   have n:Itm (m::(Ts.map di++T)) g2 y1:=t.imp id λh=>Ff _ h
   have x:=I.again n B
   have A:=x.store (f:=.z) s.1 (by rw[le.pr];exact hi) (.inr rfl) (by intro h;cases h)
   have F:=A.store (f:=.z) (i:=j) (by rw[List.length_set];exact s.2) (by rw[le.pr];exact D) (.inr rfl) (by intro h;cases h)
   have o:=F.sub (Fw (Ts.map di) T)
   have k:y1.d=a/\m.d=b:=by injection f1 with p q;injection q with q _;exact #[p,q]
   rw[k.1,k.2] at o
   exact #[y1.v,m.v,f2.symm,q _ _ _ o]
  .exact nsE c
theorem Dk (i j:Nat) {x y:Str} (k:X.calm=true) (l:X.N.Nodup) (hi:X.N[i]?=some x) (f:X.N[j]?=some y) (c:i≠j) (n:X.env.scope.names.lookup x=some .local) (d:X.env.scope.names.lookup y=some .local) (m:RA X G0 W0 [a,b] ms) (hw:swappedStores [.Tuple [.Name x px,.Name y py] kt pt] (.Tuple [a,b] k2 pt2) X.env=pure (some [x,y])) (e:swapsWithSole [.Tuple [.Name x px,.Name y py] kt pt] (.Tuple [a,b] k2 pt2) pos.line X.env=pure false) (pi:G0.pr i=false) (g:G0.pr j=false) :
  RS X G0 W0 (.Assign [.Tuple [.Name x px,.Name y py] kt pt] (.Tuple [a,b] k2 pt2) pos) (wK i j ms):=#[PS.imp (xC k l hi f c n d m.h hw e) λ_ _ _ h=>CM pi g h]
end
section
variable {K:FG} {G G0:Gm} {W W0:D->Sto->Prop} {H H':Hp} {Y:St} {Z Z':Sto} {T T':List It3} {g:Nat->Option It3} {x y z:It3} {α β:Type} {X:Cx}
def jr (hi:Int) (n:Nat):List D:=(List.range n).map λ(k:Nat)=>D.int (hi - (k:Int))
theorem uF {hi:Int} {n:Nat}:Walk K (Itd hi n) H1 ys (jr hi n):=by
 refine #[[],λx h=>(by cases h),λM H' _ _ _=>#[λi d hd=>?_,?_]]
 .unfold jr at hd
  rw[Fz] at hd
  obtain ⟨k,a,b⟩:=Fh.mp hd
  obtain ⟨c,e⟩:=Fu.mp a
  rw[List.getElem_range] at e
  subst e
  rw[List.length_range] at c
  refine #[c,λx g #[e1,f]=>?_]
  subst e1
  exact #[#[d,x,[],.z],cz (by rw[<- b,f];exact .int _),rfl,rfl,rfl]
 .show n<=(jr hi n).length
  unfold jr
  simp
def re:List D->Option (List D)
 | [.int i,.int j,.int c]=>if cj i && cj j && (c == -1) then some (jr i (i - j).toNat) else none
 | _=>none
theorem zM (h:tI K G0 W0 (aY re ms) Y H R):Cl (tA K G0 W0 ms) Y H R:=by
 obtain ⟨G,W,le,Z,T,g,o,Z',w,e,q⟩:=h
 have b:∀ x,o=.error x->W x Z':=λx m=>by subst m;exact q
 refine tA.seq le w e b λrs Z1 e1 J H1 Ts g1 k a1=>?_
 obtain ⟨ds,F,B⟩:=ba e1
 obtain ⟨p,E,rfl,rfl⟩:=bj B
 obtain ⟨xs,C,I⟩:=Fh.mp E
 subst I
 obtain ⟨ys,f,f1,f2⟩:=a1.items k (λx m=>Fi _ m) F
 subst f1 f2
 have inv:∀ {ds:List D},re ds=some xs->∃ i j,ds=[.int i,.int j,.int (-1)]/\cj i=true/\cj j=true/\xs=jr i (i - j).toNat:=λ{ds} h=>by
  unfold re at h
  split at h
  .rename_i i j c
   split at h
   .rename_i A
    cases h
    simp only[Bool.and_eq_true,beq_iff_eq] at A
    obtain ⟨⟨h1,h2⟩,rfl⟩:=A
    exact #[i,j,rfl,h1,h2,rfl]
   .exact nsE h
  .exact nsE h
 obtain ⟨i,j,a,hi,l,rfl⟩:=inv C
 match ys,a,f,a1 with
 | [],a,_,_=>cases a
 | [y],a,_,_=>exact absurd (congrArg List.length a) (by simp)
 | [y,z],a,_,_=>exact absurd (congrArg List.length a) (by simp)
 | y::z::u::v::r,a,_,_=>exact absurd (congrArg List.length a) (by simp)
 | [y,z,u],a,f,a1 =>
  have s:=(k.itm (f y Fe)).rep
  have t:=(k.itm (f z (Ff _ Fe))).rep
  have n:=(k.itm (f u (Ff _ (Ff _ Fe)))).rep
  have h1:y.d=.int i:=by injection a
  have h2:z.d=.int j:=by injection a with _ h;injection h
  have h3:u.d=.int (-1):=by injection a with _ h;injection h with _ h;injection h
  rw[h1] at s
  rw[h2] at t
  rw[h3] at n
  have hi:=of_decide_eq_true hi
  have l:=of_decide_eq_true l
  refine #[i,j,by show [y.v,z.v,u.v]=_;rw[s.int_inv,t.int_inv,n.int_inv],#[hi.1,hi.2,l.1,l.2],?_]
  exact q _ H1 [] [] g1 [] (k.sub (Fw Ts T)) .nil (λ_ h=>by cases h) uF
theorem An (g:Gl X "range") (hm:X.mg "range"=none) (f:RA X G0 W0 [a,b,c] ms) (e:starEach [a,b,c] X.env=(false,eval a X.env)::starEach [b,c] X.env) (d:(backTo pos (starEach [b,c] X.env)).any (·.1)=false):RI X G0 W0 tg (.Call (.Name "range" p) [a,b,c] [] pos) (aY re ms):=#[PI.imp (uY g hm f.h e d) λ_ _ _ h=>zM h]
end
section
variable {K:FG} {G G0:Gm} {W W0:D->Sto->Prop} {H H':Hp} {Y:St} {Z Z':Sto} {T T':List It3} {g:Nat->Option It3} {x y z:It3} {α β:Type} {X:Cx} {v:V} {d:D} {L:List Addr}
def keyD:Key->D
 | .inl i=>.int i
 | .inr s=>.str s
def mM (k:List Key):D:=.tup (k.map keyD)
def keysD:D->Option (List D)
 | .dt kvs=>some (kvs.map λa=>mM a.1)
 | _=>none
def j3 (m:EM):IM:=ac m λr=>ac (der r) λd=>aX ((keysD d).map λds=>([r],ds))
theorem lH:∀ k:List Key,Reps (Rep K H) (k.map keyD) (k.map kV) []
 | []=>.nil
 | .inl i::k=>.cons (L:=[]) (.int i) (lH k)
 | .inr s::k=>.cons (L:=[]) (.str s) (lH k)
theorem uG {kvs:List (List Key×D)} {n:Nat} (s:H1 a=some (.dT ps n)) (j:kvs.map (·.1)=ps.map (·.1)) (q:a∈y.L):Walk K (Itk a ps.length n) H1 [y] (kvs.map λh=>mM h.1):=by
 refine #[[],λx o=>(by cases o),λM H' hm g m=>?_]
 have h':H' a=some (.dT ps n):=g a _ s (m y Fe a q)
 have u:kvs.length=ps.length:=by have:=congrArg List.length j;simpa using this
 refine #[λi d hd=>?_,#[ps,.inl h',rfl,by rw[Ft,u];exact FA _]]
 rw[Fz] at hd
 obtain ⟨h,h1,h2⟩:=Fh.mp hd
 have hi:i < kvs.length:=(Fu.mp h1).1
 obtain ⟨p,r,f⟩:∃ p,ps[i]?=some p/\p.1=h.1:=by
  have e:=congrArg (λl=>l[i]?) j
  simp only[Fz,h1] at e
  obtain ⟨p,e1,c⟩:=Fh.mp e.symm
  exact #[p,e1,c]
 refine #[#[ps,.inl h',rfl,by lia],λx k #[e1,c]=>?_]
 subst e1
 obtain ⟨b,rfl,t⟩:=c ps p (.inl h') r
 exact #[#[d,.ref b,[],.z],cz (by rw[<- h2,<- f];exact .tup t (lH _)),rfl,rfl,rfl]
theorem zP (h:tI K G0 W0 (j3 m) Y H R):Co (tE K G0 W0 m) Y H R:=by
 obtain ⟨G,W,le,Z,T,g,o,Z',w,e,q⟩:=h
 have a:∀ x,o=.error x->W x Z':=λx s=>by subst s;exact q
 refine tE.seq le w e a λra Z1 e1 v H1 #[Ts,g1,c,a1]=>?_
 obtain ⟨d,u,f⟩:=aH e1
 obtain ⟨p,j,rfl,rfl⟩:=bj f
 obtain ⟨ds,b,L⟩:=Fh.mp j
 subst L
 obtain ⟨y,t,I,r⟩:=a1.item2 c u
 have D:Itm (Ts++T) g1 y:=by
  rcases r with ⟨i,_,E⟩ | h
  .exact .inl #[i,E]
  .exact .inr (Fi _ h)
 have B:=(c.itm D).arg
 have F:∀ J,Walk K J H1 [y] ds->R J H1:=λJ hw=>q J H1 [v] Ts g1 [y] c (by simpa using Ars.cons a1 .nil) (λz hz=>by rw[FT.mp hz];exact r) hw
 clear e1 f j q
 subst t I
 obtain ⟨da,Q,P,N⟩:=y
 obtain ⟨k,O⟩:=B
 dsimp only at k b
 cases da with
 | dt kvs =>
  obtain ⟨C,ps,M,rfl,rfl,⟨n,l⟩,A,rs⟩:=k.view
  cases b
  exact #[C,ps,n,rfl,.inl l,F _ (uG l A Fe)]
 | _=>exact nsE b
theorem Aq (h:RE X G0 W0 l m):RI X G0 W0 tg l (j3 m):=#[PI.imp (AS h.h) λ_ _ _ h=>zP h]
def maxVQ:D->Option (D×Fl)
 | .dt kvs=>(bJ (kvs.map (·.2))).bind λns=>(jw ns).map λm=>(.int m,.z)
 | _=>none
abbrev ku:=c1 maxVQ
def rMV:List V->Hp->VK->Prop:=λxs H Q=>∃ (a:Addr) (kvs:List (List Key×V)) (ns:List Int),xs=[.ref a]/\HdT H a kvs/\kvs.map (·.2)=ns.map V.int/\ns≠[]/\∀ p,H p=none->∀ m,m∈ns->(∀ n∈ns,n<=m)->Q (.int m) (upd H p (l7 p a))
theorem BJ:cY K rMV ku:=λys H Q p ra e q=>by
 obtain ⟨y,rfl,a⟩:=eD e
 clear e
 have e:=a
 clear a
 have b:=(ra y Fe).rep
 obtain ⟨da,u,o,t⟩:=y
 dsimp only at b e
 cases da with
 | dt kvs =>
  obtain ⟨g,ps,s,rfl,rfl,l,r,rs⟩:=b.view
  obtain ⟨ns,h1,h2⟩:=FR.mp (show ((bJ (kvs.map (·.2))).bind λns=>(jw ns).map λm=>((.int m,.z):D×Fl))=some p from e)
  obtain ⟨m,h3,f⟩:=Fh.mp h2
  have d:=iH h1
  rw[d] at rs
  obtain ⟨c,j⟩:=pW h3
  subst f
  refine #[g,ps,ns,rfl,l,rs.ints,c,λp i k n k2=>?_]
  rw[j k n k2]
  exact q #[.int m,.int m,[],.z] _ #[bh i,.int _,λ_ h=>(by cases h),λh=>absurd rfl h] rfl rfl
 | _=>exact nsE e
theorem zT (h:tE K G0 W0 (ao ku (aa m ah)) Y H Q) :
  tCB Cc (pw (tBM0 K "dict" (λx d H Q=>∃ a kvs,x=.ref a/\d=[]/\RdT H a kvs/\∀ p,H p=none->Q (.ref p) (upd H p (l7 p a))) (tE K G0 W0 m)) zL) Y H Q:=by
 have h1:pw (tE K G0 W0 m) (tA K G0 W0 ah) Y H (λd H1=>rMV d H1 Q):=sQ (lz BJ h)
 refine sP h1 λx H1 h2=>?_
 obtain ⟨a,kvs,ns,e,b,g,i,q⟩:=wC h2
 cases e
 obtain ⟨n,b⟩:=b
 refine #[.inr (.inr (.inl #[rfl,.inr #[kvs,n,b]])),a,kvs,rfl,rfl,#[n,.inl b],λp f=>?_]
 have c:a≠p:=λz=>by rw[z,f] at b;exact nsE b
 exact #[p,a,kvs,ns,rfl,a8,#[n,.inl (by rw[aD c];exact b)],g,i,q p f]
theorem Aw (g:X.calm=true) (e:Gl X "max") (hm:X.mg "max"=none) (f:RE X G0 W0 o m) (b:attributeBase o "values" X.env (eval o X.env)=eval o X.env) (a:(apos.endLine == cpos.line)=true) (d:starEach [.Call (.Attribute o "values" apos) [] [] cpos] X.env=(false,eval (.Call (.Attribute o "values" apos) [] [] cpos) X.env)::starEach [] X.env) (c:(backTo pos (starEach [] X.env)).any (·.1)=false) :
  RE X G0 W0 (.Call (.Name "max" p) [.Call (.Attribute o "values" apos) [] [] cpos] [] pos) (ao ku (aa m ah)) :=
 #[PE.imp (lP (vS g) e hm zm (k8 (DW PySem.F.plainAttrs_dict PySem.F.slot_dict_values PySem.F.type_dict_values Bk f.h b a) rp d) (by decide) (by decide) d c) λ_ _ _ h=>zT h]
def eM:List D->Option (List (Int×Int))
 | []=>some []
 | .tup [.int a,.int b]::ds=>(eM ds).map ((a,b)::·)
 | _=>none
def jv (n:Int×Int):D:=.tup [.int n.1,.int n.2]
theorem lQ:∀ {ds:List D} {ns:List (Int×Int)},eM ds=some ns->ds=ns.map jv
 | [],ns,h=>by cases h;rfl
 | d::ds,ns,h=>by
  unfold eM at h
  split at h
  .rename_i h0;cases h0
  .rename_i a b c h0
   cases h0
   obtain ⟨ms,h1,h2⟩:=Fh.mp h
   rw[lQ h1,<- h2];rfl
  .exact nsE h
theorem ko:∀ ns:List (Int×Int),eM (ns.map jv)=some ns
 | []=>rfl
 | n::ns=>by
  show (eM (ns.map jv)).map _=_
  rw[ko ns];rfl
def jY:List (Int×Int)->Option (Int×Int)
 | []=>none
 | x::xs=>some (xs.foldl (λa b=>if ltP b a=true then b else a) x)
theorem Bu {x y:Int×Int} (h1:ltP x y=false) (h2:ltP y x=false):x=y:=by
 unfold ltP at *
 grind
theorem yn {x y z:Int×Int} (h1:ltP x y=false) (h2:ltP y z=false):ltP x z=false:=by
 unfold ltP at *
 simp at *
 lia
theorem yo {x y:Int×Int} (h1:ltP x y=true):ltP y x=false:=by
 unfold ltP at *
 simp at *
 lia
theorem ym (x:Int×Int):ltP x x=false:=by unfold ltP;simp
theorem fZ:∀ (xs:List (Int×Int)) (x:Int×Int),(xs.foldl (λa b=>if ltP b a=true then b else a) x)∈x::xs/\∀ n∈x::xs,ltP n (xs.foldl (λa b=>if ltP b a=true then b else a) x)=false
 | [],x=>#[Fe,λn c=>by rw[FT.mp c];exact ym x]
 | b::xs,x=>by
  rw[List.foldl_cons]
  by_cases h:ltP b x=true
  .rw[if_pos h]
   obtain ⟨h1,h2⟩:=fZ xs b
   refine #[Ff _ h1,λn c=>?_]
   rcases Fm.mp c with rfl | c
   .exact yn (yo h) (h2 b Fe)
   .exact h2 n c
  .rw[if_neg h]
   have h':ltP b x=false:=by simpa using h
   obtain ⟨h1,h2⟩:=fZ xs x
   refine #[?_,λn c=>?_]
   .rcases Fm.mp h1 with e | e
    .rw[e];exact Fe
    .exact Ff _ (Ff _ e)
   .rcases Fm.mp c with rfl | c
    .exact h2 n Fe
    .rcases Fm.mp c with rfl | c
     .exact yn h' (h2 x Fe)
     .exact h2 n (Ff _ c)
theorem nH (h:jY ns=some m):m∈ns/\∀ n∈ns,ltP n m=false:=by
 cases ns with
 | nil=>exact nsE h
 | cons x xs=>cases h;exact fZ xs x
def minPQ:D->Option (D×Fl)
 | .lst ds=>(eM ds).bind λns=>(jY ns).map λn=>(jv n,.z)
 | _=>none
abbrev tO:=c1 minPQ
theorem lG:∀ {ns:List (Int×Int)} {c:List V} {L:List Addr},Reps (Rep K H) (ns.map jv) c L->∃ bs:List Addr,c=bs.map V.ref/\ns.length=bs.length/\∀ (i:Nat) (b:Addr),bs[i]?=some b->∃ n,ns[i]?=some n/\H b=some (.tup [.int n.1,.int n.2])
 | [],_,_,.nil=>#[[],rfl,rfl,λi b h=>by simp at h]
 | n::ns,_,_,.cons r rs=>by
  obtain ⟨bs,e1,d,e⟩:=lG rs
  subst e1
  cases r with
  | @tup xs a c L ha hr =>
   refine #[a::bs,rfl,by simp[d],λi b h=>?_]
   cases i with
   | zero =>
    simp only[List.getElem?_cons_zero,Option.some.injEq] at h
    subst h
    have f:c=[.int n.1,.int n.2]:=by
     have:=Reps.ints (ns:=[n.1,n.2]) hr
     exact this
    exact #[n,rfl,by rw[<- f];exact ha]
   | succ i =>
    simp only[List.getElem?_cons_succ] at h
    exact e i b h
theorem BG:cY K (Ca K) tO:=λys H Q p ra e q=>by
 obtain ⟨y,rfl,a⟩:=eD e
 clear e
 have e:=a
 clear a
 have c:=(ra y Fe).rep
 obtain ⟨da,A,B,w⟩:=y
 dsimp only at c e
 cases da with
 | lst xs =>
  obtain ⟨s,x,v,rfl,rfl,o,rs⟩:=c.view
  obtain ⟨ns,h1,h2⟩:=FR.mp (show ((eM xs).bind λns=>(jY ns).map λn=>((jv n,.z):D×Fl))=some p from e)
  obtain ⟨f,h3,r⟩:=Fh.mp h2
  have k:=lQ h1
  subst k r
  obtain ⟨bs,rfl,u,g⟩:=lG rs
  obtain ⟨d,h⟩:=nH h3
  refine #[s,bs,ns,rfl,SqL.of o,g,λz=>?_,λm b hm t=>?_]
  .subst z
   have:ns=[]:=F7.mp u
   subst this
   cases d
  .obtain ⟨n,e1,a⟩:=g m b hm
   have l:n=f:=by
    refine Bu (h n (Fv e1) |> id) ?_ |> id
    obtain ⟨i,hi,j⟩:=List.getElem_of_mem d
    exact t.2 i (by lia) f n (by rw[Fo hi,j]) e1
   subst l
   exact q #[jv n,.ref b,[],.z] H (cz (.tup a (.cons (L:=[]) (.int _) (.cons (L:=[]) (.int _) .nil)))) rfl rfl
 | _=>exact nsE e
end
end L3
theorem L2.Room.hu {k:Nat} (a:L2.Room k A):A.units+1 < PySem.cLine:=L2.hu_of a
end
section
namespace L3
open PySem L2
section
variable {K:FG} {X:Cx}
def isB:D->D->Option (D×Fl)
 | .bl a,.bl b=>#v[.bl (a == b)]
 | _,_=>none
def vA:D->D->Option (D×Fl)
 | .bl a,.bl b=>#v[.bl (!(a == b))]
 | _,_=>none
theorem Bc:OpD K (λx y H Q=>∃ a b,x=.bl a/\y=.bl b/\Q (.bl (!(a == b))) H) vA:=λa b H Q p ra rb e q=>by
 obtain ⟨da,h,i,g⟩:=a
 obtain ⟨db,c,f,j⟩:=b
 obtain ⟨ra,d⟩:=ra
 obtain ⟨rb,ob⟩:=rb
 dsimp only at ra rb
 cases da <;> try (exact nsE e)
 cases db <;> try (exact nsE e)
 obtain ⟨rfl,rfl⟩:=ra.view
 obtain ⟨rfl,rfl⟩:=rb.view
 cases e
 exact #[_,_,rfl,rfl,q #[_,_,[],.z] H (cz (.bl _)) rfl rfl]
theorem A3:OpR X (compareOp .IsNot) (λx y H Q=>∃ a b,x=.bl a/\y=.bl b/\Q (.bl (!(a == b))) H):=by
 intro pins s Y H x y v u Q I c d h
 obtain ⟨a,b,rfl,rfl,q⟩:=h
 cases c
 cases d
 exact wpAny_isNot_plain rfl (aM I q (by cases a <;> cases b <;> rfl))
end
section
variable {K:FG} {G G0:Gm} {W W0:D->Sto->Prop} {H H':Hp}
def ntD (n:List Int):D:=.tup (n.map D.int)
theorem rT:∀ n:List Int,bJ (n.map D.int)=some n
 | []=>rfl
 | a::n=>by
  show (bJ (n.map D.int)).map _=_
  rw[rT n];rfl
theorem js:∀ n:List Int,Reps (Rep K H) (n.map D.int) (n.map V.int) []
 | []=>.nil
 | a::n=>.cons (L:=[]) (.int a) (js n)
end
section
variable {K:FG} {G G0:Gm} {W W0:D->Sto->Prop} {H H':Hp} {Y:St} {Z Z':Sto} {T T':List It3} {g:Nat->Option It3} {x y z:It3} {α β:Type} {X:Cx}
theorem Reps.rev:∀ {ds:List D} {b:List V} {L:List Addr},Reps (Rep K H) ds b L->∃ L',Reps (Rep K H) ds.reverse b.reverse L'/\∀ c∈L',c∈L
 | [],_,_,.nil=>#[[],.nil,λc a=>a]
 | d::ds,_,_,.cons (v:=v) (L:=L1) r rs=>by
  obtain ⟨L',h1,h2⟩:=Reps.rev rs
  rw[List.reverse_cons,List.reverse_cons]
  refine #[L'++(L1++[]),h1.append (.cons r .nil),λc a=>?_]
  rcases Fq.mp a with h | h
  .exact Fj _ (h2 c h)
  .rw[List.append_nil] at h;exact Fi _ h
def t5 (ms:M3 (List R3)):IM:=ac ms λrs=>ac (dj rs) λds=>aX (match ds with
 | [.tup xs]=>some (rs,xs.reverse)
 | _=>none)
theorem CU {ms:M3 (List R3)} {R:It->Hp->Prop} (h:tI K G0 W0 (t5 ms) Y H R):iRv K (tA K G0 W0 ms) Y H R:=by
 obtain ⟨G,W,le,Z,T,g,o,Z',w,e,q⟩:=h
 have j:∀ x,o=.error x->W x Z':=λx O=>by subst O;exact q
 refine tA.seq le w e j λrs Z1 e1 f H1 Ts g1 u a1=>?_
 obtain ⟨ds,b,m⟩:=ba e1
 obtain ⟨p,s,rfl,rfl⟩:=bj m
 have inv:∃ xs,ds=[.tup xs]/\p=(rs,xs.reverse):=by
  split at s
  .cases s;exact #[_,rfl,rfl]
  .exact nsE s
 obtain ⟨xs,rfl,rfl⟩:=inv
 match rs,b,a1,q with
 | [],b,_,_=>cases b
 | r::r'::rs,b,_,_ =>
  obtain ⟨_,_,l⟩:=aH (k:=λd=>ac (dj (r'::rs)) λds=>aT (d::ds)) b
  obtain ⟨S,L,P⟩:=ba l
  obtain ⟨_,_,Q⟩:=aH (k:=λd=>ac (dj rs) λds=>aT (d::ds)) L
  obtain ⟨a0,_,σ⟩:=ba Q
  cases σ
  cases P
 | [r],b,a1,q =>
  obtain ⟨d,ρ,l⟩:=aH (k:=λd=>ac (dj []) λds=>aT (d::ds)) b
  have hd:d=.tup xs:=by
   have l:some ((.ok [d],Z'):Except D (List D)×Sto)=some (.ok [.tup xs],Z'):=l
   cases l;rfl
  subst hd
  cases a1 with
  | @cons _ v Ts1 _ vs1 Us1 a as =>
   cases as with
   | nil =>
    obtain ⟨y,E,X,F⟩:=Ar.item2 (T:=T) (by simpa using u) a ρ
    have τ:Itm (([]++Ts1)++T) g1 y:=by
     rcases F with ⟨i,_,V⟩ | h
     .exact .inl #[i,V]
     .exact .inr (by simpa using Fi T h)
    have A:=(u.itm τ).arg
    have qq:∀ J,Walk K J H1 [y] xs.reverse->R J H1:=λJ hw=>q J H1 [v] ([]++Ts1) g1 [y] u (.cons a .nil) (λz hz=>by
     rw[FT.mp hz]
     rcases F with h | h
     .exact .inl h
     .exact .inr (by simpa using h)) hw
    clear q
    subst X
    have t:=A
    obtain ⟨yd,yv,yL,yf⟩:=y
    obtain ⟨C,oo⟩:=A
    dsimp only at C E
    subst E
    cases C with
    | @tup _ pa f _ ha rs =>
     obtain ⟨L',N,I⟩:=rs.rev
     refine #[pa,f,rfl,SqT.of ha,qq _ (kW N (λc n=>jC (y:=#[.tup xs,.ref pa,yL,yf]) Fe t rfl c (I c n)) (λc n=>I c n) λM H' hm hk hM=>?_)]
     have sq:SqT K H' pa f:=SqT.of (hk pa _ ha λz=>(hm pa z).notup ha)
     refine #[λi v B=>#[#[f,v,sq,rfl,B],λx az #[e1,m]=>#[e1,?_]],by show f.reverse.length=f.length;simp]
     have:=m f sq
     rw[B] at this
     injection this with this
     exact this.symm
theorem Do {tg a:Expr} {ms:M3 (List R3)} {p pos:Pos} (d:Gl X "reversed") (hm:X.mg "reversed"=none) (c:RA X G0 W0 [a] ms) (b:starEach [a] X.env=[(false,eval a X.env)]):RI X G0 W0 tg (.Call (.Name "reversed" p) [a] [] pos) (t5 ms):=#[PI.imp (pi_rv d hm c.h b) λ_ _ _ h=>CU h]
def tV (ma:EM) (pp:M3 (Option Int)):EM:=ac ma λra=>ac pp λo=>ac (der ra) λd=>aX (match d with
 | .tup xs=>if o=some (-1) then some (R3.val (.tup xs.reverse) .z) else none
 | _=>none)
theorem zS {ma:EM} {pp:M3 (Option Int)} {Q:VK} (h:tE K G0 W0 (tV ma pp) Y H Q):BW K (tE K G0 W0 ma) (tP K G0 W0 pp) Y H Q:=by
 refine h.use λG W le Z T g o Z' w e q=>?_
 refine tE.seq le w e q.err λra Z1 e1 E H1 #[Ts,g1,A,a1]=>?_
 refine tP.seq le A e1 q.err λlo Z2 k H2 g2 j=>?_
 obtain ⟨d,r,l⟩:=aH k
 obtain ⟨p,a,rfl,rfl⟩:=bj l
 obtain ⟨y,m,f1,f2⟩:=a1.item j (λx b=>Fi _ b) r
 subst f1 f2
 have s:=(j.itm m).arg
 have inv:∃ xs,y.d=.tup xs/\lo=some (-1)/\p=R3.val (.tup xs.reverse) .z:=by
  split at a
  .rename_i xs b
   by_cases f:lo=some (-1)
   .rw[if_pos f] at a
    exact #[xs,b,f,(F6 a).symm]
   .rw[if_neg f] at a;cases a
  .cases a
 obtain ⟨xs,t,rfl,rfl⟩:=inv
 have D:=nQ j (ys:=[y]) (λz hz=>by rw[FT.mp hz];exact m) q
 clear e e1 k l a r q
 obtain ⟨da,E,B,v⟩:=y
 dsimp only at t
 subst t
 have i:=s
 obtain ⟨n,F⟩:=s
 dsimp only at n
 cases n with
 | @tup _ pa vs L ha rs =>
  obtain ⟨L',h1,h2⟩:=rs.rev
  exact #[pa,vs,rfl,rfl,SqT.of ha,λp u=>D #[_,.ref p,L',.z] _ (u9 u h1 λc C=>jC (y:=#[.tup xs,.ref pa,B,v]) Fe i rfl c (h2 c C)) rfl rfl]
theorem Av {e st:Expr} {p2 pos:Pos} {m:EM} {pp:M3 (Option Int)} (he:RE X G0 W0 e m) (a:RP X G0 W0 (some st) pp):RE X G0 W0 (.Subscript e (.Slice none none (some st) p2) pos) (tV m pp):=#[PE.imp (AU he.h a.h) λ_ _ _ h=>zS h]
end
section
variable {K:FG} {H H':Hp}
def jD:List Key->Option (List Int)
 | []=>some []
 | .inl i::k=>(jD k).map (i::·)
 | _=>none
def bR:List (List Key)->Option (List (List Int))
 | []=>some []
 | k::ks=>(jD k).bind λn=>(bR ks).map (n::·)
theorem l6:∀ {k:List Key} {n:List Int},jD k=some n->k=n.map Sum.inl
 | [],n,h=>by cases h;rfl
 | .inl i::k,n,h=>by
  obtain ⟨m,h1,h2⟩:=Fh.mp (show (jD k).map (i::·)=some n from h)
  rw[l6 h1,<- h2];rfl
 | .inr i::k,n,h=>by cases h
theorem ie:∀ {ks:List (List Key)} {ns:List (List Int)},bR ks=some ns->ks=ns.map λn=>n.map Sum.inl
 | [],ns,h=>by cases h;rfl
 | k::ks,ns,h=>by
  obtain ⟨n,h1,h2⟩:=FR.mp (show ((jD k).bind λn=>(bR ks).map (n::·))=some ns from h)
  obtain ⟨ms,h3,a⟩:=Fh.mp h2
  rw[ie h3,<- a,l6 h1];rfl
def wc:List (List Int)->Bool
 | x::y::l=>!HT.lexLt y x && wc (y::l)
 | _=>true
theorem uB:∀ {ns:List (List Int)},wc ns=true->∀ (i:Nat) (x y:List Int),ns[i]?=some y->ns[i+1]?=some x->HT.lexLt x y=false
 | [],_,i,x,y,h,_=>by simp at h
 | [_],_,i,x,y,_,h=>by simp at h
 | a::b::l,h,0,x,y,h1,h2=>by
  simp only[List.getElem?_cons_zero,Option.some.injEq,FK,List.getElem?_cons_succ] at h1 h2
  subst h1 h2
  have:=(Bool.and_eq_true_iff.mp h).1
  simpa using this
 | a::b::l,h,i+1,x,y,h1,h2=>by
  simp only[List.getElem?_cons_succ] at h1 h2
  exact uB (ns:=b::l) (Bool.and_eq_true_iff.mp h).2 i x y h1 h2
def C4:D->Option (D×Fl)
 | .dt kvs=>(bR (kvs.map (·.1))).bind λns=>if (wc ns && ns.all (λn=>!n.isEmpty) && decide (ns.length<=16777216))=true then some (.lst (ns.map ntD),.u) else none
 | _=>none
abbrev n4:=c1 C4
theorem sX:∀ {ns:List (List Int)} {bs:List Addr},bs.length=ns.length->(∀ (i:Nat) (b:Addr) (n:List Int),bs[i]?=some b->ns[i]?=some n->H b=some (.tup (n.map V.int)))->Reps (Rep K H) (ns.map ntD) (bs.map V.ref) []
 | [],[],_,_=>.nil
 | [],_::_,h,_=>by cases h
 | _::_,[],h,_=>by cases h
 | n::ns,b::bs,h,q=>.cons (L:=[]) (.tup (q 0 b n rfl rfl) (js n)) (sX (by simpa using h) λi b n e1 a=>q (i+1) b n (by simpa using e1) (by simpa using a))
theorem zb:cY K xr n4:=λys H Q p ra e q=>by
 obtain ⟨y,rfl,d⟩:=eD e
 clear e
 have e:=d
 clear d
 have f:=(ra y Fe).rep
 obtain ⟨da,w,x,v⟩:=y
 dsimp only at f e
 cases da with
 | dt kvs =>
  obtain ⟨o,ps,t,rfl,rfl,⟨n,k⟩,l,rs⟩:=f.view
  obtain ⟨ns,h1,h2⟩:=FR.mp (show ((bR (kvs.map (·.1))).bind λns=>if (wc ns && ns.all (λn=>!n.isEmpty) && decide (ns.length<=16777216))=true then some ((.lst (ns.map ntD),.u):D×Fl) else none)=some p from e)
  by_cases a:(wc ns && ns.all (λn=>!n.isEmpty) && decide (ns.length<=16777216))=true
  .rw[if_pos a] at h2
   cases h2
   obtain ⟨h3,m⟩:=Bool.and_eq_true_iff.mp a
   obtain ⟨s,g⟩:=Bool.and_eq_true_iff.mp h3
   have b:=ie h1
   refine #[o,ps,ns,rfl,#[n,.inl k],by rw[<- l];exact b,λn h=>?_,uB s,by rw[sizeLine_eq];exact of_decide_eq_true m,λbs r j p i=>?_]
   .have:=List.all_eq_true.mp g n h
    intro z;subst z;simp at this
   .exact q #[.lst (ns.map ntD),.ref p,[p],.u] _ (Bi i (sX r j) λc a=>by cases a) rfl rfl
  .rw[if_neg a] at h2;exact nsE h2
 | _=>exact nsE e
end
section
variable {K:FG} {X:Cx}
def kvI:List (List Key×D)->Option (List (List Key×Int))
 | []=>some []
 | (k,.int n)::r=>(kvI r).map ((k,n)::·)
 | _=>none
def Bj (a b:D):Option (D×Fl):=match a,b with
 | .dt x,.dt y=>match kvI x,kvI y with
  | some p,some q=>if p=q then #v[.bl false] else none
  | _,_=>none
 | _,_=>none
theorem rQ:∀ {kvs:List (List Key×D)} {ns:List (List Key×Int)},kvI kvs=some ns->kvs=ns.map λp=>(p.1,D.int p.2)
 | [],ns,e=>by cases e;rfl
 | (k,d)::r,ns,e=>by
  cases d <;> try (exact nsE e)
  obtain ⟨ms,h1,h2⟩:=Fh.mp (show (kvI r).map _=some ns from e)
  subst h2
  rw[rQ h1]
  rfl
theorem Ce {H:Hp} {ns:List (List Key×Int)} {ps:List (List Key×V)} {L:List Addr} (a:(ns.map λp=>(p.1,D.int p.2)).map (·.1)=ps.map (·.1)) (rs:Reps (Rep K H) ((ns.map λp=>(p.1,D.int p.2)).map (·.2)) (ps.map (·.2)) L):ps=ns.map λp=>(p.1,V.int p.2):=by
 have b:Reps (Rep K H) ((ns.map (·.2)).map D.int) (ps.map (·.2)) L:=by
  rw[F4] at rs ⊢
  exact rs
 have e:=b.ints
 rw[F4] at a
 clear rs b
 induction ns generalizing ps with
 | nil =>
  cases ps with
  | nil=>rfl
  | cons p ps=>simp at e
 | cons n ns ih =>
  cases ps with
  | nil=>simp at e
  | cons p ps =>
   simp only[FF,List.cons.injEq] at e a ⊢
   refine #[Prod.ext a.1.symm e.1,ih a.2 e.2]
theorem El:OpD K rNeT Bj:=λa b H Q p ra rb e q=>by
 obtain ⟨da,v,w,r⟩:=a
 obtain ⟨db,t,o,s⟩:=b
 obtain ⟨ra,m⟩:=ra
 obtain ⟨rb,ob⟩:=rb
 dsimp only at ra rb e
 cases da <;> try (exact nsE e)
 cases db <;> try (exact nsE e)
 rename_i x y
 obtain ⟨j,ps,n,rfl,rfl,h,i,rs⟩:=ra.view
 obtain ⟨g,qs,u,rfl,rfl,k,d,c⟩:=rb.view
 have e:(match kvI x,kvI y with | some p,some q=>if p=q then some (D.bl false,Fl.z) else none | _,_=>none)=some p:=e
 cases h1:kvI x with
 | none=>rw[h1] at e;exact nsE e
 | some m1 =>
  cases h2:kvI y with
  | none=>rw[h1,h2] at e;exact nsE e
  | some m2 =>
   rw[h1,h2] at e
   dsimp only at e
   split at e
   .rename_i he
    subst he
    cases e
    have e1:=rQ h1
    have f:=rQ h2
    subst e1
    subst f
    have l:=Ce i rs
    have p2:=Ce d c
    subst l
    subst p2
    refine #[j,g,m1,rfl,rfl,h.rd,k.rd,?_]
    exact q #[.bl false,.bl false,[],.z] H (cz (.bl _)) rfl rfl
   .exact nsE e
end
end L3
end
section
namespace L2
open PySem PySem.Spec PyProof.Rows
end L2
namespace L3
open PySem L2
section
variable {K:FG} {G G0:Gm} {W W0:D->Sto->Prop} {H H':Hp} {Y:St} {Z Z':Sto} {T T':List It3} {g:Nat->Option It3} {x y z:It3} {α β:Type} {X:Cx} {v:V} {d:D} {L:List Addr}
def lvQ:D->Option (D×Fl)
 | .dt kvs=>some (.lst (kvs.map (·.2)),.u)
 | _=>none
def lenXQ:D->Option (D×Fl)
 | .dt kvs=>#v[.int kvs.length]
 | d=>rO d
abbrev yx:=c1 lenXQ
def Cd (K:FG):List V->Hp->VK->Prop:=λxs H Q=>(∃ p ys,xs=[.ref p]/\(SqL K H p ys\/SqT K H p ys)/\Q (.int ys.length) H)\/∃ p ys,xs=[.ref p]/\RdT H p ys/\Q (.int ys.length) H
theorem vU:CallR X (.builtin "len") (Cd X.K):=CallR.or jJ vV
theorem BL:cY K (Cd K) yx:=λys H Q p ra e q=>by
 obtain ⟨y,rfl,a⟩:=eD e
 cases hd:y.d with
 | dt kvs =>
  have b:=(ra y Fe).rep
  rw[hd] at b a
  obtain ⟨f,ps,j,c,_,h,i,_⟩:=b.view
  cases a
  have g:kvs.length=ps.length:=by have:=congrArg List.length i;simpa using this
  exact .inr #[f,ps,by show [y.v]=_;rw[c],h.rd,by rw[<- g];exact q #[.int kvs.length,.int kvs.length,[],.z] H (cz (.int _)) rfl rfl]
 | _=>refine .inl (zc [y] H Q p ra ?_ q);rw[hd] at a;show rO y.d=some p;rw[hd];exact a
end
end L3
end
section
namespace L3
open PySem L2
section
variable {K:FG} {X:Cx}
def copyQ:D->Option (D×Fl)
 | .dt kvs=>(bR (kvs.map (·.1))).bind λns=>if (ns.map dG).Nodup then some (.dt kvs,.u) else none
 | _=>none
abbrev y6:=c1 copyQ
theorem BN:cY K xx y6:=λys H Q p ra e q=>by
 obtain ⟨y,rfl,g⟩:=eD e
 clear e
 have e:=g
 clear g
 have j:=ra y Fe
 have i:=j.rep
 obtain ⟨da,n,r,l⟩:=y
 dsimp only at i e
 cases da with
 | dt kvs =>
  obtain ⟨f,ps,d,rfl,rfl,m,h,rs⟩:=i.view
  obtain ⟨ns,h1,h2⟩:=FR.mp (show ((bR (kvs.map (·.1))).bind λns=>if (ns.map dG).Nodup then some ((.dt kvs,.u):D×Fl) else none)=some p from e)
  by_cases a:(ns.map dG).Nodup
  .rw[if_pos a] at h2
   cases h2
   refine #[f,ps,ns,rfl,m.rd,by rw[<- h];exact ie h1,a,λp b=>?_]
   refine q #[.dt kvs,.ref p,p::d,.u] _ #[bh b,.dT a8 h (rs.same (bh b)),λc a=>?_,λ_=>#[rfl,p,d,rfl,rfl,λa=>?_,b]] rfl rfl
   .rcases Fm.mp a with e | a
    .rw[e];exact .inl b
    .exact .inr (oM (y:=#[.dt kvs,.ref f,f::d,l]) Fe j rfl rfl c a)
   .obtain ⟨o,k⟩:=(rs.inH p a).ex
    rw[b] at k
    exact nsE k
  .rw[if_neg a] at h2;exact nsE h2
 | _=>exact nsE e
end
def pC (i j:Nat) (ms:M3 (List R3)):SM:=ac ms λrs Z=>match rs with
 | [.val a f,.val b f']=>if (i < Z.length/\j < Z.length)/\f≠.l/\f'≠.l then some (.ok .nx,(Z.set i (some (a,f))).set j (some (b,f'))) else none
 | _=>none
section
variable {K:FG} {G0:Gm} {W0:D->Sto->Prop} {H:Hp} {Y:St}
theorem zI {i j:Nat} {ms:M3 (List R3)} {E:Ends} (hi:G0.pr i=false) (l:G0.pr j=false) (h:tS K G0 W0 (pC i j ms) E Y H):CQ i j (tA K G0 W0 ms) E Y H:=by
 refine h.use λG W le Z T g r Z' w e q=>?_
 refine tA.seq le w e q.err λrs Z1 e1 n H1 Ts g1 c a1=>?_
 split at e1
 .rename_i p f1 o f2
  cases a1 with | cons a1 as=>cases as with | cons a2 as=>cases as with | nil =>
  cases a1 with | val a=>cases a2 with | val x2 =>
  split at e1
  .rename_i b
   cases e1
   have d:Wf K G H1 Y Z1 (a::x2::T) g1:=Wf.perm (T:=x2::a::T) c (List.Perm.swap ..)
   have m:=d.store (f:=a.f) b.1.1 (by rw[le.pr];exact hi) (.inl rfl) b.2.1
   have k:=m.store (i:=j) (f:=x2.f) (by rw[List.length_set];exact b.1.2) (by rw[le.pr];exact l) (.inl rfl) b.2.2
   exact #[a.v,x2.v,rfl,q _ _ _ k]
  .exact nsE e1
 .exact nsE e1
end
section
variable {X:Cx} {G0:Gm} {W0:D->Sto->Prop}
theorem Ag (i j:Nat) {x y:Str} {a b:Expr} {ms:M3 (List R3)} {c py pt pos:Pos} {kt k2 pt2} (e:X.calm=true) (n:X.N.Nodup) (hi:X.N[i]?=some x) (m:X.N[j]?=some y) (d:i≠j)
  (f:X.env.scope.names.lookup x=some .local) (k:X.env.scope.names.lookup y=some .local) (o:RA X G0 W0 [a,b] ms)
  (hw:swappedStores [.Tuple [.Name x c,.Name y py] kt pt] (.Tuple [a,b] k2 pt2) X.env=pure (some [x,y]))
  (l:swapsWithSole [.Tuple [.Name x c,.Name y py] kt pt] (.Tuple [a,b] k2 pt2) pos.line X.env=pure false) (pi:G0.pr i=false) (g:G0.pr j=false) :
  RS X G0 W0 (.Assign [.Tuple [.Name x c,.Name y py] kt pt] (.Tuple [a,b] k2 pt2) pos) (pC i j ms):=#[PS.imp (xC e n hi m d f k o.h hw l) λ_ _ _ h=>zI pi g h]
end
end L3
end
section
namespace Bn
open PySem L2 L3
abbrev Pd (p:Int×Int):L3.D:=.tup [.int p.1,.int p.2]
theorem a9 {bnd:L3.D->Sto->Option Sto} {b:SM} (P:Nat->Sto->Prop):∀ {ds:List L3.D} {Z:Sto} {k:Nat},P k Z->(∀ i d Z,ds[i]?=some d->P (k+i) Z->∃ Z1 Z2,bnd d Z=some Z1/\(b Z1=some (.ok .nx,Z2)\/b Z1=some (.ok .ct,Z2))/\P (k+i+1) Z2)->∃ Z',dJ bnd b ds Z=some (.ok .nx,Z')/\P (k+ds.length) Z'
 | [],Z,k,h0,_=>#[Z,rfl,h0]
 | d::ds,Z,k,h0,hs=>by
  obtain ⟨Z1,Z2,e1,a,h1⟩:=hs 0 d Z rfl h0
  obtain ⟨Z',c,h3⟩:=a9 P (ds:=ds) (Z:=Z2) (k:=k+1) h1 λi d Z hd e=>by
   have:=hs (i+1) d Z (by simpa using hd) (by rwa [show k+(i+1)=k+1+i by lia])
   rwa [show k+(i+1)+1=k+1+i+1 by lia] at this
  refine #[Z',?_,by rw[FO,show k+(ds.length+1)=k+1+ds.length by lia];exact h3]
  unfold dJ
  simp only[e1]
  rcases a with a | a <;> simp only[ac,a,c]
theorem oV {bnd:L3.D->Sto->Option Sto} {b:SM} (P:Nat->Sto->Prop) (E:Nat->L3.D->Fl->Sto->Prop):∀ {ds:List L3.D} {Z:Sto} {k:Nat},P k Z ->
  (∀ i d Z,ds[i]?=some d->P (k+i) Z->∃ Z1 Z2,bnd d Z=some Z1/\(((b Z1=some (.ok .nx,Z2)\/b Z1=some (.ok .ct,Z2))/\P (k+i+1) Z2)\/∃ r f,b Z1=some (.ok (.rt r f),Z2)/\E (k+i) r f Z2)) ->
  ∃ Z',(dJ bnd b ds Z=some (.ok .nx,Z')/\P (k+ds.length) Z')\/∃ i r f,i < ds.length/\dJ bnd b ds Z=some (.ok (.rt r f),Z')/\E (k+i) r f Z'
 | [],Z,k,h0,_=>#[Z,.inl #[rfl,h0]]
 | d::ds,Z,k,h0,hs=>by
  obtain ⟨Z1,Z2,e1,h1⟩:=hs 0 d Z rfl h0
  rcases h1 with ⟨a,h1⟩ | ⟨r,f,a,h1⟩
  .obtain ⟨Z',h3⟩:=oV P E (ds:=ds) (Z:=Z2) (k:=k+1) h1 λi d Z hd g=>by
    have:=hs (i+1) d Z (by simpa using hd) (by rwa [show k+(i+1)=k+1+i by lia])
    rwa [show k+(i+1)=k+1+i by lia] at this
   have e:dJ bnd b (d::ds) Z=dJ bnd b ds Z2:=by
    conv=>lhs;unfold dJ
    simp only[e1]
    rcases a with a | a <;> simp only[ac,a]
   rcases h3 with ⟨c,h3⟩ | ⟨i,r,f,hi,c,h3⟩
   .exact #[Z',.inl #[e.trans c,by rw[FO,show k+(ds.length+1)=k+1+ds.length by lia];exact h3]]
   .exact #[Z',.inr #[i+1,r,f,by simp;lia,e.trans c,by rw[show k+(i+1)=k+1+i by lia];exact h3]]
  .refine #[Z2,.inr #[0,r,f,by simp,?_,h1]]
   unfold dJ
   simp only[e1,ac,a,aT]
theorem bG {lo:Int} {n i:Nat} {d:L3.D} (h:(aS lo n)[i]?=some d):i < n/\d=.int (lo+i):=by
 unfold aS at h
 grind
theorem bz {lo:Int} {n:Nat}:(aS lo n).length=n:=by unfold aS;simp
theorem BE {xs:List L3.D} {m:Nat} (h:m<=xs.length):j8 xs none (some (m:Int))=xs.take m:=by
 have e1:HT.sIx xs.length 0 none=0:=rfl
 have a:HT.sIx xs.length xs.length (some (m:Int))=m:=by
  simp only[HT.sIx]
  split <;> lia
 unfold j8
 rw[e1,a]
 simp
theorem Small.sub {p q:Pt} (a:Small p) (b:Small q):(-18446744073709551616 < q.1 - p.1/\q.1 - p.1 < 18446744073709551616)/\(-18446744073709551616 < q.2 - p.2/\q.2 - p.2 < 18446744073709551616):=by
 obtain ⟨a1,a2,d,a4⟩:=a
 obtain ⟨b1,b2,e,c⟩:=b
 exact #[#[by lia,by lia],#[by lia,by lia]]
theorem mZ {c:M3 Bool} {b:SM} (P:Nat->Sto->Prop) (Q:Sto->Prop) {n:Nat} {Z:Sto} (h0:P n Z)
  (j:∀ n Z,P n Z->(∃ Z1,c Z=some (.ok false,Z1)/\Q Z1)\/∃ Z1 Z2 m,c Z=some (.ok true,Z1)/\(b Z1=some (.ok .nx,Z2)\/b Z1=some (.ok .ct,Z2))/\m < n/\P m Z2):∃ Z',eW c b Z=some (.ok .nx,Z')/\Q Z':=by
 have main:∀ n Z,P n Z->∃ Z',b6 c b (n+1) Z=some (.ok .nx,Z')/\Q Z':=by
  intro n
  induction n using Nat.strongRecOn with
  | _ n ih =>
   intro Z k
   rcases j n Z k with ⟨Z1,e1,d⟩ | ⟨Z1,Z2,m,e1,a,hm,g⟩
   .refine #[Z1,?_,d]
    unfold b6
    simp[ac,e1,aT]
   .obtain ⟨Z',i,d⟩:=ih m hm Z2 g
    refine #[Z',?_,d]
    have f:=jO (show m+1<=n by lia) i
    unfold b6
    rcases a with a | a <;> simp[ac,e1,a,f]
 obtain ⟨Z',e,d⟩:=main n Z h0
 refine #[Z',?_,d]
 unfold eW
 have h:∃ n r,b6 c b n Z=some r:=#[_,_,e]
 rw[dif_pos h]
 have a:=Classical.choose_spec (Classical.choose_spec h)
 have i:=jO (Nat.le_max_left (n+1) (Classical.choose h)) e
 have f:=jO (Nat.le_max_right (n+1) (Classical.choose h)) a
 rw[i] at f
 exact f.symm
theorem ai {a b:SM} {Z Z1:Sto} {r:Option (Except L3.D Flw×Sto)} (h1:a Z=some (.ok .nx,Z1)) (h2:b Z1=r):aA a b Z=r:=by
 simp only[aA,ac,h1]
 exact h2
theorem io {bnd:L3.D->Sto->Option Sto} {c:M3 Bool} {elt:EM} (P:Sto->Prop) (g:L3.D->Bool) (f:L3.D->L3.D):∀ {ds:List L3.D} {U:Sto},P U ->
  (∀ d∈ds,∀ U,P U->∃ U1 U2,bnd d U=some U1/\c U1=some (.ok (g d),U2)/\(g d=false->P U2)/\(g d=true->∃ r U3 p U4,elt U2=some (.ok r,U3)/\fh r U3=some (.ok p,U4)/\p.1=f d/\P U4)) ->
  ∃ U',bC bnd c elt ds U=some (.ok ((ds.filter g).map f),U')/\P U'
 | [],U,h0,_=>#[U,rfl,h0]
 | d::ds,U,h0,hs=>by
  obtain ⟨U1,U2,e1,b,hf,l⟩:=hs d Fe U h0
  cases a:g d with
  | false =>
   obtain ⟨U',e,i⟩:=io P g f (ds:=ds) (U:=U2) (hf a) λd hd=>hs d (Ff _ hd)
   refine #[U',?_,i]
   unfold bC
   rw[a] at b
   simp[e1,ac,b,e,List.filter_cons,a]
  | true =>
   obtain ⟨r,U3,p,U4,k,j,m,h⟩:=l a
   obtain ⟨U',e,i⟩:=io P g f (ds:=ds) (U:=U4) h λd hd=>hs d (Ff _ hd)
   refine #[U',?_,i]
   unfold bC
   rw[a] at b
   simp[e1,ac,b,k,j,e,List.filter_cons,a,aT,m]
abbrev Tri:=Nat×Nat×Nat
def mG (i j m:Nat):List Tri:=(List.range m).map λk=>(i,j,j+1+k)
def jR (n i m:Nat):List Tri:=(List.range m).flatMap λj=>mG i (i+1+j) (n - (i+1+j+1))
def ol (n m:Nat):List Tri:=(List.range m).flatMap λi=>jR n i (n - (i+1))
def cf (n:Nat):List Tri:=ol n n
theorem pG (i j m:Nat):(mG i j m).length=m:=by simp[mG]
theorem ni (n i m:Nat):jR n i (m+1)=jR n i m++mG i (i+1+m) (n - (i+1+m+1)):=by simp[jR,List.range_succ,List.flatMap_append]
theorem nk (n m:Nat):ol n (m+1)=ol n m++jR n m (n - (m+1)):=by simp[ol,List.range_succ,List.flatMap_append]
theorem x6 {i j m:Nat} {t:Tri} (h:t∈mG i j m):t.1=i/\t.2.1=j/\j < t.2.2/\t.2.2 < j+1+m:=by
 obtain ⟨k,a,rfl⟩:=Fy.mp h
 grind
theorem jx {n:Nat} {t:Tri} (h:t∈cf n):t.1 < t.2.1/\t.2.1 < t.2.2/\t.2.2 < n:=by
 obtain ⟨i,hi,h⟩:=F3.mp h
 obtain ⟨j,a,h⟩:=F3.mp h
 rw[List.mem_range] at hi a
 obtain ⟨h1,h2,h3,b⟩:=x6 h
 exact #[by lia,by lia,by lia]
theorem sU (n i m:Nat):(jR n i m).length<=m * n:=by
 induction m with
 | zero=>simp[jR]
 | succ m ih=>rw[ni,FN,pG,Nat.succ_mul];lia
theorem Al (n m:Nat):(ol n m).length<=m * (n * n):=by
 induction m with
 | zero=>simp[ol]
 | succ m ih =>
  rw[nk,FN,Nat.succ_mul]
  have:=sU n m (n - (m+1))
  have h2:(n - (m+1)) * n<=n * n:=Nat.mul_le_mul (by lia) (FA _)
  lia
theorem q9 {n m:Nat} (a:n<=25) (hm:m<=25):(ol n m).length<=15625:=by
 have h1:=Al n m
 have h2:n * n<=25 * 25:=Nat.mul_le_mul a a
 have h3:m * (n * n)<=25 * (25 * 25):=Nat.mul_le_mul hm h2
 lia
theorem q8 {n i m:Nat} (a:n<=25) (hm:m<=25):(jR n i m).length<=625:=by
 have h1:=sU n i m
 have h2:m * n<=25 * 25:=Nat.mul_le_mul hm a
 lia
abbrev Td (t:Tri):L3.D:=.tup [.int t.1,.int t.2.1,.int t.2.2]
abbrev Shd (ps:List Pt):L3.D:=.tup (ps.map Pd)
theorem aW {im:IM} {bnd:L3.D->Sto->Option Sto} {c:M3 Bool} {elt:EM} {ix:List (Option Nat)} {Z Z1 Z2 U:Sto} {rs:List R3} {ds out:List L3.D} (h1:im Z=some (.ok (rs,ds),Z1)) (h2:bC bnd c elt ds (si ix (aK cX (us Z1 (pls rs)) Z1))=some (.ok out,U)) (h3:ds.length < 16777216) (a:uncap ix U (aK cX (us Z1 (pls rs)) Z1)=some Z2) :
  bt im bnd c elt ix Z=some (.ok (.val (.lst out) .u),aK gp (us Z1 (pls rs)) Z2):=by
 simp[bt,ac,h1,h2,h3,a]
theorem qN:∀ {ds:List L3.D},(∀ d∈ds,d=.bl true)->iW ds=some (List.replicate ds.length true)
 | [],_=>rfl
 | d::ds,h=>by
  have h1:=h d Fe
  subst h1
  have h2:=qN λd hd=>h d (Ff _ hd)
  simp[iW,h2,List.replicate_succ]
theorem nZ {ds:List L3.D} (h:∀ d∈ds,d=.bl true):E7 (.lst ds)=#v[.bl true]:=by
 simp[E7,qN h]
theorem uz {xs:List L3.D} {i:Nat} {d:L3.D} (h:xs[i]?=some d):L2.atI xs (i:Int)=some d:=by
 obtain ⟨h1,h2⟩:=Fu.mp h
 simp[L2.atI,ixN,h1,h2]
theorem wa {ps:List Pt} {i:Nat} {p:Pt} (h:ps[i]?=some p):L2.atI (ps.map Pd) (i:Int)=some (Pd p):=uz (by simp[h])
theorem yI {f:List L3.D->Option (List L3.D)} {ms:M3 (List R3)} {Z Z1 Z2:Sto} {rs:List R3} {ds xs:List L3.D} (h1:ms Z=some (.ok rs,Z1)) (h2:dj rs Z1=some (.ok ds,Z2)) (h3:f ds=some xs):aY f ms Z=some (.ok ([],xs),Z2):=by
 simp[aY,ac,h1,h2,h3,aX]
theorem eL {a b:Int} (e:-1000<=a/\a<=1000) (f:-1000<=b/\b<=1000) {n:Nat} (d:(b - a).toNat=n):dN [.int a,.int b]=some (aS a n):=by
 have lm:cj a=true:=FH (by lia)
 have c:cj b=true:=FH (by lia)
 show (if (cj a && cj b)=true then some (aS a (b - a).toNat) else none)=_
 rw[lm,c,d]
 exact if_pos rfl
theorem dz {b:Int} (d:-1000<=b/\b<=1000) {n:Nat} (c:b.toNat=n):dO [.int b]=some (aS 0 n):=by
 have a:cj b=true:=FH (by lia)
 show (if (cj b)=true then some (aS 0 b.toNat) else none)=_
 rw[a,c]
 exact if_pos rfl
section
variable {α:Type} {Z Z1 Z2 Z3:Sto} {ma mb mc m:EM} {ms:M3 (List R3)} {ra rb r:R3} {rs:List R3} {da db d:L3.D} {ds:List L3.D} {fl:Fl} {i n np:Nat} {sa sb:SM} {c cc:M3 Bool} {b b2:Bool} {x:Option (Except L3.D Flw×Sto)} {y:Option (Except L3.D R3×Sto)}
theorem ag {p:L3.D×Fl} (h:(Z[i]?).join=some p):ab i Z=some (.ok (.pl i),Z):=by simp[ab,h]
theorem i_c:mC d Z=some (.ok (.val d .z),Z):=rfl
theorem ay {f:L3.D->L3.D->Option (L3.D×Fl)} (h1:ma Z=some (.ok ra,Z1)) (h2:mb Z1=some (.ok rb,Z2)) (h3:der ra Z2=some (.ok da,Z2)) (b:der rb Z2=some (.ok db,Z2)) (a:f da db=some (d,fl)):af f ma mb Z=some (.ok (.val d fl),Z2):=by
 simp only[af,ac,h1,h2,h3,b,aX,a,FQ]
theorem ED {f:L3.D->Option (L3.D×Fl)} (h1:ma Z=some (.ok ra,Z1)) (h3:der ra Z1=some (.ok da,Z1)) (a:f da=some (d,fl)):mUn f ma Z=some (.ok (.val d fl),Z1):=by
 simp only[mUn,ac,h1,h3,aX,a,FQ]
theorem aC {f:List L3.D->Option (L3.D×Fl)} (h1:ms Z=some (.ok rs,Z1)) (h3:dj rs Z1=some (.ok ds,Z1)) (a:f ds=some (d,fl)):ao f ms Z=some (.ok (.val d fl),Z1):=by
 simp only[ao,ac,h1,h3,aX,a,FQ]
theorem aq:ah Z=some (.ok [],Z):=rfl
theorem ad (h1:m Z=some (.ok r,Z1)) (h2:ms Z1=some (.ok rs,Z2)):aa m ms Z=some (.ok (r::rs),Z2):=by
 simp only[aa,ac,h1,h2,aT]
theorem l8 {mk:List L3.D->L3.D} {f:Fl} (h1:ms Z=some (.ok rs,Z1)) (h2:gives rs Z1=some (.ok ds,Z2)) (h3:ds.length<=16777216):Bt mk f ms Z=some (.ok (.val (mk ds) f),Z2):=by
 simp only[Bt,ac,h1,h2,aX,h3,if_true,FQ]
theorem aj {F:Fn} {ps qs:List (L3.D×Fl)} (b:F ps=some (.ok (d,fl),qs)) (h1:ms Z=some (.ok rs,Z1)) (h2:prs (frz (qt rs) Z1) rs=some ps) (h3:qs.length=ps.length) (a:back rs ps qs (frz (qt rs) Z1)=Z2):ak F ms Z=some (.ok (.val d fl),Z2):=by
 simp only[ak,ac,h1,h2,b,h3,if_true,a]
theorem iT {p:L3.D×Fl} (h1:m Z=some (.ok r,Z1)) (h2:fh r Z1=some (.ok p,Z2)) (h3:i < Z2.length) (a:Z2.set i (some p)=Z3):aZ i m Z=some (.ok .nx,Z3):=by
 simp only[aZ,ac,h1,h2,h3,if_true,a]
theorem i_asg {bnd:L3.D->Sto->Option Sto} {p:L3.D×Fl} (h1:m Z=some (.ok r,Z1)) (h2:fh r Z1=some (.ok p,Z2)) (h3:bnd p.1 Z2=some Z3):uQ bnd m Z=some (.ok .nx,Z3):=by
 simp only[uQ,ac,h1,h2,h3,FQ]
theorem i_par {a b:L3.D} {j:Nat} (h1:ms Z=some (.ok rs,Z1)) (h2:gives rs Z1=some (.ok [a,b],Z2)) (hi:i < Z2.length) (c:j < Z2.length) (h3:(Z2.set i #v[a]).set j #v[b]=Z3):wK i j ms Z=some (.ok .nx,Z3):=by
 simp only[wK,ac,h1,h2,hi,c,and_self,if_true,h3]
theorem rY (h1:m Z=some (.ok r,Z1)):gh m Z=some (.ok .nx,Z1):=by
 simp only[gh,ac,h1,aT]
def retF (np:Nat) (r:R3):SM:=aL np (aT r)
theorem bp (h1:m Z=some (.ok r,Z1)) (h2:retF np r Z1=x):aL np m Z=x:=by
 rw[<- h2]
 unfold retF
 simp only[aL,ac,h1,aT]
theorem gq (h1:sa Z=some (.ok (.rt d fl),Z1)):aA sa sb Z=some (.ok (.rt d fl),Z1):=by
 simp only[aA,ac,h1,aT]
theorem bS (h1:m Z=some (.ok r,Z1)) (h2:der r Z1=some (.ok (.bl b),Z1)):cB m Z=some (.ok b,Z1):=by
 simp only[cB,ac,h1,h2,aX,asB,FQ]
theorem dQ (h1:c Z=some (.ok b,Z1)):fD c Z=some (.ok (!b),Z1):=by
 simp only[fD,ac,h1,aT]
theorem iU (h1:c Z=some (.ok b,Z1)) (a:b=true) (h2:sa Z1=x):sIf c sa sb Z=x:=by
 subst a;simp only[sIf,ac,h1,if_true];exact h2
theorem bB (h1:c Z=some (.ok b,Z1)) (a:b=false) (h2:sb Z1=x):sIf c sa sb Z=x:=by
 subst a;simp only[sIf,ac,h1,FU,if_false];exact h2
theorem gj (h1:c Z=some (.ok b,Z1)) (a:b=false) (h2:cc Z1=some (.ok b2,Z2)):cOr c cc Z=some (.ok b2,Z2):=by
 subst a;simp only[cOr,ac,h1,FU,if_false];exact h2
theorem rZ (h1:c Z=some (.ok b,Z1)) (a:b=true) (h2:cc Z1=some (.ok b2,Z2)):qH c cc Z=some (.ok b2,Z2):=by
 subst a;simp only[qH,ac,h1,if_true];exact h2
theorem yJ (h1:c Z=some (.ok b,Z1)) (a:b=false):qH c cc Z=some (.ok false,Z1):=by
 subst a;simp only[qH,ac,h1,FU,if_false];rfl
theorem oT (h1:ma Z=some (.ok r,Z1)) (h2:der r Z1=some (.ok (.bl b),Z1)) (a:b=true) (h3:mb Z1=y):l4 ma mb Z=y:=by
 subst a;simp only[l4,ac,h1,h2,aX,asB,FQ,if_true];exact h3
theorem EG (h1:ma Z=some (.ok r,Z1)) (h2:der r Z1=some (.ok (.bl b),Z1)) (a:b=true):mOr ma mb Z=some (.ok (.val (.bl true) .z),Z1):=by
 subst a;simp only[mOr,ac,h1,h2,aX,asB,FQ,if_true];rfl
theorem EH (h1:ma Z=some (.ok r,Z1)) (h2:der r Z1=some (.ok (.bl b),Z1)) (a:b=false) (h3:mb Z1=y):mOr ma mb Z=y:=by
 subst a;simp only[mOr,ac,h1,h2,aX,asB,FQ,FU,if_false];exact h3
theorem EI (h1:c Z=some (.ok b,Z1)) (a:b=true) (h2:ma Z1=y):mIf c ma mb Z=y:=by
 subst a;simp only[mIf,ac,h1,if_true];exact h2
theorem EJ (h1:c Z=some (.ok b,Z1)) (a:b=false) (h2:mb Z1=y):mIf c ma mb Z=y:=by
 subst a;simp only[mIf,ac,h1,FU,if_false];exact h2
theorem EE {f:L3.D->Option Int->Option Int->Option (L3.D×Fl)} {pl pu:M3 (Option Int)} {lo hi:Option Int} (h1:ma Z=some (.ok ra,Z1)) (h2:pl Z1=some (.ok lo,Z2)) (h3:pu Z2=some (.ok hi,Z3)) (b:der ra Z3=some (.ok da,Z3)) (a:f da lo hi=some (d,fl)):mSl f ma pl pu Z=some (.ok (.val d fl),Z3):=by
 simp only[mSl,ac,h1,h2,h3,b,aX,a,FQ]
theorem oS:pQ Z=some (.ok none,Z):=rfl
theorem oR {k:Int} (h1:m Z=some (.ok r,Z1)) (h2:der r Z1=some (.ok (.int k),Z1)):iQ m Z=some (.ok (some k),Z1):=by
 simp only[iQ,ac,h1,h2,aX,asI,FQ]
theorem i_mut {ok:L3.D->Bool} {f:L3.D->List L3.D->Option (L3.D×L3.D)} {b c a:L3.D} (h0:(Z[i]?).join=some (d,fl)) (h:ok d=true) (h1:ms Z=some (.ok rs,Z1)) (h2:gives rs Z1=some (.ok ds,Z2)) (h3:(Z2[i]?).join=some (b,.u)) (g:f b ds=some (c,a)) (e:Z2.set i (some (c,.u))=Z3):vm ok f i ms Z=some (.ok (.val a .z),Z3):=by
 simp only[vm,ac,ag h0,chk,h0,h,if_true,h1,h2,h3,g,e]
theorem ql {f:L3.D->List L3.D->Option (L3.D×L3.D)} {a b c:L3.D} (h1:mb Z=some (.ok rb,Z1)) (h0:(Z1[i]?).join=some (d,fl)) (h2:ma Z1=some (.ok ra,Z2)) (h3:gives [ra,rb] Z2=some (.ok ds,Z3)) (g:(Z3[i]?).join=some (a,.u)) (e:f a ds=some (b,c)):oh f i ma mb Z=some (.ok .nx,Z3.set i (some (b,.u))):=by
 simp only[oh,ac,h1,ag h0,h2,h3,g,e]
theorem aI {mask:List Bool} {ps qs:List (L3.D×Fl)} (h1:ps.length=mask.length) (h0:kF n (List.zipWith vp mask ps)=Z) (h2:sa Z=some (.ok (.rt d fl),Z1)) (h3:iO Z1 0 (List.zipWith vp mask ps)=some qs):fnM mask n sa ps=some (.ok (d,fl),qs):=by
 subst h0;simp only[fnM,h1,if_true,fn0,h2,h3,FQ]
theorem F_nx {mask:List Bool} {ps qs:List (L3.D×Fl)} (h1:ps.length=mask.length) (h0:kF n (List.zipWith vp mask ps)=Z) (h2:sa Z=some (.ok .nx,Z1)) (h3:iO Z1 0 (List.zipWith vp mask ps)=some qs):fnM mask n sa ps=some (.ok (.non,.z),qs):=by
 subst h0;simp only[fnM,h1,if_true,fn0,h2,h3,FQ]
theorem fm {i j:Int} (h:-18446744073709551616 < i/\i < 18446744073709551616):dW (.int i) (.int j)=#v[.int (i * j)]:=by
 simp[fB,h]
theorem x5 {i j:Int} (h:-18446744073709551616 < j/\j < 18446744073709551616):dW (.int i) (.int j)=#v[.int (i * j)]:=by
 simp[fB,h]
theorem dH {im:IM} {bnd:L3.D->Sto->Option Sto} {o:Except L3.D Flw} (h1:im Z=some (.ok (rs,ds),Z1)) (a:us Z1 (pls rs)=[]) (h2:dJ bnd sb ds Z1=some (o,Z2)):cy im bnd sb Z=some (o,Z2):=by
 have b:∀ f Z,aK f [] Z=Z:=λ_ _=>rfl
 simp only[cy,ac,h1,a,b,h2,FQ]
theorem j4 {im:IM} {bnd:L3.D->Sto->Option Sto} {o:Except L3.D Flw} {is:List Nat} (h1:im Z=some (.ok (rs,ds),Z1)) (a:us Z1 (pls rs)=is) (h2:dJ bnd sb ds (aK cX is Z1)=some (o,Z2)):cy im bnd sb Z=some (o,aK gp is Z2):=by
 simp only[cy,ac,h1,a,h2,FQ]
theorem ld (h1:m Z=some (.ok r,Z1)) (h2:der r Z1=some (.ok d,Z1)) (h3:B6 d=some ds):cP m Z=some (.ok ([r],ds),Z1):=by
 simp only[cP,ac,h1,h2,aX,h3,FQ]
theorem cn {f:List L3.D->Option (List L3.D)} {xs:List L3.D} (h1:ms Z=some (.ok rs,Z1)) (h2:dj rs Z1=some (.ok ds,Z1)) (h3:f ds=some xs):aY f ms Z=some (.ok ([],xs),Z1):=yI h1 h2 h3
end
theorem bq {α:Type} {bnd:L3.D->Sto->Option Sto} {c:M3 Bool} {elt:EM} (P:Sto->Prop) (D:α->L3.D) (g:α->Bool) (f:α->L3.D):∀ {xs:List α} {U:Sto},P U ->
  (∀ x∈xs,∀ U,P U->∃ U1 U2,bnd (D x) U=some U1/\c U1=some (.ok (g x),U2)/\(g x=false->P U2)/\(g x=true->∃ r U3 p U4,elt U2=some (.ok r,U3)/\fh r U3=some (.ok p,U4)/\p.1=f x/\P U4)) ->
  ∃ U',bC bnd c elt (xs.map D) U=some (.ok ((xs.filter g).map f),U')/\P U'
 | [],U,h0,_=>#[U,rfl,h0]
 | x::xs,U,h0,hs=>by
  obtain ⟨U1,U2,e1,b,hf,l⟩:=hs x Fe U h0
  cases a:g x with
  | false =>
   obtain ⟨U',e,i⟩:=bq P D g f (xs:=xs) (U:=U2) (hf a) λd hd=>hs d (Ff _ hd)
   refine #[U',?_,i]
   rw[FF]
   unfold bC
   rw[a] at b
   simp[e1,ac,b,e,List.filter_cons,a]
  | true =>
   obtain ⟨r,U3,p,U4,k,j,m,h⟩:=l a
   obtain ⟨U',e,i⟩:=bq P D g f (xs:=xs) (U:=U4) h λd hd=>hs d (Ff _ hd)
   refine #[U',?_,i]
   rw[FF]
   unfold bC
   rw[a] at b
   simp[e1,ac,b,k,j,e,List.filter_cons,a,aT,m]
section
variable {α:Type} {P:List α->Prop} {us:List α}
theorem bnd0 (h:us.length=0) (f:P []):P us:=by
 cases us with
 | nil=>exact f
 | cons a us=>cases h
theorem BQ {n:Nat} (h:us.length=n+1) (f:∀ a r,r.length=n->P (a::r)):P us:=by
 cases us with
 | nil=>cases h
 | cons a us=>exact f a us (Nat.succ.inj h)
theorem bnd1 (h:us.length=1) (f:∀ a,P [a]):P us:=BQ h λa _ h=>bnd0 (P:=λr=>P (a::r)) h (f a)
theorem bnd2 (h:us.length=2) (f:∀ a b,P [a,b]):P us:=BQ h λa _ h=>bnd1 (P:=λr=>P (a::r)) h (f a)
theorem bnd3 (h:us.length=3) (f:∀ a b c,P [a,b,c]):P us:=BQ h λa _ h=>bnd2 (P:=λr=>P (a::r)) h (f a)
theorem bnd4 (h:us.length=4) (f:∀ a b c d,P [a,b,c,d]):P us:=BQ h λa _ h=>bnd3 (P:=λr=>P (a::r)) h (f a)
end
theorem hb1 {x:Str} {st:Stmt} {b:Str} (f:∀ (kV doc pm:Value) (an:Option Addr) (a ct c:Value),bindArgs (PySem.W.fnOf x x (aV st) (aO st) (ae st) .none kV doc pm an a ct) #[[c],[]]=pure ([b].zip [c])) (kV doc pm:Value) (an:Option Addr) (a ct:Value) (us:List Value) (d:us.length=[b].length):bindArgs (PySem.W.fnOf x x (aV st) (aO st) (ae st) .none kV doc pm an a ct) #[us,[]]=pure ([b].zip us) :=
 bnd1 (P:=λus=>bindArgs (PySem.W.fnOf x x (aV st) (aO st) (ae st) .none kV doc pm an a ct) #[us,[]]=pure ([b].zip us)) d (f kV doc pm an a ct)
theorem hb2 {x:Str} {st:Stmt} {b c:Str} (f:∀ (kV doc pm:Value) (an:Option Addr) (a ct d a1:Value),bindArgs (PySem.W.fnOf x x (aV st) (aO st) (ae st) .none kV doc pm an a ct) #[[d,a1],[]]=pure ([b,c].zip [d,a1])) (kV doc pm:Value) (an:Option Addr) (a ct:Value) (us:List Value) (e:us.length=[b,c].length):bindArgs (PySem.W.fnOf x x (aV st) (aO st) (ae st) .none kV doc pm an a ct) #[us,[]]=pure ([b,c].zip us) :=
 bnd2 (P:=λus=>bindArgs (PySem.W.fnOf x x (aV st) (aO st) (ae st) .none kV doc pm an a ct) #[us,[]]=pure ([b,c].zip us)) e (f kV doc pm an a ct)
theorem hb3 {x:Str} {st:Stmt} {b c p2:Str} (f:∀ (kV doc pm:Value) (an:Option Addr) (a ct d a1 a2:Value),bindArgs (PySem.W.fnOf x x (aV st) (aO st) (ae st) .none kV doc pm an a ct) #[[d,a1,a2],[]]=pure ([b,c,p2].zip [d,a1,a2])) (kV doc pm:Value) (an:Option Addr) (a ct:Value) (us:List Value) (e:us.length=[b,c,p2].length):bindArgs (PySem.W.fnOf x x (aV st) (aO st) (ae st) .none kV doc pm an a ct) #[us,[]]=pure ([b,c,p2].zip us) :=
 bnd3 (P:=λus=>bindArgs (PySem.W.fnOf x x (aV st) (aO st) (ae st) .none kV doc pm an a ct) #[us,[]]=pure ([b,c,p2].zip us)) e (f kV doc pm an a ct)
theorem hb4 {x:Str} {st:Stmt} {c d p2 b:Str} (f:∀ (kV doc pm:Value) (an:Option Addr) (a ct g a1 a2 e:Value),bindArgs (PySem.W.fnOf x x (aV st) (aO st) (ae st) .none kV doc pm an a ct) #[[g,a1,a2,e],[]]=pure ([c,d,p2,b].zip [g,a1,a2,e])) (kV doc pm:Value) (an:Option Addr) (a ct:Value) (us:List Value) (h:us.length=[c,d,p2,b].length):bindArgs (PySem.W.fnOf x x (aV st) (aO st) (ae st) .none kV doc pm an a ct) #[us,[]]=pure ([c,d,p2,b].zip us) :=
 bnd4 (P:=λus=>bindArgs (PySem.W.fnOf x x (aV st) (aO st) (ae st) .none kV doc pm an a ct) #[us,[]]=pure ([c,d,p2,b].zip us)) h (f kV doc pm an a ct)
end Bn
end
section
namespace L3
open PySem L2
def tgN:Expr->List Str
 | .Name x _=>[x]
 | .Tuple [.Name x _,.Name y _] _ _=>[x,y]
 | .Tuple [.Name x _,.Name y _,.Name z _] _ _=>[x,y,z]
 | _=>[]
def pS (tg:Expr) (N:List Str) (ix:List (Option Nat)):List Str:=tgN tg++ix.filterMap λo=>o.bind λi=>N[i]?
def ndB:List Str->Bool
 | []=>true
 | x::xs=>!(xs.any λy=>decide (y=x)) && ndB xs
theorem tL:∀ {xs:List Str},ndB xs=true->xs.Nodup
 | [],_=>.nil
 | x::xs,h=>by
  simp only[ndB,Bool.and_eq_true,Bool.not_eq_true',List.any_eq_false,decide_eq_true_eq] at h
  exact List.nodup_cons.mpr #[λm=>h.1 x m rfl,tL h.2]
section
variable {X:Cx} {G0:Gm} {W0:D->Sto->Prop} {pos:Pos}
theorem xq (f:X.calm=true) (hi:RI X G0 W0 tg iter im) (e:∀ s H C fp,PTs (aN X (pS tg X.N ix) scope s H C fp) ifs (tT X.K (bg ix) noX cm)) (he:∀ s H C fp,RE (aN X (pS tg X.N ix) scope s H C fp) (bg ix) noX elt em) (g:il scope X.N X.env.scope (pS tg X.N ix) ix=true) (b:Inj ix) (d:∀ x,foldedSetIterable iter X.env x=pure x) (c:∃ a,Bnd X.K (bg ix).pr a bnd/\∀ s H C fp,PG (aN X (pS tg X.N ix) scope s H C fp) tg a):RE X G0 W0 (.ListComp elt [#[tg,iter,ifs,0]] scope pos) (bt im bnd cm em ix) :=
 Ax _ ix f hi e he g b d c
theorem pF {i:Nat} (l:X.N.Nodup) (g:X.N[i]?=some y) (f:Loc X.env.scope y) (e:X.calm=true) (hi:RI X G0 W0 tg iter im) (k:∀ s H C fp,PTs (aN X (pS tg X.N ix) scope s H C fp) ifs (tT X.K (bg ix) noX cm)) (he:∀ s H C fp,RE (aN X (pS tg X.N ix) scope s H C fp) (bg ix) noX elt em) (m:il scope X.N X.env.scope (pS tg X.N ix) ix=true) (b:Inj ix) (c:swapsWith (.ListComp elt [#[tg,iter,ifs,0]] scope pos) (some (.Name y py)) spos.line X.env=pure true) (hf:X.fn y=true\/X.env.scope.names.lookup y=some .local) (h:∀ x,foldedSetIterable iter X.env x=pure x) (j:G0.pr i=false) (d:∃ a,Bnd X.K (bg ix).pr a bnd/\∀ s H C fp,PG (aN X (pS tg X.N ix) scope s H C fp) tg a):RS X G0 W0 (.Assign [.Name y py] (.ListComp elt [#[tg,iter,ifs,0]] scope pos) spos) (aZ i (bt im bnd cm em ix)) :=
 q5 l g f _ ix e hi k he m b c hf h j d
end
section
variable {X:Cx} {G0:Gm} {W0:D->Sto->Prop} {p q r:Pos} {m:EM} {e e1:Expr} {es:List Expr} {t:M3 Bool} {sm:SM}
theorem gN {i:Nat} (h:RE X G0 W0 (.Name x p) (ab i)):RE X G0 W0 (.Name x p) (ab i):=h
theorem gG (h:RE X G0 W0 (.Name x p) (mC d)):RE X G0 W0 (.Name x p) (mC d):=h
theorem gH (h:RE X G0 W0 (.Name x p) m):RE X G0 W0 (.Name x p) m:=h
theorem gK {k:Nat} (h:RE X G0 W0 (.Constant c k p) m):RE X G0 W0 (.Constant c k p) m:=h
theorem gB (op:Operator) (h:RE X G0 W0 (.BinOp e op e1 p) m):RE X G0 W0 (.BinOp e op e1 p) m:=h
theorem gU (op:UnaryOp) (h:RE X G0 W0 (.UnaryOp op e p) m):RE X G0 W0 (.UnaryOp op e p) m:=h
theorem gP (os:List CmpOp) (h:RE X G0 W0 (.Compare e os es p) m):RE X G0 W0 (.Compare e os es p) m:=h
theorem gO (h:RE X G0 W0 (.BoolOp op es p) m):RE X G0 W0 (.BoolOp op es p) m:=h
theorem gS (h:RE X G0 W0 (.Subscript e e1 p) m):RE X G0 W0 (.Subscript e e1 p) m:=h
theorem gL (h:RE X G0 W0 (.Subscript e (.Slice a b c p) q) m):RE X G0 W0 (.Subscript e (.Slice a b c p) q) m:=h
theorem gI (x:Str) (h:RE X G0 W0 (.Call (.Name s p) [e,.Name x q] [] r) m):RE X G0 W0 (.Call (.Name s p) [e,.Name x q] [] r) m:=h
theorem gC (x:Str) (h:RE X G0 W0 (.Call (.Name x p) es ks q) m):RE X G0 W0 (.Call (.Name x p) es ks q) m:=h
theorem gD (h:RE X G0 W0 (.Call (.Name x p) es ks q) m):RE X G0 W0 (.Call (.Name x p) es ks q) m:=h
theorem gM (x:Str) (h:RE X G0 W0 (.Call (.Attribute e x p) es ks q) m):RE X G0 W0 (.Call (.Attribute e x p) es ks q) m:=h
theorem gE (h:RE X G0 W0 e m):RE X G0 W0 e m:=h
theorem gA (h:RA X G0 W0 es ms):RA X G0 W0 es ms:=h
theorem gQ (os:List CmpOp) (h:RT X G0 W0 (.Compare e os es p) t):RT X G0 W0 (.Compare e os es p) t:=h
theorem gW (h:RT X G0 W0 (.BoolOp op es p) t):RT X G0 W0 (.BoolOp op es p) t:=h
theorem gV (h:RT X G0 W0 (.UnaryOp .Not e p) t):RT X G0 W0 (.UnaryOp .Not e p) t:=h
theorem gT (h:RT X G0 W0 e t):RT X G0 W0 e t:=h
theorem gR (h:RS X G0 W0 (.Return o p) sm):RS X G0 W0 (.Return o p) sm:=h
theorem gF (h:RS X G0 W0 (.If e ss tt p) sm):RS X G0 W0 (.If e ss tt p) sm:=h
theorem gX (h:RS X G0 W0 (.Assign [.Name x p] e q) sm):RS X G0 W0 (.Assign [.Name x p] e q) sm:=h
theorem gZ (h:RS X G0 W0 st sm):RS X G0 W0 st sm:=h
theorem gY (h:RSs X G0 W0 ss sm):RSs X G0 W0 ss sm:=h
end
end L3
end
section
namespace Bn
open PySem L2 L3
local macro_rules | `(tactic| infer_instance)=>`(tactic| first | with_reducible apply ag | with_reducible exact i_c | with_reducible apply ay | with_reducible apply ED | with_reducible apply aC | with_reducible exact aq | with_reducible apply ad | with_reducible apply l8 | with_reducible apply iT | with_reducible apply i_asg | with_reducible apply rY | with_reducible apply bp | with_reducible exact i_nilS | with_reducible apply bS | with_reducible apply dQ | with_reducible apply i_mNot | with_reducible apply EE | with_reducible exact oS | with_reducible apply oR | with_reducible apply i_mut | with_reducible apply ql | with_reducible apply ld | with_reducible apply cn | with_reducible apply oT | with_reducible apply gj)
local macro_rules | `(tactic| eq_refl)=>`(tactic| first | exact rfl | exact Nat.le_of_ble_eq_true rfl)
local macro_rules | `(tactic| nofun) => `(tactic| repeat' (first | infer_instance | eq_refl))
local macro_rules | `(tactic| exists $es,*) => `(tactic| repeat' (first | infer_instance | (first $[| exact $es]*) | eq_refl))
local macro_rules | `(tactic| nomatch [$fs,*]) => `(tactic| repeat' (first | infer_instance | (first $[| with_reducible apply aj $fs]*) | eq_refl))
local macro_rules | `(tactic| nomatch [$fs,*], [$es,*]) => `(tactic| repeat' (first | infer_instance | (first $[| with_reducible apply aj $fs]*) | (first $[| exact $es]*) | eq_refl))
section
variable {X:Cx} {G0:Gm} {W0:L3.D->Sto->Prop} {pos:Pos}
end
section
variable {P:Program} {w:World} {K:FG} {mg:Str->Option Value} {base:Heap}
local macro_rules | `(tactic| ac_rfl) => `(tactic| exact ⟨rfl,rfl,rfl,by decide +kernel,rfl,by decide +kernel,by decide +kernel⟩)
set_option hygiene false
local macro_rules | `(tactic| and_intros)=>`(tactic| repeat' (first
 | ((with_reducible apply gA);first | refine Az ?_ ?_ rfl | refine Dz)
 | ((with_reducible apply gN);first | refine om _ rfl (Or.inl rfl) (by decide) (by decide) | refine om _ rfl (Or.inr (Or.inl rfl)) (by decide) (by decide))
 | ((with_reducible apply gG);refine pH rfl (by assumption) (by decide))
 | ((with_reducible apply gK);first | refine Dw | refine re_bl | refine Dt)
 | ((with_reducible apply gL);first | refine xo ?_ ?_ ?_ | refine Av ?_ ?_)
 | ((with_reducible apply gS);refine re_ix (EC hr.hu) Ej ?_ ?_ (λ_ _=>rfl))
 | ((with_reducible apply gB .Add);refine jT A4 En ?_ ?_)
 | ((with_reducible apply gB .Sub);refine jT DZ A6 ?_ ?_)
 | ((with_reducible apply gB .Mult);refine jT Ed A9 ?_ ?_)
 | ((with_reducible apply gB .FloorDiv);refine jT xP Be ?_ ?_)
 | ((with_reducible apply gB .Mod);refine jT Ee Ba ?_ ?_)
 | ((with_reducible apply gB .Pow);refine jT Ea A8 ?_ ?_)
 | ((with_reducible apply gQ [.Eq]);refine i5 (xQ hr.units) xW ?_ ?_ (eX _))
 | ((with_reducible apply gQ [.NotEq]);first | refine i5 (Eb hr.units) Ek ?_ ?_ (eX _) | refine i5 (Ec hr.units) El ?_ ?_ (eX _))
 | ((with_reducible apply gQ [.IsNot]);refine i5 A3 Bc ?_ ?_ (eX _))
 | ((with_reducible apply gQ [.Lt]);refine i5 tG xV ?_ ?_ (eX _))
 | ((with_reducible apply gQ [.Gt]);refine i5 op_gt od_gt ?_ ?_ (eX _))
 | ((with_reducible apply gQ [.LtE]);refine i5 lS tK ?_ ?_ (eX _))
 | ((with_reducible apply gW);refine rt_w ?_)
 | ((with_reducible apply gV);refine Di ?_)
 | ((with_reducible apply gT);refine Dh ?_ (λ_=>rfl))
 | ((with_reducible apply gP [.Lt]);refine rf tG xV ?_ ?_ (eX _))
 | ((with_reducible apply gP [.Eq]);refine rf (xQ hr.units) xW ?_ ?_ (eX _))
 | ((with_reducible apply gP [.LtE,.Lt]);refine pJ lS tK tG xV ?_ ?_ ?_ (λh1 h2 h3=>pO lS tG h1 h2 h3))
 | ((with_reducible apply gP [.LtE,.LtE]);refine pJ lS tK lS tK ?_ ?_ ?_ (λh1 h2 h3=>pO lS lS h1 h2 h3))
 | ((with_reducible apply gP [.Is]);refine rf Ef Em ?_ ?_ (eX _))
 | ((with_reducible apply gO);first | refine Dx ?_ ?_ | refine Dr ?_ | refine re_or ?_ ?_)
 | ((with_reducible apply gU .USub);refine re_un CC CD ?_)
 | ((with_reducible apply gU .Not);refine Ds ?_)
 | ((with_reducible apply gI "tuple");refine oq mq rfl B.isinstance (k7 (v:=V.ty "tuple") rfl B.tuple uy rfl (by decide) (by decide)) ?_ rfl rfl rfl)
 | ((with_reducible apply gI "int");refine oq oZ rfl B.isinstance (k7 (v:=V.ty "int") rfl B.int Cy rfl (by decide) (by decide)) ?_ rfl rfl rfl)
 | ((with_reducible apply gI "bool");refine oq mR rfl B.isinstance (k7 (v:=V.ty "bool") rfl B.bool E3 rfl (by decide) (by decide)) ?_ rfl rfl rfl)
 | ((with_reducible apply gI "dict");refine oq mQ rfl B.isinstance (k7 (v:=V.ty "dict") rfl B.dict zo rfl (by decide) (by decide)) ?_ rfl rfl rfl)
 | ((with_reducible apply gC "len");first | refine b8 jJ zc rfl B.len Cw ?_ (by decide) (by decide) rfl rfl | refine b8 vU BL rfl B.len Cw ?_ (by decide) (by decide) rfl rfl)
 | ((with_reducible apply gC "tuple");refine jS mP EU rfl B.tuple uy ?_ (by decide) (by decide) rfl rfl)
 | ((with_reducible apply gC "all");refine b8 (ze rfl) EW rfl B.all b_all ?_ (by decide) (by decide) rfl rfl)
 | ((with_reducible apply gC "max");first | refine Aw rfl rfl B.max ?_ rfl rfl rfl rfl | refine Dv (wR rfl) Bb rfl B.max zm ?_ ?_ (by decide) (by decide) rfl rfl rfl rfl rfl rfl | refine b8 (vT rfl) BK rfl B.max zm ?_ (by decide) (by decide) rfl rfl)
 | ((with_reducible apply gC "int");refine jS vW BM rfl B.int Cy ?_ (by decide) (by decide) rfl rfl)
 | ((with_reducible apply gC "min");first | refine b8 (vN rfl hr.hu) BG rfl B.min zk ?_ (by decide) (by decide) rfl rfl | refine b8 (vQ rfl) BI rfl B.min zk ?_ (by decide) (by decide) rfl rfl | refine b8 (vP rfl) BH rfl B.min zk ?_ (by decide) (by decide) rfl rfl)
 | ((with_reducible apply gC "abs");refine b8 zf EX rfl B.abs b_abs ?_ (by decide) (by decide) rfl rfl)
 | ((with_reducible apply gC "divmod");refine b8 qC vK rfl B.divmod zn ?_ (by decide) (by decide) rfl rfl)
 | ((with_reducible apply gC "sorted");refine b8 (sj rfl) zb rfl B.sorted zj ?_ (by decide) (by decide) rfl rfl)
 | ((with_reducible apply gC "dict");refine jS sk BN rfl B.dict zo ?_ (by decide) (by decide) rfl rfl)
 | ((with_reducible apply gD);refine Ay (by assumption) (hr.mono (by first | decide | omega)) ?_ rfl (by decide) rfl rfl)
 | ((with_reducible apply gM "extend");refine sY (ok:=isL) PySem.F.plainAttrs_list PySem.F.slot_list_extend PySem.F.type_list_extend vd Et yG (lO rfl (Or.inl rfl) (by decide) (by decide)) ?_ rfl rfl rfl rfl rfl)
 | ((with_reducible apply gM "append");refine sY (ok:=isL) PySem.F.plainAttrs_list PySem.F.slot_list_append PySem.F.type_list_append ve Eu yG (lO rfl (Or.inl rfl) (by decide) (by decide)) ?_ rfl rfl rfl rfl rfl)
 | ((with_reducible apply gH);first | refine om _ rfl (Or.inl rfl) (by decide) (by decide) | refine om _ rfl (Or.inr (Or.inl rfl)) (by decide) (by decide) | refine pH rfl (by assumption) (by decide))
 | ((with_reducible apply gE);first | refine Dq ?_ | refine xq rfl ?_ (λs H C fp=>?_) (λs H C fp=>?_) (by rfl) (yH (by decide)) (λ_=>rfl) #[_,jL rfl,λs H C fp=>k6 (tL rfl) rfl (Or.inl rfl) (Or.inr rfl)] | refine Du ?_ | refine xp | refine re_if ?_ ?_ ?_)
 | ((with_reducible apply gY);first | refine Ae ?_ | refine xa ?_ ?_ | refine Af)
 | ((with_reducible apply gR);refine Dj _ (λi hi=>by rw[hp] ;exact AN (by simpa using hi)) ?_)
 | ((with_reducible apply gF);refine rs_if ?_ ?_ ?_)
 | ((with_reducible apply gX);first | refine pF nd rfl (Or.inl rfl) rfl ?_ (λs H C fp=>?_) (λs H C fp=>?_) (by rfl) (yH (by decide)) rfl (Or.inl rfl) (λ_=>rfl) (by rw[hp] ;rfl) #[_,uq (ki (jL rfl) (ki (jL rfl) qI)),λs H C fp=>xI (n:=2) rfl (lN (k6 (tL rfl) rfl (Or.inl rfl) (Or.inr rfl)) (lN (k6 (tL rfl) rfl (Or.inl rfl) (Or.inr rfl)) tD rfl) rfl) rfl rfl] | refine xg _ nd rfl (Or.inl rfl) ?_ rfl (Or.inl rfl) (by rw[hp] ;rfl) | refine xg _ nd rfl (Or.inr rfl) ?_ rfl (Or.inl rfl) (by rw[hp] ;rfl))
 | ((with_reducible apply gZ);first | refine Dl PassesOwn.never rfl ?_ ?_ ?_ (λ_=>rfl) | refine Ah ?_ rfl | refine xh | refine xc (sR hr.hu) ye (lO rfl (Or.inl rfl) (by decide) (by decide)) ?_ ?_ (λ_=>rfl) rfl rfl rfl | refine xc (sR hr.hu) ye (lO rfl (Or.inr (Or.inl rfl)) (by decide) (by decide)) ?_ ?_ (λ_=>rfl) rfl rfl rfl | refine xb PassesOwn.never ?_ ?_ | refine Dm ?_ ?_ rfl rfl rfl | refine Dk _ _ rfl nd rfl rfl (by decide) rfl rfl ?_ rfl rfl (by rw[hp] ;rfl) (by rw[hp] ;rfl) | refine Ag _ _ rfl nd rfl rfl (by decide) rfl rfl ?_ rfl rfl (by rw[hp] ;rfl) (by rw[hp] ;rfl))
 | refine sW _ nd rfl (Or.inl rfl) (Or.inl rfl) (by rw[hp] ;rfl)
 | refine Dn ?_
 | refine xj
 | refine Db ?_
 | refine rw_or ?_ ?_
 | refine Ap rfl B.range ?_ rfl
 | refine Ao rfl B.range ?_ rfl rfl
 | refine sW _ nd rfl (Or.inr rfl) (Or.inl rfl) (by rw[hp] ;rfl)
 | refine Ai ?_
 | refine xn ?_ ?_ rfl
 | refine xi ?_
 | refine Aq ?_
 | refine Aj
 | refine At
 | refine Dp rfl ?_ rfl rfl
 | refine z4 ?_
 | refine Dc ?_ ?_
 | refine Do rfl B.reversed ?_ rfl
 | refine An rfl B.range ?_ rfl rfl
 | refine As rfl B.enumerate ?_ rfl))
local macro_rules | `(tactic| specialize $q) => `(tactic| exact aE D $q rfl rfl (by first | exact hb1 λ_ _ _ _ _ _ _=>rfl | exact hb2 λ_ _ _ _ _ _ _ _=>rfl | exact hb3 λ_ _ _ _ _ _ _ _ _=>rfl | exact hb4 λ_ _ _ _ _ _ _ _ _ _=>rfl) λcdv A outer s H E f G hr hp=>have nd:=($q).nd;by and_intros)
set_option hygiene true
def rJ:SM:=(aL 1 (l4 (mUn (rS "int") (ab 0)) (Ew (mUn (rS "bool") (ab 0)))))
def bc:Fn:=fnM [false] 1 rJ
theorem sc_is_whole:FnScope ["thing"] ["thing"] (ae fL):=by ac_rfl
theorem o0 (B:Bl mg) (D:Def K mg "is_whole" fL):au P w K mg base "is_whole" 1 ["thing"] bc :=by specialize sc_is_whole
def rL:SM:=(aL 1 (l4 (mUn (rS "tuple") (ab 0)) (l4 (af eqX (ao bO (aa (ab 0) ah)) (mC (.int 2))) (l4 (ak bc (aa (af aw (ab 0) (mC (.int 0))) ah)) (ak bc (aa (af aw (ab 0) (mC (.int 1))) ah))))))
def gf:Fn:=fnM [false] 1 rL
theorem sc_is_point:FnScope ["thing"] ["thing"] (ae fN):=by ac_rfl
theorem o4 (B:Bl mg) (D:Def K mg "is_point" fN) (a:au P w K mg base "is_whole" 1 ["thing"] bc):au P w K mg base "is_point" 2 ["thing"] gf :=by specialize sc_is_point
def rM:SM:=(aL 2 (l4 (ak bc (aa (ab 0) ah)) (jW leI ltI (mC (.int 0)) (ab 0) (ab 1))))
def gg:Fn:=fnM [false,false] 2 rM
theorem sc_is_place:FnScope ["thing","many"] ["thing","many"] (ae fO):=by ac_rfl
theorem o5 (B:Bl mg) (D:Def K mg "is_place" fO) (a:au P w K mg base "is_whole" 1 ["thing"] bc):au P w K mg base "is_place" 2 ["thing","many"] gg :=by specialize sc_is_place
def bF:EM:=(ak gg (aa (ab 0) (aa (ab 1) ah)))
def cK:EM:=(bt (cP (ab 0)) (am 0) cW bF [none,some 1])
def cL:EM:=(af ltI (af aw (ab 1) (ab 0)) (af aw (ab 1) (af bH (ab 0) (mC (.int 1)))))
def cJ:EM:=(bt (aY dO (aa (af cT (ao bO (aa (ab 0) ah)) (mC (.int 1))) ah)) (am 0) cW cL [none,some 0])
def iM:SM:=(aA (sIf (cOr (fD (cB (mUn (rS "tuple") (ab 0)))) (fD (cB (ao sK (aa cK ah))))) (aL 2 (mC (.bl false))) cU) (aL 2 (ao sK (aa cJ ah))))
def av:Fn:=fnM [false,false] 2 iM
theorem sc_are_rising_places:FnScope ["thing","many"] ["thing","many"] (ae bu):=by ac_rfl
theorem gk (B:Bl mg) (D:Def K mg "are_rising_places" bu) (a:au P w K mg base "is_place" 2 ["thing","many"] gg):au P w K mg base "are_rising_places" 3 ["thing","many"] av :=by specialize sc_are_rising_places
def mK:SM:=(sIf (fD (cB (ak bc (aa (ab 0) ah)))) oi cU)
def dD:Fn:=fnM [false] 1 mK
theorem sc_check_whole:FnScope ["thing"] ["thing"] (ae dw):=by ac_rfl
theorem kT (B:Bl mg) (D:Def K mg "check_whole" dw) (a:au P w K mg base "is_whole" 1 ["thing"] bc):au P w K mg base "check_whole" 2 ["thing"] dD :=by specialize sc_check_whole
def dP:EM:=(ak gf (aa (ab 0) ah))
def gi:EM:=(bt (cP (ab 0)) (am 0) cW dP [none])
def oJ:SM:=(aL 1 (l4 (jW leI leI (mC (.int 1)) (ao bO (aa (ab 0) ah)) (mC (.int (24)))) (ao sK (aa gi ah))))
def d8:Fn:=fnM [false] 1 oJ
theorem sc_are_points:FnScope ["things"] ["things"] (ae dU):=by ac_rfl
theorem mw (B:Bl mg) (D:Def K mg "are_points" dU) (c:au P w K mg base "is_point" 2 ["thing"] gf) {a:Tok} (b:mg "MOST_POINTS"=some (.int (24) a)):au P w K mg base "are_points" 3 ["things"] d8 :=by specialize sc_are_points
def cI:EM:=(af ltI (af aw (af aw (ab 1) (ab 0)) (mC (.int 0))) (af aw (af aw (ab 1) (af bH (ab 0) (mC (.int 1)))) (mC (.int 0))))
def eO:EM:=(bt (aY dO (aa (af cT (ao bO (aa (ab 0) ah)) (mC (.int 1))) ah)) (am 0) cW cI [none,some 0])
def hU:SM:=(aL 1 (ao sK (aa eO ah)))
def cS:Fn:=fnM [false] 1 hU
theorem sc_has_rising_x:FnScope ["points"] ["points"] (ae cx):=by ac_rfl
theorem kh (B:Bl mg) (D:Def K mg "has_rising_x" cx):au P w K mg base "has_rising_x" 1 ["points"] cS :=by specialize sc_has_rising_x
def Ev:SM:=(aA (aZ 3 (af dW (af cT (af aw (ab 1) (mC (.int 0))) (af aw (ab 0) (mC (.int 0)))) (af cT (af aw (ab 2) (mC (.int 1))) (af aw (ab 0) (mC (.int 1)))))) (aL 3 (af cT (ab 3) (af dW (af cT (af aw (ab 1) (mC (.int 1))) (af aw (ab 0) (mC (.int 1)))) (af cT (af aw (ab 2) (mC (.int 0))) (af aw (ab 0) (mC (.int 0))))))))
def kj:Fn:=fnM [false,false,false] 4 Ev
theorem sc_bend:FnScope ["first","second","third","run"] ["first","second","third"] (ae og):=by ac_rfl
theorem zh (B:Bl mg) (D:Def K mg "bend" og):au P w K mg base "bend" 1 ["first","second","third"] kj :=by specialize sc_bend
def gx:EM:=(eZ (aa (ab 1) (aa (ab 2) (aa (ab 0) ah))))
def kz:EM:=(bt (aY dN (aa (af bH (ab 3) (mC (.int 1))) (aa (ab 0) ah))) (am 0) cW gx [none,some 2,some 3])
def gz:SM:=(gh (vm isL yR 1 (aa kz ah)))
def kA:SM:=(cy (aY dN (aa (af bH (ab 2) (mC (.int 1))) (aa (ab 0) ah))) (am 3) gz)
def yh:SM:=(aA (aZ 1 (l0 ah)) (aA (cy (aY dO (aa (ab 0) ah)) (am 2) kA) (aL 1 (ab 1))))
def fE:Fn:=fnM [false] 4 yh
theorem sc_threes:FnScope ["many","found","i","j"] ["many"] (ae jj):=by ac_rfl
theorem su (B:Bl mg) (D:Def K mg "threes" jj):au P w K mg base "threes" 1 ["many"] fE :=by specialize sc_threes
def cg:EM:=(af aw (ab 1) (ab 0))
def en:EM:=(bt (cP (ab 1)) (am 0) cW cg [none,some 0])
def bE:SM:=(aA (aZ 2 (ao ly (aa en ah))) (sIf (cB (af eqX (ak kj (aa (af aw (ab 2) (mC (.int 0))) (aa (af aw (ab 2) (mC (.int 1))) (aa (af aw (ab 2) (mC (.int 2))) ah)))) (mC (.int 0)))) (aL 1 (ab 2)) cU))
def kJ:SM:=(aA (cy (cP (ak fE (aa (ao bO (aa (ab 0) ah)) ah))) (am 1) bE) (aL 1 (mC .non)))
def ce:Fn:=fnM [false] 3 kJ
theorem sc_first_on_line:FnScope ["points","three","found"] ["points"] (ae cb):=by ac_rfl
theorem jK (B:Bl mg) (D:Def K mg "first_on_line" cb) (b:au P w K mg base "bend" 1 ["first","second","third"] kj) (a:au P w K mg base "threes" 1 ["many"] fE):au P w K mg base "first_on_line" 2 ["points"] ce :=by specialize sc_first_on_line
def rK:SM:=(aA (sIf (cOr (fD (cB (mUn (rS "tuple") (ab 0)))) (fD (cB (ak d8 (aa (ab 0) ah))))) (aL 1 (mC (.bl false))) cU) (aL 1 (l4 (ak cS (aa (ab 0) ah)) (af isN (ak ce (aa (ab 0) ah)) (mC .non)))))
def ge:Fn:=fnM [false] 1 rK
theorem sc_is_sheet:FnScope ["thing"] ["thing"] (ae fM):=by ac_rfl
theorem o3 (B:Bl mg) (D:Def K mg "is_sheet" fM) (c:au P w K mg base "are_points" 3 ["things"] d8) (a:au P w K mg base "first_on_line" 2 ["points"] ce) (b:au P w K mg base "has_rising_x" 1 ["points"] cS):au P w K mg base "is_sheet" 4 ["thing"] ge :=by specialize sc_is_sheet
def mL:SM:=(sIf (fD (cB (ak ge (aa (ab 0) ah)))) oi cU)
def aJ:Fn:=fnM [false] 1 mL
theorem sc_check_sheet:FnScope ["thing"] ["thing"] (ae dy):=by ac_rfl
theorem kU (B:Bl mg) (D:Def K mg "check_sheet" dy) (a:au P w K mg base "is_sheet" 4 ["thing"] ge):au P w K mg base "check_sheet" 5 ["thing"] aJ :=by specialize sc_check_sheet
def vj:SM:=(aL 2 (mIf (cB (af gtI (ak kj (aa (af aw (ab 0) (af aw (ab 1) (mC (.int 0)))) (aa (af aw (ab 0) (af aw (ab 1) (mC (.int 1)))) (aa (af aw (ab 0) (af aw (ab 1) (mC (.int 2)))) ah)))) (mC (.int 0)))) (mC (.int 1)) (mUn lT (mC (.int 1)))))
def bZ:Fn:=fnM [false,false] 2 vj
theorem sc_turn_at:FnScope ["sheet","three"] ["sheet","three"] (ae iw):=by ac_rfl
theorem qD (B:Bl mg) (D:Def K mg "turn_at" iw) (a:au P w K mg base "bend" 1 ["first","second","third"] kj):au P w K mg base "turn_at" 2 ["sheet","three"] bZ :=by specialize sc_turn_at
def yg:SM:=(aA (gh (ak aJ (aa (ab 0) ah))) (aA (aZ 4 (eZ (aa (ab 1) (aa (ab 2) (aa (ab 3) ah))))) (aA (sIf (fD (cB (ak av (aa (ab 4) (aa (ao bO (aa (ab 0) ah)) ah))))) oi cU) (aL 4 (ak bZ (aa (ab 0) (aa (ab 4) ah)))))))
def pd:Fn:=fnM [false,false,false,false] 5 yg
theorem sc_turn:FnScope ["sheet","i","j","k","three"] ["sheet","i","j","k"] (ae oe):=by ac_rfl
theorem zg (B:Bl mg) (D:Def K mg "turn" oe) (a:au P w K mg base "are_rising_places" 3 ["thing","many"] av) (b:au P w K mg base "check_sheet" 5 ["thing"] aJ) (c:au P w K mg base "turn_at" 2 ["sheet","three"] bZ):au P w K mg base "turn" 6 ["sheet","i","j","k"] pd :=by specialize sc_turn
def cM:SM:=(oh n9 1 (ab 2) (ak bZ (aa (ab 0) (aa (ab 2) ah))))
def qf:SM:=(aA (gh (ak aJ (aa (ab 0) ah))) (aA (aZ 1 oK) (aA (cy (cP (ak fE (aa (ao bO (aa (ab 0) ah)) ah))) (am 2) cM) (aL 1 (ab 1)))))
def aR:Fn:=fnM [false] 3 qf
theorem sc_all_turns:FnScope ["sheet","turns","three"] ["sheet"] (ae eK):=by ac_rfl
theorem mW (B:Bl mg) (D:Def K mg "all_turns" eK) (a:au P w K mg base "check_sheet" 5 ["thing"] aJ) (c:au P w K mg base "threes" 1 ["many"] fE) (b:au P w K mg base "turn_at" 2 ["sheet","three"] bZ):au P w K mg base "all_turns" 6 ["sheet"] aR :=by specialize sc_all_turns
def df:EM:=(eZ (aa (af aw (ab 0) (mC (.int 0))) (aa (mUn lT (af aw (ab 0) (mC (.int 1)))) ah)))
def fq:EM:=(bt (cP (ab 0)) (am 0) cW df [none])
def iR:SM:=(aA (gh (ak aJ (aa (ab 0) ah))) (aL 1 (ao ly (aa fq ah))))
def b9:Fn:=fnM [false] 1 iR
theorem sc_turned_over:FnScope ["sheet"] ["sheet"] (ae dl):=by ac_rfl
theorem kO (B:Bl mg) (D:Def K mg "turned_over" dl) (a:au P w K mg base "check_sheet" 5 ["thing"] aJ):au P w K mg base "turned_over" 6 ["sheet"] b9 :=by specialize sc_turned_over
def dh:EM:=(eZ (aa (mUn lT (af aw (ab 0) (mC (.int 0)))) (aa (af aw (ab 0) (mC (.int 1))) ah)))
def fA:EM:=(bt (t5 (aa (ab 0) ah)) (am 0) cW dh [none])
def iS:SM:=(aA (gh (ak aJ (aa (ab 0) ah))) (aL 1 (ao ly (aa fA ah))))
def dC:Fn:=fnM [false] 1 iS
theorem sc_from_behind:FnScope ["sheet"] ["sheet"] (ae du):=by ac_rfl
theorem kS (B:Bl mg) (D:Def K mg "from_behind" du) (a:au P w K mg base "check_sheet" 5 ["thing"] aJ):au P w K mg base "from_behind" 6 ["sheet"] dC :=by specialize sc_from_behind
def fT:EM:=(eZ (aa (af aw (ab 0) (mC (.int 0))) (aa (af bH (af aw (ab 0) (mC (.int 1))) (af dW (ab 1) (af aw (ab 0) (mC (.int 0))))) ah)))
def jy:EM:=(bt (cP (ab 0)) (am 0) cW fT [none,some 1])
def nC:SM:=(aA (gh (ak aJ (aa (ab 0) ah))) (aA (gh (ak dD (aa (ab 1) ah))) (aL 2 (ao ly (aa jy ah)))))
def iL:Fn:=fnM [false,false] 2 nC
theorem sc_sheared:FnScope ["sheet","by"] ["sheet","by"] (ae iz):=by ac_rfl
theorem qE (B:Bl mg) (D:Def K mg "sheared" iz) (b:au P w K mg base "check_sheet" 5 ["thing"] aJ) (a:au P w K mg base "check_whole" 2 ["thing"] dD):au P w K mg base "sheared" 6 ["sheet","by"] iL :=by specialize sc_sheared
def eh:EM:=(af eqX (af aw (ab 2) (mSl slD (ab 3) (iQ (ab 0)) (iQ (af bH (ab 0) (mC (.int 3)))))) (ab 1))
def gJ:EM:=(bt (aY dO (aa (af cT (ao bO (aa (ab 1) ah)) (mC (.int 2))) ah)) (am 0) cW eh [none,some 2,some 0,some 1])
def p9:SM:=(aL 3 (ao sK (aa gJ ah)))
def eU:Fn:=fnM [false,false,false] 3 p9
theorem sc_row_bends:FnScope ["turns","row","way"] ["turns","row","way"] (ae eG):=by ac_rfl
theorem mT (B:Bl mg) (D:Def K mg "row_bends" eG):au P w K mg base "row_bends" 1 ["turns","row","way"] eU :=by specialize sc_row_bends
def tU:SM:=(aA (aZ 3 (ak aR (aa (ab 1) ah))) (aA (sIf (cOr (fD (cB (ak av (aa (ab 0) (aa (ao bO (aa (ab 1) ah)) ah))))) (cB (af ltI (ao bO (aa (ab 0) ah)) (mC (.int 2))))) (aL 3 (mC (.bl false))) cU) (aL 3 (ak eU (aa (ab 3) (aa (ab 0) (aa (ab 2) ah)))))))
def eV:Fn:=fnM [false,false,false] 4 tU
theorem sc_bends:FnScope ["thing","sheet","way","turns"] ["thing","sheet","way"] (ae k4):=by ac_rfl
theorem vZ (B:Bl mg) (D:Def K mg "bends" k4) (c:au P w K mg base "all_turns" 6 ["sheet"] aR) (a:au P w K mg base "are_rising_places" 3 ["thing","many"] av) (b:au P w K mg base "row_bends" 1 ["turns","row","way"] eU):au P w K mg base "bends" 7 ["thing","sheet","way"] eV :=by specialize sc_bends
def qb:SM:=(aL 2 (ak eV (aa (ab 0) (aa (ab 1) (aa (mC (.int (1))) ah)))))
def fH:Fn:=fnM [false,false] 2 qb
theorem sc_is_cup:FnScope ["thing","sheet"] ["thing","sheet"] (ae jp):=by ac_rfl
theorem sE (B:Bl mg) (D:Def K mg "is_cup" jp) (b:au P w K mg base "bends" 7 ["thing","sheet","way"] eV) {a:Tok} (c:mg "UP"=some (.int (1) a)):au P w K mg base "is_cup" 8 ["thing","sheet"] fH :=by specialize sc_is_cup
def qc:SM:=(aL 2 (ak eV (aa (ab 0) (aa (ab 1) (aa (mC (.int (-1))) ah)))))
def fI:Fn:=fnM [false,false] 2 qc
theorem sc_is_cap:FnScope ["thing","sheet"] ["thing","sheet"] (ae jq):=by ac_rfl
theorem sF (B:Bl mg) (D:Def K mg "is_cap" jq) (b:au P w K mg base "bends" 7 ["thing","sheet","way"] eV) {a:Tok} (c:mg "DOWN"=some (.int (-1) a)):au P w K mg base "is_cap" 8 ["thing","sheet"] fI :=by specialize sc_is_cap
def cC:M3 Bool:=(cB (af eqX (af aw (ab 4) (eZ (aa (ab 0) (aa (ab 2) (aa (ab 5) ah))))) (ab 3)))
def cA:EM:=(af aw (ab 1) (eZ (aa (ab 0) (aa (ab 2) ah))))
def eg:EM:=(bt (aY dO (aa (ab 4) ah)) (am 0) cC cA [none,some 3,some 4,some 1,some 2,some 5])
def cE:SM:=(oh n9 3 (eZ (aa (ab 4) (aa (ab 5) ah))) (af bH (mC (.int 1)) (af vh eg (mC (.int 1)))))
def cD:SM:=(cy (aY dN (aa (af bH (ab 4) (mC (.int 1))) (aa (ao bO (aa (ab 0) ah)) ah))) (am 5) cE)
def p8:SM:=(aA (aZ 2 (ak aR (aa (ab 0) ah))) (aA (aZ 3 oK) (aA (cy (aY dO (aa (ao bO (aa (ab 0) ah)) ah)) (am 4) cD) (aL 2 (ab 3)))))
def bD:Fn:=fnM [false,false] 6 p8
theorem sc_row_table:FnScope ["sheet","way","turns","most","i","j"] ["sheet","way"] (ae eF):=by ac_rfl
theorem mS (B:Bl mg) (D:Def K mg "row_table" eF) (a:au P w K mg base "all_turns" 6 ["sheet"] aR):au P w K mg base "row_table" 7 ["sheet","way"] bD :=by specialize sc_row_table
def qd:SM:=(aL 1 (ak bD (aa (ab 0) (aa (mC (.int (1))) ah))))
def dL:Fn:=fnM [false] 1 qd
theorem sc_cup_table:FnScope ["sheet"] ["sheet"] (ae eI):=by ac_rfl
theorem mU (B:Bl mg) (D:Def K mg "cup_table" eI) (a:au P w K mg base "row_table" 7 ["sheet","way"] bD) {b:Tok} (c:mg "UP"=some (.int (1) b)):au P w K mg base "cup_table" 8 ["sheet"] dL :=by specialize sc_cup_table
def qe:SM:=(aL 1 (ak bD (aa (ab 0) (aa (mC (.int (-1))) ah))))
def dM:Fn:=fnM [false] 1 qe
theorem sc_cap_table:FnScope ["sheet"] ["sheet"] (ae eJ):=by ac_rfl
theorem mV (B:Bl mg) (D:Def K mg "cap_table" eJ) (b:au P w K mg base "row_table" 7 ["sheet","way"] bD) {a:Tok} (c:mg "DOWN"=some (.int (-1) a)):au P w K mg base "cap_table" 8 ["sheet"] dM :=by specialize sc_cap_table
def bL:M3 Bool:=(cB (af eqX (af aw (ab 4) (eZ (aa (ab 5) (aa (ab 2) (aa (ab 0) ah))))) (ab 3)))
def bK:EM:=(af aw (ab 1) (eZ (aa (ab 2) (aa (ab 0) ah))))
def cF:EM:=(bt (aY dN (aa (af bH (ab 5) (mC (.int 1))) (aa (ab 1) ah))) (am 0) bL bK [none,some 3,some 5,some 2,some 0,some 4])
def bN:SM:=(oh n9 3 (eZ (aa (ab 4) (aa (ab 5) ah))) (af bH (mC (.int 1)) (af vh cF (mC (.int 1)))))
def bM:SM:=(cy (aY dN (aa (af bH (ab 4) (mC (.int 1))) (aa (ab 1) ah))) (am 5) bN)
def lX:SM:=(aA (aZ 3 oK) (aA (cy (aY re (aa (af cT (ab 1) (mC (.int 2))) (aa (mUn lT (mC (.int 1))) (aa (mUn lT (mC (.int 1))) ah)))) (am 4) bM) (aL 3 (ab 3))))
def cQ:Fn:=fnM [false,false,false] 6 lX
theorem sc_onward_table:FnScope ["turns","many","way","most","i","j"] ["turns","many","way"] (ae cq):=by ac_rfl
theorem kc (B:Bl mg) (D:Def K mg "onward_table" cq):au P w K mg base "onward_table" 1 ["turns","many","way"] cQ :=by specialize sc_onward_table
def bX:M3 Bool:=(cB (af eqX (af aw (ab 2) (ab 0)) (ab 1)))
def fv:EM:=(ab 0)
def dg:EM:=(bt (j3 (ab 3)) (am 0) bX fv [none,some 4,some 3])
def bW:M3 Bool:=(qH (cB (af eqX (af aw (ab 3) (eZ (aa (ab 5) (aa (ab 6) (aa (ab 0) ah))))) (ab 1))) (cB (af eqX (af aw (ab 4) (eZ (aa (ab 6) (aa (ab 0) ah)))) (ab 2))))
def fu:EM:=(ab 0)
def ft:EM:=(bt (aY dN (aa (af bH (ab 7) (mC (.int 1))) (aa (ab 1) ah))) (am 0) bW fu [none,some 2,some 8,some 0,some 3,some 6,some 7])
def bA:M3 Bool:=(cB (af ltI (ao bO (aa (ab 5) ah)) (ab 4)))
def bY:SM:=(aA (aZ 6 (af aw (ab 5) (mUn lT (mC (.int 2))))) (aA (aZ 7 (af aw (ab 5) (mUn lT (mC (.int 1))))) (aA (aZ 8 (af bH (af cT (ab 4) (ao bO (aa (ab 5) ah))) (mC (.int 1)))) (aZ 5 (af bH (ab 5) (eZ (aa (ao tQ (aa ft ah)) ah)))))))
def mH:SM:=(aA (sIf (cB (af eqX (ab 1) (mC (.int 1)))) (aL 3 (mC .non)) cU) (aA (aZ 3 (ak cQ (aa (ab 0) (aa (ab 1) (aa (ab 2) ah))))) (aA (aZ 4 (ao ku (aa (ab 3) ah))) (aA (aZ 5 (ao tO (aa dg ah))) (aA (eW bA bY) (aL 3 (ab 5)))))))
def aP:Fn:=fnM [false,false,false] 9 mH
theorem sc_longest_row:FnScope ["turns","many","way","onward","length","row","i","j","left"] ["turns","many","way"] (ae dm):=by ac_rfl
theorem kP (B:Bl mg) (D:Def K mg "longest_row" dm) (a:au P w K mg base "onward_table" 1 ["turns","many","way"] cQ):au P w K mg base "longest_row" 2 ["turns","many","way"] aP :=by specialize sc_longest_row
def mI:SM:=(aL 1 (ak aP (aa (ak aR (aa (ab 0) ah)) (aa (ao bO (aa (ab 0) ah)) (aa (mC (.int (1))) ah)))))
def dA:Fn:=fnM [false] 1 mI
theorem sc_longest_cup:FnScope ["sheet"] ["sheet"] (ae dn):=by ac_rfl
theorem kQ (B:Bl mg) (D:Def K mg "longest_cup" dn) (b:au P w K mg base "all_turns" 6 ["sheet"] aR) (a:au P w K mg base "longest_row" 2 ["turns","many","way"] aP) {c:Tok} (d:mg "UP"=some (.int (1) c)):au P w K mg base "longest_cup" 7 ["sheet"] dA :=by specialize sc_longest_cup
def mJ:SM:=(aL 1 (ak aP (aa (ak aR (aa (ab 0) ah)) (aa (ao bO (aa (ab 0) ah)) (aa (mC (.int (-1))) ah)))))
def dB:Fn:=fnM [false] 1 mJ
theorem sc_longest_cap:FnScope ["sheet"] ["sheet"] (ae dq):=by ac_rfl
theorem kR (B:Bl mg) (D:Def K mg "longest_cap" dq) (c:au P w K mg base "all_turns" 6 ["sheet"] aR) (a:au P w K mg base "longest_row" 2 ["turns","many","way"] aP) {b:Tok} (d:mg "DOWN"=some (.int (-1) b)):au P w K mg base "longest_cap" 7 ["sheet"] dB :=by specialize sc_longest_cap
def b7:SM:=(aA (sIf (cOr (fD (cB (ak av (aa (ab 2) (aa (ab 1) ah))))) (cB (af neX (ao bO (aa (ab 2) ah)) (mC (.int 2))))) (aL 2 (mC (.bl false))) cU) (sIf (cOr (fD (cB (ak bc (aa (af aw (ab 0) (ab 2)) ah)))) (cB (af ltI (af aw (ab 0) (ab 2)) (mC (.int 2))))) (aL 2 (mC (.bl false))) cU))
def fy:SM:=(aA (sIf (cOr (fD (cB (mUn (rS "dict") (ab 0)))) (cB (af neX (ao yx (aa (ab 0) ah)) (af qu (af dW (ab 1) (af cT (ab 1) (mC (.int 1)))) (mC (.int 2)))))) (aL 2 (mC (.bl false))) cU) (aA (cy (j3 (ab 0)) (am 2) b7) (aL 2 (mC (.bl true)))))
def b5:Fn:=fnM [false,false] 3 fy
theorem sc_has_paper_form:FnScope ["thing","many","pair"] ["thing","many"] (ae bV):=by ac_rfl
theorem jc (B:Bl mg) (D:Def K mg "has_paper_form" bV) (a:au P w K mg base "are_rising_places" 3 ["thing","many"] av) (b:au P w K mg base "is_whole" 1 ["thing"] bc):au P w K mg base "has_paper_form" 4 ["thing","many"] b5 :=by specialize sc_has_paper_form
def eY:SM:=(sIf (qH (cB (af eqX (af aw (ab 3) (ab 4)) (ab 2))) (cB (af leI (af aw (ab 0) (mSl slD (ab 4) (iQ (mC (.int 1))) pQ)) (af aw (ab 0) (mSl slD (ab 4) pQ (iQ (mC (.int 2)))))))) (aL 3 (mC (.bl false))) cU)
def i9:SM:=(aA (aZ 3 (ak aR (aa (ab 1) ah))) (aA (sIf (fD (cB (ak b5 (aa (ab 0) (aa (ao bO (aa (ab 1) ah)) ah))))) (aL 3 (mC (.bl false))) cU) (aA (cy (j3 (ab 3)) (am 4) eY) (aL 3 (mC (.bl true))))))
def bT:Fn:=fnM [false,false,false] 5 i9
theorem sc_is_paper:FnScope ["thing","sheet","way","turns","three"] ["thing","sheet","way"] (ae fP):=by ac_rfl
theorem o6 (B:Bl mg) (D:Def K mg "is_paper" fP) (b:au P w K mg base "all_turns" 6 ["sheet"] aR) (a:au P w K mg base "has_paper_form" 4 ["thing","many"] b5):au P w K mg base "is_paper" 7 ["thing","sheet","way"] bT :=by specialize sc_is_paper
def lY:SM:=(aL 2 (ak bT (aa (ab 0) (aa (ab 1) (aa (mC (.int (1))) ah)))))
def bU:Fn:=fnM [false,false] 2 lY
theorem sc_is_cup_paper:FnScope ["thing","sheet"] ["thing","sheet"] (ae cr):=by ac_rfl
theorem ke (B:Bl mg) (D:Def K mg "is_cup_paper" cr) (a:au P w K mg base "is_paper" 7 ["thing","sheet","way"] bT) {b:Tok} (c:mg "UP"=some (.int (1) b)):au P w K mg base "is_cup_paper" 8 ["thing","sheet"] bU :=by specialize sc_is_cup_paper
def lZ:SM:=(aL 2 (ak bT (aa (ab 0) (aa (ab 1) (aa (mC (.int (-1))) ah)))))
def cR:Fn:=fnM [false,false] 2 lZ
theorem sc_is_cap_paper:FnScope ["thing","sheet"] ["thing","sheet"] (ae cv):=by ac_rfl
theorem kg (B:Bl mg) (D:Def K mg "is_cap_paper" cv) (b:au P w K mg base "is_paper" 7 ["thing","sheet","way"] bT) {a:Tok} (c:mg "DOWN"=some (.int (-1) a)):au P w K mg base "is_cap_paper" 8 ["thing","sheet"] cR :=by specialize sc_is_cap_paper
def yk:SM:=(aA (sIf (cB (af ltI (ab 1) (ao bO (aa (ab 0) ah)))) (aL 2 (af aw (ab 0) (ab 1))) cU) (aL 2 (mC (.int 0))))
def jN:Fn:=fnM [false,false] 2 yk
theorem sc_l_cell:FnScope ["_law_script","_law_k"] ["_law_script","_law_k"] (ae jn):=by ac_rfl
theorem sC (B:Bl mg) (D:Def K mg "_law_cell" jn):au P w K mg base "_law_cell" 1 ["_law_script","_law_k"] jN :=by specialize sc_l_cell
def Br:SM:=(aA (aZ 2 (l0 (aa (mC (.int 48271)) (aa (mC (.int 69621)) (aa (mC (.int 16807)) (aa (mC (.int 39373)) (aa (mC (.int 30269)) (aa (mC (.int 40014)) (aa (mC (.int 40692)) (aa (mC (.int 50021)) (aa (mC (.int 61687)) (aa (mC (.int 71993)) (aa (mC (.int 83869)) (aa (mC (.int 95561)) (aa (mC (.int 30307)) ah))))))))))))))) (aA (aZ 3 (af bH (af bH (af dW (af bH (af rF (ab 0) (mC (.int 2147483647))) (mC (.int 12345))) (af aw (ab 2) (af rF (ab 1) (mC (.int 13))))) (af dW (mC (.int 977)) (ab 1))) (af dW (mC (.int 7919)) (af qu (ab 1) (mC (.int 13)))))) (aA (aZ 3 (af rF (ab 3) (mC (.int 1000000007)))) (aL 2 (af qu (af rF (af bH (af dW (ab 3) (ab 3)) (af dW (mC (.int 48271)) (ab 1))) (mC (.int 1000000007))) (mC (.int 7)))))))
def lj:Fn:=fnM [false,false] 4 Br
theorem sc_l_mix:FnScope ["_law_cell_here","_law_k","_law_some","_law_stir"] ["_law_cell_here","_law_k"] (ae kY):=by ac_rfl
theorem vX (B:Bl mg) (D:Def K mg "_law_mix" kY):au P w K mg base "_law_mix" 1 ["_law_cell_here","_law_k"] lj :=by specialize sc_l_mix
def i8:SM:=(aZ 3 (af bH (af dW (ab 3) (mC (.int 142857143))) (ak lj (aa (ab 2) (aa (ab 4) ah)))))
def Bs:SM:=(aA (aZ 2 (ak jN (aa (ab 0) (aa (ab 1) ah)))) (aA (sIf (cB (af eqX (af rF (ab 2) (mC (.int 2))) (mC (.int 0)))) (aL 2 (l0 (aa (af qu (ao absD (aa (ab 2) ah)) (mC (.int 2))) ah))) cU) (aA (aZ 3 (mC (.int 0))) (aA (cy (aY dO (aa (mC (.int 40)) ah)) (am 4) i8) (aL 2 (l0 (aa (ab 3) ah)))))))
def lq:Fn:=fnM [false,false] 5 Bs
theorem sc_l_box:FnScope ["_law_script","_law_k","_law_cell_here","_law_number","_law_j"] ["_law_script","_law_k"] (ae kZ):=by ac_rfl
theorem vY (B:Bl mg) (D:Def K mg "_law_box" kZ) (a:au P w K mg base "_law_cell" 1 ["_law_script","_law_k"] jN) (b:au P w K mg base "_law_mix" 1 ["_law_cell_here","_law_k"] lj):au P w K mg base "_law_box" 2 ["_law_script","_law_k"] lq :=by specialize sc_l_box
def yi:SM:=(aA (uQ (qL 2 (eS (am 2) (eS (am 3) qM))) (ao yW (aa (af aw (ab 0) (mC (.int 0))) (aa (ab 1) ah)))) (aA (oh n9 0 (mC (.int 0)) (ab 2)) (aL 2 (ab 3))))
def bI:Fn:=fnM [false,false] 4 yi
theorem sc_l_take:FnScope ["_law_box_here","_law_many","_law_left","_law_digit"] ["_law_box_here","_law_many"] (ae jl):=by ac_rfl
theorem sA (B:Bl mg) (D:Def K mg "_law_take" jl):au P w K mg base "_law_take" 1 ["_law_box_here","_law_many"] bI :=by specialize sc_l_take
def yl:SM:=(aA (uQ (qL 2 (eS (am 3) (eS (am 4) qM))) (ab 0)) (aA (aZ 5 (af dW (af cT (af aw (ab 1) (mC (.int 0))) (ab 3)) (af cT (af aw (ab 2) (mC (.int 1))) (ab 4)))) (aL 3 (af cT (ab 5) (af dW (af cT (af aw (ab 1) (mC (.int 1))) (ab 4)) (af cT (af aw (ab 2) (mC (.int 0))) (ab 3)))))))
def ir:Fn:=fnM [false,false,false] 6 yl
theorem sc_l_bend:FnScope ["_law_one","_law_two","_law_three","_law_x","_law_y","_law_wide"] ["_law_one","_law_two","_law_three"] (ae jo):=by ac_rfl
theorem sD (B:Bl mg) (D:Def K mg "_law_bend" jo):au P w K mg base "_law_bend" 1 ["_law_one","_law_two","_law_three"] ir :=by specialize sc_l_bend
def dF:SM:=(sIf (cB (af eqX (ak ir (aa (ab 4) (aa (ab 3) (aa (ab 1) ah)))) (mC (.int 0)))) (aL 2 (mC (.bl false))) cU)
def kB:SM:=(cy (cP (mSl slD (ab 0) pQ (iQ (ab 2)))) (am 4) dF)
def yj:SM:=(aA (cy (rX (aa (ab 0) ah)) (qL 2 (eS (am 2) (eS (am 3) qM))) kB) (aL 2 (mC (.bl true))))
def jM:Fn:=fnM [false,false] 5 yj
theorem sc_l_free:FnScope ["_law_found","_law_point","_law_at","_law_one","_law_two"] ["_law_found","_law_point"] (ae jm):=by ac_rfl
theorem sB (B:Bl mg) (D:Def K mg "_law_free" jm) (a:au P w K mg base "_law_bend" 1 ["_law_one","_law_two","_law_three"] ir):au P w K mg base "_law_free" 2 ["_law_found","_law_point"] jM :=by specialize sc_l_free
def cG:M3 Bool:=(fD (cB (ak jM (aa (ab 5) (aa (eZ (aa (ab 4) (aa (ab 9) ah))) ah)))))
def dY:SM:=(aZ 9 (af bH (ab 9) (mC (.int 1))))
def cH:SM:=(aA (aZ 4 (af bH (af bH (ab 4) (mC (.int 1))) (ak bI (aa (ab 0) (aa (mC (.int 3)) ah))))) (aA (aZ 7 (af cT (ak bI (aa (ab 0) (aa (mC (.int 31)) ah))) (mC (.int 15)))) (aA (aZ 8 (l0 (aa (ab 7) (aa (ab 7) (aa (af bH (af dW (ab 6) (ab 6)) (af qu (ab 7) (mC (.int 9)))) (aa (af cT (af qu (ab 7) (mC (.int 9))) (af dW (ab 6) (ab 6))) ah)))))) (aA (aZ 8 (af bH (ab 8) (l0 (aa (af dW (af bH (af dW (ab 6) (ab 6)) (mC (.int 30))) (af cT (mC (.int 1)) (af dW (mC (.int 2)) (af rF (ab 6) (mC (.int 2)))))) (aa (af dW (ab 7) (mC (.int 1000))) ah))))) (aA (aZ 9 (af aw (ab 8) (ab 3))) (aA (eW cG dY) (gh (vm isL BT 5 (aa (eZ (aa (ab 4) (aa (ab 9) ah))) ah)))))))))
def fU:EM:=(eZ (aa (af bH (af dW (af xF (mC (.int 10)) (mC (.int 12))) (ab 0)) (mC (.int 7))) (aa (af dW (af xF (mC (.int 10)) (mC (.int 9))) (ab 1)) ah)))
def dX:EM:=(bt (cP (ab 5)) (qL 2 (eS (am 0) (eS (am 1) qM))) cW fU [none,none])
def nD:SM:=(aA (aZ 2 (af bH (mC (.int 1)) (ak bI (aa (ab 0) (aa (ab 1) ah))))) (aA (aZ 3 (ak bI (aa (ab 0) (aa (mC (.int 6)) ah)))) (aA (aZ 4 (af cT (ak bI (aa (ab 0) (aa (mC (.int 9)) ah))) (mC (.int 4)))) (aA (aZ 5 (l0 ah)) (aA (cy (aY dO (aa (ab 2) ah)) (am 6) cH) (aA (sIf (cB (af eqX (ak bI (aa (ab 0) (aa (mC (.int 6)) ah))) (mC (.int 5)))) (aZ 5 dX) cU) (aL 2 (ao ly (aa (ab 5) ah)))))))))
def fF:Fn:=fnM [false,false] 10 nD
theorem sc_l_sheet:FnScope ["_law_box_here","_law_most","_law_many","_law_kind","_law_x","_law_found","_law_k","_law_given","_law_some","_law_y"] ["_law_box_here","_law_most"] (ae iA):=by ac_rfl
theorem qF (B:Bl mg) (D:Def K mg "_law_sheet" iA) (b:au P w K mg base "_law_free" 2 ["_law_found","_law_point"] jM) (a:au P w K mg base "_law_take" 1 ["_law_box_here","_law_many"] bI):au P w K mg base "_law_sheet" 3 ["_law_box_here","_law_most"] fF :=by specialize sc_l_sheet
def d6:SM:=(sIf (cB (af neX (ak pd (aa (ab 1) (aa (af aw (ab 2) (ab 4)) (aa (af aw (ab 2) (ab 5)) (aa (af aw (ab 2) (ab 6)) ah))))) (af aw (l0 (aa (mUn lT (mC (.int 1))) (aa (mC (.int 1)) ah))) (ao qk (aa (ab 3) ah))))) (aL 4 (mC (.bl false))) cU)
def d5:SM:=(cy (aY dN (aa (af bH (ab 5) (mC (.int 1))) (aa (ao bO (aa (ab 2) ah)) ah))) (am 6) d6)
def dZ:SM:=(cy (aY dN (aa (af bH (ab 4) (mC (.int 1))) (aa (ao bO (aa (ab 2) ah)) ah))) (am 5) d5)
def fV:M3 Bool:=(cB (af gtI (ak bI (aa (ab 1) (aa (mC (.int 3)) ah))) (mC (.int 0))))
def jB:EM:=(ab 0)
def jA:EM:=(bt (cP (ab 2)) (am 0) fV jB [none,some 0])
def nE:SM:=(aA (cy (aY dO (aa (ao bO (aa (ab 2) ah)) ah)) (am 4) dZ) (aA (aZ 7 (ao ly (aa jA ah))) (aL 4 (mOr (af ltI (ao bO (aa (ab 7) ah)) (mC (.int 2))) (af aw (l0 (aa (ak fI (aa (ab 7) (aa (ab 1) ah))) (aa (ak fH (aa (ab 7) (aa (ab 1) ah))) ah))) (ao qk (aa (ab 3) ah)))))))
def fG:Fn:=fnM [false,false,false,false] 8 nE
theorem sc_l_right:FnScope ["_law_box_here","_law_sheet_here","_law_row","_law_up","_law_i","_law_j","_law_k","_law_part"] ["_law_box_here","_law_sheet_here","_law_row","_law_up"] (ae iB):=by ac_rfl
theorem qG (B:Bl mg) (D:Def K mg "_law_right" iB) (a:au P w K mg base "_law_take" 1 ["_law_box_here","_law_many"] bI) (c:au P w K mg base "is_cap" 8 ["thing","sheet"] fI) (b:au P w K mg base "is_cup" 8 ["thing","sheet"] fH) (d:au P w K mg base "turn" 6 ["sheet","i","j","k"] pd):au P w K mg base "_law_right" 9 ["_law_box_here","_law_sheet_here","_law_row","_law_up"] fG :=by specialize sc_l_right
def hJ:SM:=(aA (aZ 11 (ao y6 (aa (ab 6) ah))) (aA (oh n9 11 (ab 8) (af cT (af aw (ab 11) (ab 8)) (mC (.int 1)))) (sIf (cB (af vA (ak bU (aa (ab 11) (aa (ab 3) ah))) (mC (.bl false)))) (aL 1 (mC (.bl false))) cU)))
def jz:EM:=(af cT (af cT (ab 1) (mC (.int 1))) (ab 0))
def qa:EM:=(bt (cP (tV (ab 4) (iQ (mUn lT (mC (.int 1)))))) (am 0) cW jz [none,some 9])
def hE:SM:=(aA (aZ 2 (ak lq (aa (ab 0) (aa (ab 1) ah)))) (aA (aZ 3 (ak fF (aa (ab 2) (aa (mC (.int 9)) ah)))) (sIf (cB (af gtI (ao bO (aa (ab 3) ah)) (mC (.int 1)))) (aA (wK 4 5 (aa (ak dA (aa (ab 3) ah)) (aa (ak dB (aa (ab 3) ah)) ah))) (aA (sIf (cOr (fD (cB (ak fG (aa (ab 2) (aa (ab 3) (aa (ab 4) (aa (mC (.bl true)) ah))))))) (fD (cB (ak fG (aa (ab 2) (aa (ab 3) (aa (ab 5) (aa (mC (.bl false)) ah)))))))) (aL 1 (mC (.bl false))) cU) (aA (pC 6 7 (aa (ak dL (aa (ab 3) ah)) (aa (ak dM (aa (ab 3) ah)) ah))) (aA (sIf (cOr (cB (af neX (ao ku (aa (ab 6) ah)) (ao bO (aa (ab 4) ah)))) (cB (af neX (ao ku (aa (ab 7) ah)) (ao bO (aa (ab 5) ah))))) (aL 1 (mC (.bl false))) cU) (aA (sIf (cOr (cB (af vA (ak bU (aa (ab 6) (aa (ab 3) ah))) (mC (.bl true)))) (cB (af vA (ak cR (aa (ab 7) (aa (ab 3) ah))) (mC (.bl true))))) (aL 1 (mC (.bl false))) cU) (aA (cy (cP (ao n4 (aa (ab 6) ah))) (am 8) hJ) (aA (aZ 9 (ao bO (aa (ab 3) ah))) (aA (sIf (cOr (cB (af vA (ak fI (aa (ab 4) (aa (ak b9 (aa (ab 3) ah)) ah))) (mC (.bl true)))) (cB (af Bj (ak dM (aa (ak b9 (aa (ab 3) ah)) ah)) (ab 6)))) (aL 1 (mC (.bl false))) cU) (aA (aZ 10 (ao ly (aa qa ah))) (sIf (cOr (cB (af vA (ak fH (aa (ab 10) (aa (ak dC (aa (ab 3) ah)) ah))) (mC (.bl true)))) (cB (af Bj (ak dL (aa (ak iL (aa (ab 3) (aa (mC (.int 7)) ah))) ah)) (ab 6)))) (aL 1 (mC (.bl false))) cU)))))))))) cU)))
def m_law:SM:=(aA (cy (aY dO (aa (ao Ch (aa (mC (.int 1)) (aa (ao Cg (aa (ao bO (aa (ab 0) ah)) (aa (mC (.int 3)) ah))) ah))) ah)) (am 1) hE) (aL 1 (mC (.bl true))))
def Cz:Fn:=fnM [false] 12 m_law
theorem sc_law:FnScope ["_law_script","_law_k","_law_box_here","_law_sheet_here","_law_cup","_law_cap","_law_cups","_law_caps","_law_key","_law_many","_law_about","_law_less"] ["_law_script"] (ae gr):=by ac_rfl
theorem BD {f:Addr} {fd:FuncData} (B:Bl mg) (D:Fun K "law" "law" gr f fd) (m:au P w K mg base "_law_box" 2 ["_law_script","_law_k"] lq) (i:au P w K mg base "_law_right" 9 ["_law_box_here","_law_sheet_here","_law_row","_law_up"] fG) (h:au P w K mg base "_law_sheet" 3 ["_law_box_here","_law_most"] fF) (l:au P w K mg base "cap_table" 8 ["sheet"] dM) (j:au P w K mg base "cup_table" 8 ["sheet"] dL) (c:au P w K mg base "from_behind" 6 ["sheet"] dC) (o:au P w K mg base "is_cap" 8 ["thing","sheet"] fI) (b:au P w K mg base "is_cap_paper" 8 ["thing","sheet"] cR) (p:au P w K mg base "is_cup" 8 ["thing","sheet"] fH) (a:au P w K mg base "is_cup_paper" 8 ["thing","sheet"] bU) (d:au P w K mg base "longest_cap" 7 ["sheet"] dB) (e:au P w K mg base "longest_cup" 7 ["sheet"] dA) (n:au P w K mg base "sheared" 6 ["sheet","by"] iL) (g:au P w K mg base "turned_over" 6 ["sheet"] b9):FnOk P w K mg base CX0 10 f fd ["_law_script"] (uN K Cz) :=
 EL (k:=9) D sc_law rfl rfl λcdv A outer s H E f G hr hp =>
  have nd:=sc_law.nd;by and_intros
end
theorem iC (i:Int):bc [(.int i,.z)]=some (.ok (.bl true,.z),[(.int i,.z)]):=by
 apply aI (Z:=[#v[.int i]]) rfl rfl
 .nofun
 .rfl
theorem uU (p:Pt):gf [(Pd p,.z)]=some (.ok (.bl true,.z),[(Pd p,.z)]):=by
 apply aI (Z:=[#v[Pd p]]) rfl rfl
 .nomatch [(iC _)]
 .rfl
theorem t6 {f e:L3.D->L3.D->Option (L3.D×Fl)} {ma mb mc:EM} {ra rb rc:R3} {Z Z1 Z2 Z3:Sto} {da db a c d:L3.D} {fl b:Fl} (h1:ma Z=some (.ok ra,Z1)) (h2:mb Z1=some (.ok rb,Z2)) (h3:der ra Z2=some (.ok da,Z2)) (i:der rb Z2=some (.ok db,Z2)) (k:f da db=some (.bl true,fl)) (g:mc Z2=some (.ok rc,Z3)) (h:der rb Z3=some (.ok a,Z3)) (j:der rc Z3=some (.ok c,Z3)) (l:e a c=some (d,b)):jW f e ma mb mc Z=some (.ok (.val d b),Z3):=by
 simp only[jW,ac,h1,h2,h3,i,k,aX,Option.bind_some,asB,FQ,if_true,g,h,j,l]
theorem wZ (ps:List Pt) (h0:0 < ps.length) (h1:ps.length<=24):d8 [(Shd ps,.z)]=some (.ok (.bl true,.z),[(Shd ps,.z)]):=by
 obtain ⟨U',e,a,rfl⟩:=io (bnd:=am 0) (c:=cW) (elt:=dP) (λU=>∃ a,U=[a]) (λ_=>true) (λ_=>.bl true) (ds:=ps.map Pd) (U:=[none]) #[none,rfl] (by
  rintro d hd U ⟨a,rfl⟩
  obtain ⟨p,j,rfl⟩:=Fy.mp hd
  exact #[[#v[Pd p]],_,rfl,rfl,(λh=>by cases h),λ_=>#[.val (.bl true) .z,[#v[Pd p]],(.bl true,.z),[#v[Pd p]],by unfold dP;(nomatch [(uU _)]),rfl,rfl,_,rfl]])
 have f:=nZ (ds:=((ps.map Pd).filter λ_=>true).map λ_=>.bl true) (λd hd=>by obtain ⟨_,_,rfl⟩:=Fy.mp hd;rfl)
 generalize ((ps.map Pd).filter λ_=>true).map (λ_=>L3.D.bl true)=out at *
 have b:gi [#v[Shd ps]]=some (.ok (.val (.lst out) .u),[#v[Shd ps]]):=aW (im:=cP (ab 0)) (ix:=[none]) (Z1:=[#v[Shd ps]]) (Z2:=[#v[Shd ps]]) (ds:=ps.map Pd) (rs:=[.pl 0]) rfl e (by simp;lia) rfl
 have i:leI (.int 1) (.int ((ps.map Pd).length:Int))=#v[.bl true]:=by simp[fB];lia
 have g:leI (.int ((ps.map Pd).length:Int)) (.int 24)=#v[.bl true]:=by simp[fB];lia
 apply aI (Z:=[#v[Shd ps]]) rfl rfl
 .apply bp
  .apply oT
   .apply t6
    .exact i_c
    .nofun
    .rfl
    .rfl
    .exact i
    .exact i_c
    .rfl
    .rfl
    .exact g
   .rfl
   .rfl
   ·(repeat' (first | with_reducible exact b | infer_instance | exact f | eq_refl))
  .rfl
 .rfl
theorem fK {xs:List L3.D} {k:Int} {d:L3.D} (h:L2.atI xs k=some d):aw (.tup xs) (.int k)=#v[d]:=by
 show orD ixD t9 (.tup xs) (.int k)=_
 simp[orD,ixD,h]
theorem wP (ps:List Pt) (h0:0 < ps.length) (h1:ps.length<=24) (R:Rising ps):cS [(Shd ps,.z)]=some (.ok (.bl true,.z),[(Shd ps,.z)]):=by
 obtain ⟨U',e,a,rfl⟩:=io (bnd:=am 0) (c:=cW) (elt:=cI) (λU=>∃ a,U=[a,#v[Shd ps]]) (λ_=>true) (λ_=>.bl true) (ds:=aS 0 (ps.length - 1)) (U:=[none,#v[Shd ps]]) #[none,rfl] (by
  rintro d hd U ⟨a,rfl⟩
  obtain ⟨i,hi⟩:=List.getElem?_of_mem hd
  obtain ⟨hi,rfl⟩:=bG hi
  have f:ps[i]?=some ps[i]:=Fo _
  have g:ps[i+1]?=some ps[i+1]:=Fo _
  have b:=R i (i+1) _ _ (by lia) f g
  have a1:aw (Shd ps) (.int (0+(i:Int)))=#v[Pd ps[i]]:=fK (by rw[Int.zero_add];exact wa f)
  have a2:aw (Shd ps) (.int (0+(i:Int)+1))=#v[Pd ps[i+1]]:=fK (by rw[Int.zero_add];exact wa g)
  have n:ltI (.int ps[i].1) (.int ps[i+1].1)=#v[.bl true]:=by simp[fB,b]
  generalize (0+(i:Int))=j at *
  refine #[[#v[.int j],#v[Shd ps]],_,rfl,rfl,(λh=>by cases h),λ_=>#[.val (.bl true) .z,[#v[.int j],#v[Shd ps]],(.bl true,.z),[#v[.int j],#v[Shd ps]],?_,rfl,rfl,_,rfl]]
  unfold cI
  (exists a1,a2,n))
 have o:((ps.length:Int) - 1).toNat=ps.length - 1:=by lia
 have m:dO [.int (((ps.map Pd).length:Int) - 1)]=some (aS 0 (ps.length - 1)):=dz (by simp;lia) (by simp)
 have l:=nZ (ds:=((aS 0 (ps.length - 1)).filter λ_=>true).map λ_=>.bl true) (λd hd=>by obtain ⟨_,_,rfl⟩:=Fy.mp hd;rfl)
 generalize ((aS 0 (ps.length - 1)).filter λ_=>true).map (λ_=>L3.D.bl true)=out at *
 have k:eO [#v[Shd ps]]=some (.ok (.val (.lst out) .u),[#v[Shd ps]]):=aW (Z1:=[#v[Shd ps]]) (rs:=[]) (by (repeat' (first | with_reducible apply cn (h3:=m) | infer_instance | eq_refl))) e (by rw[bz];lia) rfl
 apply aI (Z:=[#v[Shd ps]]) rfl rfl
 .unfold hU;(repeat' (first | with_reducible exact k | infer_instance | exact l | eq_refl))
 .rfl
theorem nh (p q r:Int×Int) (h1:-18446744073709551616 < q.1 - p.1/\q.1 - p.1 < 18446744073709551616) (h2:-18446744073709551616 < q.2 - p.2/\q.2 - p.2 < 18446744073709551616):kj [(Pd p,.z),(Pd q,.z),(Pd r,.z)]=some (.ok (.int (aG p q r),.z),[(Pd p,.z),(Pd q,.z),(Pd r,.z)]):=by
 apply aI (Z:=[#v[Pd p],#v[Pd q],#v[Pd r],none]) rfl rfl
 .apply ai
  .exists fm h1
  .exists fm h2
 .rfl
theorem wu {n i j:Nat} (xs:List L3.D) (k:n<=25) (l:j < n) (elt:EM) (he:∀ (a b c:L3.D),elt [#v[c],#v[a],#v[b]]=some (.ok (.val (.tup [a,b,c]) .z),[#v[c],#v[a],#v[b]])) :
  bt (aY dN (aa (af bH (ab 3) (mC (.int 1))) (aa (ab 0) ah))) (am 0) cW elt [none,some 2,some 3] [#v[.int n],some (.lst xs,.u),#v[.int i],#v[.int j]]=some (.ok (.val (.lst ((mG i j (n - (j+1))).map Td)) .u),[#v[.int n],some (.lst xs,.u),#v[.int i],#v[.int j]]):=by
 obtain ⟨U',e,a,rfl⟩:=io (bnd:=am 0) (c:=cW) (elt:=elt) (λU=>∃ a,U=[a,#v[.int i],#v[.int j]]) (λ_=>true) (λd=>.tup [.int i,.int j,d]) (ds:=aS ((j:Int)+1) (n - (j+1))) (U:=[none,#v[.int i],#v[.int j]]) #[none,rfl] (by
  rintro d hd U ⟨a,rfl⟩
  exact #[[#v[d],#v[.int i],#v[.int j]],_,rfl,rfl,(λh=>by cases h),λ_=>#[_,_,(.tup [.int i,.int j,d],.z),_,he _ _ _,rfl,rfl,_,rfl]])
 have f:((aS ((j:Int)+1) (n - (j+1))).filter λ_=>true).map (λd=>L3.D.tup [.int i,.int j,d])=(mG i j (n - (j+1))).map Td:=by
  rw[F2.mpr (λ_ _=>rfl)]
  simp[aS,mG,Function.comp_def]
 rw[f] at e
 have g:dN [.int ((j:Int)+1),.int n]=some (aS ((j:Int)+1) (n - (j+1))):=eL (by lia) (by lia) (by lia)
 exact aW (rs:=[]) (by (repeat' (first | with_reducible apply cn (h3:=g) | infer_instance | eq_refl))) e (by rw[bz];lia) rfl
theorem EO {A B:List L3.D} (h:A.length+B.length<=16777216):yR (.lst A) [.lst B]=some (.lst (A++B),.non):=by simp[yR,h]
theorem E5 {A:List L3.D} {d:L3.D} (h:A.length < 16777216):BT (.lst A) [d]=some (.lst (A++[d]),.non):=by simp[BT,h]
theorem BO {A B:List L3.D} (h:A.length+B.length<=16777216):bH (.tup A) (.tup B)=#v[.tup (A++B)]:=by simp[orD,fB,EZ,EY,E1,h]
theorem uK {n:Nat} (l:n<=25) {b1 b2:SM} (h2:b2=cy (aY dN (aa (af bH (ab 2) (mC (.int 1))) (aa (ab 0) ah))) (am 3) b1)
  (h1:∀ (i j:Nat) (xs:List L3.D),j < n->xs.length<=20000->b1 [#v[.int n],some (.lst xs,.u),#v[.int i],#v[.int j]]=some (.ok .nx,[#v[.int n],some (.lst (xs++(mG i j (n - (j+1))).map Td),.u),#v[.int i],#v[.int j]])) :
  ∃ v2 a,cy (aY dO (aa (ab 0) ah)) (am 2) b2 [#v[.int n],some (.lst [],.u),none,none]=some (.ok .nx,[#v[.int n],some (.lst ((cf n).map Td),.u),v2,a]):=by
 have inner:∀ (i:Nat) (xs:List Tri) (a:Option (L3.D×Fl)),i < n->xs.length<=15625->∃ f,b2 [#v[.int n],some (.lst (xs.map Td),.u),#v[.int i],a]=some (.ok .nx,[#v[.int n],some (.lst ((xs++jR n i (n - (i+1))).map Td),.u),#v[.int i],f]):=by
  intro i xs a hi o
  obtain ⟨Z',e,f,rfl⟩:=a9 (bnd:=am 3) (b:=b1) (λm Z=>∃ a,Z=[#v[.int n],some (.lst ((xs++jR n i m).map Td),.u),#v[.int i],a]) (ds:=aS ((i:Int)+1) (n - (i+1))) (Z:=[#v[.int n],some (.lst (xs.map Td),.u),#v[.int i],a]) (k:=0) #[a,by simp[jR]] (by
   rintro m d Z hd ⟨a,rfl⟩
   obtain ⟨hm,rfl⟩:=bG hd
   have h:((xs++jR n i m).map Td).length<=20000:=by
    have:=q8 (n:=n) (i:=i) (m:=m) l (by lia)
    simp only[Ft,FN]
    lia
   have c:=h1 i (i+1+m) ((xs++jR n i m).map Td) (by lia) h
   rw[show ((i+1+m:Nat):Int)=(i:Int)+1+m by lia,<- List.map_append,List.append_assoc,<- ni] at c
   exact #[_,_,by rw[FK];rfl,.inl c,_,by rw[FK]])
  refine #[f,?_]
  rw[bz,FK] at e
  have g:dN [.int ((i:Int)+1),.int n]=some (aS ((i:Int)+1) (n - (i+1))):=eL (by lia) (by lia) (by lia)
  rw[h2]
  apply dH
  ·(repeat' (first | with_reducible apply cn (h3:=g) | infer_instance | eq_refl))
  .rfl
  .exact e
 obtain ⟨Z',e,v2,a,rfl⟩:=a9 (bnd:=am 2) (b:=b2) (λm Z=>∃ v2 a,Z=[#v[.int n],some (.lst ((ol n m).map Td),.u),v2,a]) (ds:=aS 0 n) (Z:=[#v[.int n],some (.lst [],.u),none,none]) (k:=0) #[none,none,rfl] (by
  rintro m d Z hd ⟨v2,a,rfl⟩
  obtain ⟨hm,rfl⟩:=bG hd
  rw[FK,Int.zero_add]
  obtain ⟨f,e⟩:=inner m (ol n m) a hm (q9 l (by lia))
  rw[<- nk] at e
  exact #[_,_,rfl,.inl e,_,_,rfl])
 rw[bz,FK] at e
 have g:dO [.int (n:Int)]=some (aS 0 n):=dz (by lia) (by lia)
 refine #[v2,a,?_]
 apply dH
 ·(repeat' (first | with_reducible apply cn (h3:=g) | infer_instance | eq_refl))
 .rfl
 .exact e
theorem lE (n:Nat) (d:n<=25):fE [(.int n,.z)]=some (.ok (.lst ((cf n).map Td),.u),[(.int n,.z)]):=by
 obtain ⟨v2,h,e⟩:=uK (n:=n) d (b1:=gz) (b2:=kA) rfl (by
  intro i j xs f k
  have c:=wu (n:=n) (i:=i) (j:=j) xs d f gx (λa b c=>by unfold gx;(nofun))
  have g:xs.length+((mG i j (n - (j+1))).map Td).length<=16777216:=by
   rw[Ft,pG];lia
  unfold gz kz
  (repeat' (first | with_reducible exact c | infer_instance | exact EO g | eq_refl)))
 apply aI (Z:=[#v[.int n],none,none,none]) rfl rfl
 .apply ai
  .nofun
  .apply ai
   .exact e
   .nofun
 .rfl
theorem k9 {i j:Int}:neX (.int i) (.int j)=#v[.bl (!decide (i=j))]:=rfl
theorem yP {S:List L3.D} {i j k:Int} {p q r:Pt} {v2:Option (L3.D×Fl)} (a1:aw (.tup S) (.int i)=#v[Pd p]) (a2:aw (.tup S) (.int j)=#v[Pd q]) (n:aw (.tup S) (.int k)=#v[Pd r]) (e:Small p) (f:Small q) (h0:aG p q r≠0):bE [#v[.tup S],#v[.tup [.int i,.int j,.int k]],v2]=some (.ok .nx,[#v[.tup S],#v[.tup [.int i,.int j,.int k]],#v[.tup [Pd p,Pd q,Pd r]]]):=by
 have b:=nh p q r (Small.sub e f).1 (Small.sub e f).2
 have one:∀ (x d:L3.D) (a:Option (L3.D×Fl)),aw (.tup S) x=#v[d]->cg [#v[x],#v[.tup S]]=some (.ok (.val d .z),[#v[x],#v[.tup S]]):=λx d a h=>by unfold cg;(exists h)
 have c:en [#v[.tup S],#v[.tup [.int i,.int j,.int k]],v2]=some (.ok (.val (.lst [Pd p,Pd q,Pd r]) .u),[#v[.tup S],#v[.tup [.int i,.int j,.int k]],v2]):=by
  refine aW (Z1:=[#v[.tup S],#v[.tup [.int i,.int j,.int k]],v2]) (Z2:=[#v[.tup S],#v[.tup [.int i,.int j,.int k]],v2]) (ds:=[.int i,.int j,.int k]) (rs:=[.pl 1]) (U:=[#v[.int k],#v[.tup S]]) rfl ?_ (by simp) rfl
  have e1:=one (.int i) _ none a1
  have g:=one (.int j) _ none a2
  have m:=one (.int k) _ none n
  have l:∀ d a,am 0 d [a,#v[L3.D.tup S]]=some [#v[d],#v[.tup S]]:=λ_ _=>rfl
  have cs:si [none,some 0] (aK cX (us [#v[L3.D.tup S],#v[.tup [.int i,.int j,.int k]],v2] (pls [R3.pl 1])) [#v[.tup S],#v[.tup [.int i,.int j,.int k]],v2])=[none,#v[.tup S]]:=rfl
  rw[cs]
  simp only[bC,l,cW,ac,aT,if_true,e1,g,m,fh,nol]
 unfold bE
 apply ai
 ·(repeat' (first | with_reducible exact c | infer_instance | eq_refl))
 .apply bB
  .nomatch [b]
  .exact FI h0
  .rfl
theorem z8 (ps:List Pt) (o:ps.length<=24) (h:∀ p∈ps,Small p) (j:NoLine ps):ce [(Shd ps,.z)]=some (.ok (.non,.z),[(Shd ps,.z)]):=by
 have a:=lE ps.length (by lia)
 rw[show (ps.length:Int)=((ps.map Pd).length:Int) by rw[Ft]] at a
 obtain ⟨Z',e,v1,v2,rfl⟩:=a9 (bnd:=am 1) (b:=bE) (λ_ Z=>∃ v1 v2,Z=[#v[Shd ps],v1,v2]) (ds:=(cf ps.length).map Td) (Z:=[#v[Shd ps],none,none]) (k:=0) #[none,none,rfl] (by
  rintro m d Z hd ⟨v1,v2,rfl⟩
  rw[Fz,Fh] at hd
  obtain ⟨t,a,rfl⟩:=hd
  obtain ⟨l,i,n⟩:=jx (Fv a)
  have c:ps[t.1]?=some (ps[t.1]'(by lia)):=Fo _
  have f:ps[t.2.1]?=some (ps[t.2.1]'(by lia)):=Fo _
  have g:ps[t.2.2]?=some (ps[t.2.2]'(by lia)):=Fo _
  have b:=yP (v2:=v2) (fK (wa c)) (fK (wa f)) (fK (wa g)) (h _ (Fv c)) (h _ (Fv f)) (j _ _ _ _ _ _ l i c f g)
  exact #[[#v[Shd ps],#v[Td t],v2],_,rfl,.inl b,_,_,rfl])
 apply aI (Z:=[#v[Shd ps],none,none]) rfl rfl
 .apply ai
  .apply dH
   .nomatch [a]
   .rfl
   .exact e
  .nofun
 .rfl
theorem pD {ps:List Pt} (g:GoodSh ps):ge [(Shd ps,.z)]=some (.ok (.bl true,.z),[(Shd ps,.z)]):=by
 have h1:=wZ ps g.pos g.most
 have h2:=wP ps g.pos g.most g.rising
 have h3:=z8 ps g.most g.small g.noline
 apply aI (Z:=[#v[Shd ps]]) rfl rfl
 .apply ai
  .apply bB
   .nomatch [h1]
   .rfl
   .rfl
  .nomatch [h2,h3]
 .rfl
theorem fk {ps:List Pt} (g:GoodSh ps):aJ [(Shd ps,.z)]=some (.ok (.non,.z),[(Shd ps,.z)]):=by
 have h1:=pD g
 apply F_nx (Z:=[#v[Shd ps]]) rfl rfl
 .apply bB
  .nomatch [h1]
  .rfl
  .rfl
 .rfl
def bf (p q r:Pt):Int:=if 0 < aG p q r then 1 else -1
theorem lD {S:List L3.D} {i j k:Int} {p q r:Pt} (a1:aw (.tup S) (.int i)=#v[Pd p]) (a2:aw (.tup S) (.int j)=#v[Pd q]) (c:aw (.tup S) (.int k)=#v[Pd r]) (a:Small p) (d:Small q):bZ [(.tup S,.z),(.tup [.int i,.int j,.int k],.z)]=some (.ok (.int (bf p q r),.z),[(.tup S,.z),(.tup [.int i,.int j,.int k],.z)]):=by
 have b:=nh p q r (Small.sub a d).1 (Small.sub a d).2
 by_cases h:0 < aG p q r
 .rw[show bf p q r=1 from if_pos h]
  apply aI (Z:=[#v[.tup S],#v[.tup [.int i,.int j,.int k]]]) rfl rfl
  .apply bp
   .apply EI
    .nomatch [b],[a1,a2,c]
    .exact FH h
    .exact i_c
   .rfl
  .rfl
 .rw[show bf p q r = -1 from if_neg h]
  apply aI (Z:=[#v[.tup S],#v[.tup [.int i,.int j,.int k]]]) rfl rfl
  .apply bp
   .apply EJ
    .nomatch [b],[a1,a2,c]
    .exact FI h
    .nofun
   .rfl
  .rfl
theorem eR (c:Int) (m:Int) (h:0 < m):0<=c % m/\c % m < m:=#[Int.emod_nonneg _ (by lia),Int.emod_lt_of_pos _ h]
theorem lF (n m:Int) (h:0 < m/\m < 1073741824):bI [(.lst [.int n],.u),(.int m,.z)]=some (.ok (.int (n % m),.z),[(.lst [.int (n / m)],.u),(.int m,.z)]):=by
 have hd:yW [.int n,.int m]=#v[.tup [.int (n / m),.int (n % m)]]:=by simp[c2,qj,h]
 apply aI (Z:=[some (.lst [.int n],.u),#v[.int m],none,none]) rfl rfl
 .apply ai
  .exists hd
  .apply ai
   .nofun
   .nofun
 .rfl
theorem wY (p q r:Int×Int) (h1:-18446744073709551616 < q.1 - p.1/\q.1 - p.1 < 18446744073709551616) (h2:-18446744073709551616 < q.2 - p.2/\q.2 - p.2 < 18446744073709551616):ir [(Pd p,.z),(Pd q,.z),(Pd r,.z)]=some (.ok (.int (aG p q r),.z),[(Pd p,.z),(Pd q,.z),(Pd r,.z)]):=by
 apply aI (Z:=[#v[Pd p],#v[Pd q],#v[Pd r],none,none,none]) rfl rfl
 .apply ai
  .nofun
  apply ai
  .exists fm h1
  .exists fm h2
 .rfl
theorem wX (ns:List Int) (k:Nat):∃ n:Int,jN [(.fls (ns.map .int),.z),(.int k,.z)]=some (.ok (.int n,.z),[(.fls (ns.map .int),.z),(.int k,.z)]):=by
 by_cases h:k < ns.length
 .refine #[ns[k],?_]
  have a:aw (.fls (ns.map .int)) (.int (k:Int))=#v[.int ns[k]]:=by
   have:L2.atI (ns.map L3.D.int) (k:Int)=some (.int ns[k]):=uz (by simp[h])
   simp[orD,ixD,this]
  have b:(k:Int) < ((ns.map L3.D.int).length:Int):=by simp;lia
  generalize (k:Int)=kk at *
  apply aI (Z:=[#v[.fls (ns.map .int)],#v[.int kk]]) rfl rfl
  .apply gq
   apply iU
   .nofun
   .exact FH b
   .exists a
  .rfl
 .refine #[0,?_]
  have b:¬ (k:Int) < ((ns.map L3.D.int).length:Int):=by simp;lia
  generalize (k:Int)=kk at *
  apply aI (Z:=[#v[.fls (ns.map .int)],#v[.int kk]]) rfl rfl
  .apply ai
   .apply bB
    .nofun
    .exact FI b
    .rfl
   .nofun
  .rfl
theorem z5 (c j:Int):∃ n:Int,lj [(.int c,.z),(.int j,.z)]=some (.ok (.int n,.z),[(.int c,.z),(.int j,.z)]):=by
 have a:=eR c 2147483647 (by decide)
 have b:=eR j 13 (by decide)
 obtain ⟨m,hm⟩:∃ m:Nat,j % 13=m:=#[(j % 13).toNat,by lia]
 have d:m < 13:=by lia
 have e:∃ v:Int,aw (.lst [.int 48271,.int 69621,.int 16807,.int 39373,.int 30269,.int 40014,.int 40692,.int 50021,.int 61687,.int 71993,.int 83869,.int 95561,.int 30307]) (.int (j % 13))=#v[.int v]:=by
  rw[hm]
  clear hm
  match m,d with
  | 0,_=>exact #[_,rfl]
  | 1,_=>exact #[_,rfl]
  | 2,_=>exact #[_,rfl]
  | 3,_=>exact #[_,rfl]
  | 4,_=>exact #[_,rfl]
  | 5,_=>exact #[_,rfl]
  | 6,_=>exact #[_,rfl]
  | 7,_=>exact #[_,rfl]
  | 8,_=>exact #[_,rfl]
  | 9,_=>exact #[_,rfl]
  | 10,_=>exact #[_,rfl]
  | 11,_=>exact #[_,rfl]
  | 12,_=>exact #[_,rfl]
 obtain ⟨v,f⟩:=e
 have c1:-18446744073709551616 < c % 2147483647+12345/\c % 2147483647+12345 < 18446744073709551616:=by lia
 have c2:∀ z:Int,-18446744073709551616 < z % 1000000007/\z % 1000000007 < 18446744073709551616:=λz=>by
  have:=eR z 1000000007 (by decide)
  lia
 apply Exists.intro
 apply aI (Z:=[#v[.int c],#v[.int j],none,none]) rfl rfl
 .apply ai
  .nofun
  apply ai
  .exists f,fm (by decide),fm c1
  apply ai
  .nofun
  .exists fm (by decide),fm (c2 _)
 .rfl
theorem Ab (ns:List Int) (k:Nat):∃ n:Int,lq [(.fls (ns.map .int),.z),(.int k,.z)]=some (.ok (.lst [.int n],.u),[(.fls (ns.map .int),.z),(.int k,.z)]):=by
 obtain ⟨c,a⟩:=wX ns k
 generalize L3.D.fls (ns.map .int)=S at *
 generalize L3.D.int (k:Int)=kk at *
 by_cases h:c % 2=0
 .apply Exists.intro
  apply aI (Z:=[#v[S],#v[kk],none,none,none]) rfl rfl
  .apply ai
   .nomatch [a]
   apply gq
   apply iU
   .nofun
   .exact FH h
   .nofun
  .rfl
 .obtain ⟨Z',e,n,v4,rfl⟩:=a9 (bnd:=am 4) (b:=i8) (λ_ Z=>∃ (n:Int) (v4:Option (L3.D×Fl)),Z=[#v[S],#v[kk],#v[.int c],#v[.int n],v4]) (ds:=aS 0 40) (Z:=[#v[S],#v[kk],#v[.int c],#v[.int 0],none]) (k:=0) #[0,none,rfl] (by
   rintro i d Z hd ⟨n,v4,rfl⟩
   obtain ⟨hi,rfl⟩:=bG hd
   obtain ⟨m,hm⟩:=z5 c (0+(i:Int))
   generalize (0+(i:Int))=j at *
   exact #[_,[#v[S],#v[kk],#v[.int c],#v[.int (n * 142857143+m)],#v[.int j]],rfl,.inl (by unfold i8;(nomatch [hm],[x5 (by decide)])),_,_,rfl])
  refine #[n,?_]
  apply aI (Z:=[#v[S],#v[kk],none,none,none]) rfl rfl
  .apply ai
   .nomatch [a]
   apply ai
   .apply bB
    .nofun
    .exact FI h
    .rfl
   apply ai
   .nofun
   apply ai
   .apply dH
    .exact cn (by (nofun)) rfl (dz (n:=40) (by decide) (by decide))
    .rfl
    .exact e
   .nofun
  .rfl
theorem yN {X ρ:L3.D} {f:Fl} {k:L3.D} {p q:L3.D} {b:Int} (a:ir [(p,.z),(q,.z),(ρ,.z)]=some (.ok (.int b,.z),[(p,.z),(q,.z),(ρ,.z)])) :
  dF [some (X,f),#v[ρ],#v[k],#v[q],#v[p]]=some (.ok (if b=0 then .rt (.bl false) .z else .nx),[some (X,f),#v[ρ],#v[k],#v[q],#v[p]]):=by
 by_cases h:b=0
 .rw[if_pos h]
  apply iU
  .nomatch [a]
  .exact FH h
  .nofun
 .rw[if_neg h]
  apply bB
  .nomatch [a]
  .exact FI h
  .rfl
theorem wT (ps:List Pt) (z:Pt) (A:∀ p∈ps,Small p) (G:ps.length<=24):∃ b:Bool,jM [(.lst (ps.map Pd),.u),(Pd z,.z)]=some (.ok (.bl b,.z),[(.lst (ps.map Pd),.u),(Pd z,.z)])/\(b=true->zy ps z)/\(b=false->∃ (i j:Nat) (p q:Pt),i < j/\ps[i]?=some p/\ps[j]?=some q/\aG p q z=0):=by
 have inner:∀ (i:Nat) (q:Pt) (v4:Option (L3.D×Fl)),ps[i]?=some q->∃ a,dJ (am 4) dF ((ps.take i).map Pd) [some (.lst (ps.map Pd),.l),#v[Pd z],#v[.int i],#v[Pd q],v4]=some (.ok .nx,[some (.lst (ps.map Pd),.l),#v[Pd z],#v[.int i],#v[Pd q],a])/\(∀ j p,j < i->ps[j]?=some p->aG p q z≠0) \/
   dJ (am 4) dF ((ps.take i).map Pd) [some (.lst (ps.map Pd),.l),#v[Pd z],#v[.int i],#v[Pd q],v4]=some (.ok (.rt (.bl false) .z),[some (.lst (ps.map Pd),.l),#v[Pd z],#v[.int i],#v[Pd q],a])/\∃ j p,j < i/\ps[j]?=some p/\aG p q z=0:=by
  intro i q v4 s
  have hi:i < ps.length:=(Fu.mp s).1
  obtain ⟨Z',h⟩:=oV (bnd:=am 4) (b:=dF) (λm Z=>∃ v4,Z=[some (.lst (ps.map Pd),.l),#v[Pd z],#v[.int i],#v[Pd q],v4]/\∀ j p,j < m->ps[j]?=some p->aG p q z≠0)
   (λm r f Z=>r=.bl false/\f=.z/\∃ v4,Z=[some (.lst (ps.map Pd),.l),#v[Pd z],#v[.int i],#v[Pd q],v4]/\∃ p,ps[m]?=some p/\aG p q z=0)
   (ds:=(ps.take i).map Pd) (Z:=[some (.lst (ps.map Pd),.l),#v[Pd z],#v[.int i],#v[Pd q],v4]) (k:=0) #[v4,rfl,λj p h=>absurd h (Nat.not_lt_zero _)] (by
    rintro m d Z hd ⟨v4,rfl,y⟩
    rw[Fz,Fh] at hd
    obtain ⟨p,n,rfl⟩:=hd
    have o:ps[m]?=some p/\m < i:=by
     rw[List.getElem?_take] at n
     split at n
     .exact #[n,by assumption]
     .cases n
    have sm:=Small.sub (A p (Fv o.1)) (A q (Fv s))
    have rb:=wY p q z sm.1 sm.2
    have rb:=yN (X:=.lst (ps.map Pd)) (f:=.l) (k:=.int (i:Int)) rb
    by_cases h0:aG p q z=0
    .rw[if_pos h0] at rb
     exact #[_,_,rfl,.inr #[.bl false,.z,rb,rfl,rfl,_,rfl,p,by simpa using o.1,h0]]
    .rw[if_neg h0] at rb
     refine #[_,_,rfl,.inl #[.inl rb,_,rfl,λj E v t=>?_]]
     by_cases e:j=m
     .subst e;rw[o.1] at t;cases t;exact h0
     .exact y j E (by lia) t)
  rcases h with ⟨e,a,rfl,h⟩ | ⟨m,r,f,hm,e,rfl,rfl,a,rfl,p,n,h0⟩
  .exact #[a,.inl #[e,λj p v=>h j p (by simp;lia)]]
  .refine #[a,.inr #[e,m,p,by simp at hm;lia,by simpa using n,h0]]
 obtain ⟨Z',h⟩:=oV (bnd:=qL 2 (eS (am 2) (eS (am 3) qM))) (b:=kB) (λm Z=>∃ v2 g v4,Z=[some (.lst (ps.map Pd),.l),#v[Pd z],v2,g,v4]/\∀ i j p q,i < j->j < m->ps[i]?=some p->ps[j]?=some q->aG p q z≠0)
   (λm r f Z=>r=.bl false/\f=.z/\∃ v2 g v4,Z=[some (.lst (ps.map Pd),.l),#v[Pd z],v2,g,v4]/\∃ (i j:Nat) (p q:Pt),i < j/\ps[i]?=some p/\ps[j]?=some q/\aG p q z=0)
   (ds:=ik 0 (ps.map Pd)) (Z:=[some (.lst (ps.map Pd),.l),#v[Pd z],none,none,none]) (k:=0) #[_,_,_,rfl,λi j p q _ h=>absurd h (Nat.not_lt_zero _)] (by
    rintro m d Z hd ⟨v2,g,v4,rfl,y⟩
    rw[j7,Fz,Option.map_map,Fh] at hd
    obtain ⟨q,s,rfl⟩:=hd
    have hm:m < ps.length:=(Fu.mp s).1
    obtain ⟨a,h⟩:=inner m q v4 s
    have sl:=BE (xs:=ps.map Pd) (m:=m) (by simp;lia)
    rw[<- List.map_take] at sl
    have x:slD (.lst (ps.map Pd)) none (some (m:Int))=some (.lst ((ps.take m).map Pd),.u):=by
     show some (L3.D.lst (j8 (ps.map Pd) none (some (m:Int))),Fl.u)=_
     rw[sl]
    rcases h with ⟨e,h⟩ | ⟨e,j,p,v,n,h0⟩
    .refine #[_,[some (.lst (ps.map Pd),.l),#v[Pd z],#v[.int m],#v[Pd q],a],by rw[FK];rfl,.inl #[.inl (dH (ld (EE (ag rfl) oS (oR (ag rfl) rfl) rfl x) rfl rfl) rfl e),_,_,_,rfl,λi j p F c v hi w=>?_]]
     by_cases C:j=m
     .subst C;rw[s] at w;cases w;exact h i p c hi
     .exact y i j p F c (by lia) hi w
    .refine #[_,[some (.lst (ps.map Pd),.l),#v[Pd z],#v[.int m],#v[Pd q],a],by rw[FK];rfl,.inr #[.bl false,.z,dH (ld (EE (ag rfl) oS (oR (ag rfl) rfl) rfl x) rfl rfl) rfl e,rfl,rfl,_,_,_,rfl,j,m,p,q,v,n,s,h0]])
 rcases h with ⟨e,v2,g,v4,rfl,h⟩ | ⟨m,r,f,hm,e,rfl,rfl,v2,g,v4,rfl,B⟩
 .refine #[true,?_,λ_ i j p q c hi v=>h i j p q c ?_ hi v,λh=>by cases h]
  .generalize ps.map Pd=P at *
   apply aI (Z:=[some (.lst P,.u),#v[Pd z],none,none,none]) (Z1:=[some (.lst P,.u),#v[Pd z],v2,g,v4]) rfl rfl
   .exact ai (j4 (is:=[0]) (rs:=[.pl 0]) (Z1:=[some (.lst P,.u),#v[Pd z],none,none,none]) rfl rfl e) (bp i_c rfl)
   .rfl
  .have:=(Fu.mp v).1
   simp[j6];lia
 .refine #[false,?_,λh=>(by cases h),λ_=>B]
  generalize ps.map Pd=P at *
  apply aI (Z:=[some (.lst P,.u),#v[Pd z],none,none,none]) (Z1:=[some (.lst P,.u),#v[Pd z],v2,g,v4]) rfl rfl
  .exact gq (j4 (is:=[0]) (rs:=[.pl 0]) (Z1:=[some (.lst P,.u),#v[Pd z],none,none,none]) rfl rfl e)
  .rfl
theorem sq_le {i:Nat} (h:i < 12):0<=(i:Int) * (i:Int)/\(i:Int) * (i:Int)<=144:=by
 have h1:i * i<=12 * 12:=Nat.mul_le_mul (by lia) (by lia)
 have h2:(i:Int) * (i:Int)=((i * i:Nat):Int):=by simp
 rw[h2];lia
theorem zE {i:Nat} {g kd:Int} (hi:i < 12) (b:-15<=g) (g1:g<=15) (c:0<=kd) (h:kd < 6) :
  ∃ y:Int,aw (.lst [.int g,.int g,.int ((i:Int) * i+g / 9),.int (g / 9 - (i:Int) * i),.int (((i:Int) * i+30) * (1 - 2 * ((i:Int) % 2))),.int (g * 1000)]) (.int kd)=#v[.int y]/\-16000<=y/\y<=16000:=by
 obtain ⟨f,d⟩:=sq_le hi
 obtain ⟨j,rfl⟩:∃ j:Nat,kd=(j:Int):=#[kd.toNat,by lia]
 have a:j < 6:=by lia
 generalize (i:Int) * (i:Int)=qq at *
 have hm:(qq+30) * (1 - 2 * ((i:Int) % 2))<=16000/\-16000<=(qq+30) * (1 - 2 * ((i:Int) % 2)):=by
  rcases Int.emod_two_eq (i:Int) with e | e
  .rw[e];simp;lia
  .rw[e];simp;lia
 generalize (qq+30) * (1 - 2 * ((i:Int) % 2))=zz at *
 match j,a with
 | 0,_=>exact #[_,rfl,by lia,by lia]
 | 1,_=>exact #[_,rfl,by lia,by lia]
 | 2,_=>exact #[_,rfl,by lia,by lia]
 | 3,_=>exact #[_,rfl,by lia,by lia]
 | 4,_=>exact #[_,rfl,by lia,by lia]
 | 5,_=>exact #[_,rfl,by lia,by lia]
abbrev cZ (n most many kd x:Int) (ps:List Pt) (v6 v7 v8 v9:Option (L3.D×Fl)):Sto:=[some (.lst [.int n],.u),#v[.int most],#v[.int many],#v[.int kd],#v[.int x],some (.lst (ps.map Pd),.u),v6,v7,v8,v9]
theorem qY {n most many kd x y0:Int} {ps:List Pt} {v6 v7 v8:Option (L3.D×Fl)} (R:Rising ps) (l:∀ p∈ps,Small p) (r:ps.length<=12) :
  ∃ y,eW cG dY (cZ n most many kd x ps v6 v7 v8 #v[.int y0])=some (.ok .nx,cZ n most many kd x ps v6 v7 v8 #v[.int y])/\zy ps (x,y)/\y0<=y/\y<=y0+144:=by
 have f:above ps x y0<=144:=by
  have h1:=zu ps x y0
  have h2:ps.length * ps.length<=12 * 12:=Nat.mul_le_mul (by lia) (by lia)
  lia
 obtain ⟨Z',e,y,rfl,hf,h1,h2⟩:=mZ (c:=cG) (b:=dY) (λm Z=>∃ y:Int,Z=cZ n most many kd x ps v6 v7 v8 #v[.int y]/\m=above ps x y/\y0<=y/\y+(above ps x y:Int)<=y0+(above ps x y0:Int))
  (λZ=>∃ y:Int,Z=cZ n most many kd x ps v6 v7 v8 #v[.int y]/\zy ps (x,y)/\y0<=y/\y<=y0+144) (Z:=cZ n most many kd x ps v6 v7 v8 #v[.int y0]) #[y0,rfl,rfl,Int.le_refl _,Int.le_refl _] (by
   rintro m Z ⟨y,rfl,rfl,h1,h2⟩
   obtain ⟨b,k,o,hf⟩:=wT ps (x,y) l (by lia)
   have g:cG (cZ n most many kd x ps v6 v7 v8 #v[.int y])=some (.ok (!b),cZ n most many kd x ps v6 v7 v8 #v[.int y]):=by
    unfold cG
    nomatch [k]
   cases b with
   | true=>exact .inl #[_,g,y,rfl,o rfl,h1,by lia]
   | false =>
    obtain ⟨i,j,p,q,d,e1,h,h0⟩:=hf rfl
    have a:=zt R d e1 h h0
    exact .inr #[_,cZ n most many kd x ps v6 v7 v8 #v[.int (y+1)],_,g,.inl (by unfold dY;(nofun)),a,y+1,rfl,rfl,by lia,by lia])
 exact #[y,e,hf,h1,h2]
theorem wN {n most many kd x:Int} {i:Nat} {ps:List Pt} {v7 v8 v9:Option (L3.D×Fl)} (R:Rising ps) (v:∀ p∈ps,Small p) (w:ps.length<=12) (hi:i < 12) (q:0<=kd) (A:kd < 6) :
  ∃ (s d y:Int) (c a e:Option (L3.D×Fl)),cH (cZ n most many kd x ps #v[.int i] v7 v8 v9)=some (.ok .nx,cZ s most many kd (x+1+d) (ps++[(x+1+d,y)]) #v[.int i] c a e)/\0<=d/\d < 3/\zy ps (x+1+d,y)/\-16000<=y/\y<=16144:=by
 have t:=lF
 have B:=eR (n / 3) 31 (by decide)
 have f:=eR n 3 (by decide)
 generalize r:n / 3 % 31 - 15=G at *
 obtain ⟨y0,m,C,E⟩:=zE (i:=i) (g:=G) (kd:=kd) hi (by lia) (by lia) q A
 have h:-18446744073709551616 < (i:Int)/\(i:Int) < 18446744073709551616:=by lia
 have k:-18446744073709551616 < 1 - 2 * ((i:Int) % 2)/\1 - 2 * ((i:Int) % 2) < 18446744073709551616:=by lia
 generalize b:x+1+n % 3=X at *
 obtain ⟨y,o,hf,h1,h2⟩:=qY (n:=n / 3 / 31) (most:=most) (many:=many) (kd:=kd) (x:=X) (y0:=y0) (ps:=ps) (v6:=#v[.int i]) (v7:=#v[.int G]) (v8:=some (.lst [.int G,.int G,.int ((i:Int) * i+G / 9),.int (G / 9 - (i:Int) * i),.int (((i:Int) * i+30) * (1 - 2 * ((i:Int) % 2))),.int (G * 1000)],.u)) R v w
 refine #[n / 3 / 31,n % 3,y,#v[.int G],some (.lst [.int G,.int G,.int ((i:Int) * i+G / 9),.int (G / 9 - (i:Int) * i),.int (((i:Int) * i+30) * (1 - 2 * ((i:Int) % 2))),.int (G * 1000)],.u),#v[.int y],?_,f.1,f.2,by rw[b];exact hf,by lia,by lia]
 rw[b]
 have l:(ps.map Pd).length < 16777216:=by simp;lia
 have j:=E5 (d:=Pd (X,y)) l
 rw[show ps.map Pd++[Pd (X,y)]=(ps++[(X,y)]).map Pd by simp] at j
 clear hi
 generalize (i:Int)=zi at *
 unfold cH
 apply ai (Z1:=cZ (n / 3) most many kd X ps #v[.int zi] v7 v8 v9)
 .rw[<- b]
  nomatch [(t _ _ (by decide))]
 apply ai (Z1:=cZ (n / 3 / 31) most many kd X ps #v[.int zi] #v[.int G] v8 v9)
 .rw[<- r]
  nomatch [(t _ _ (by decide))]
 apply ai (Z1:=cZ (n / 3 / 31) most many kd X ps #v[.int zi] #v[.int G] (some (.lst [.int G,.int G,.int (zi * zi+G / 9),.int (G / 9 - zi * zi)],.u)) v9)
 .exists fm h
 apply ai (Z1:=cZ (n / 3 / 31) most many kd X ps #v[.int zi] #v[.int G] (some (.lst [.int G,.int G,.int (zi * zi+G / 9),.int (G / 9 - zi * zi),.int ((zi * zi+30) * (1 - 2 * (zi % 2))),.int (G * 1000)],.u)) v9)
 .exists fm h,fm (by decide),x5 k,x5 (by decide)
 apply ai (Z1:=cZ (n / 3 / 31) most many kd X ps #v[.int zi] #v[.int G] (some (.lst [.int G,.int G,.int (zi * zi+G / 9),.int (G / 9 - zi * zi),.int ((zi * zi+30) * (1 - 2 * (zi % 2))),.int (G * 1000)],.u)) #v[.int y0])
 .exists m
 apply ai
 .exact o
 .exists j
theorem wS {n most many kd x:Int} (hm:0<=many/\many<=12) (s:0<=kd) (v:kd < 6) (x0:-4<=x) (C:x<=4) :
  ∃ (g j:Int) (ps:List Pt) (v6 v7 v8 v9:Option (L3.D×Fl)),cy (aY dO (aa (ab 2) ah)) (am 6) cH (cZ n most many kd x [] none none none none)=some (.ok .nx,cZ g most many kd j ps v6 v7 v8 v9)/\(ps.length:Int)=many/\Rising ps/\NoLine ps/\(∀ q∈ps,-5<=q.1/\q.1<=100/\-17000<=q.2/\q.2<=17000):=by
 obtain ⟨Z',e,g,j,ps,v6,v7,v8,v9,rfl,o,c,f,bnd,h1,h2⟩:=a9 (bnd:=am 6) (b:=cH) (λi Z=>∃ (n x:Int) (ps:List Pt) (v6 v7 v8 v9:Option (L3.D×Fl)),Z=cZ n most many kd x ps v6 v7 v8 v9/\ps.length=i/\Rising ps/\NoLine ps/\(∀ q∈ps,q.1<=x/\-5<=q.1/\-17000<=q.2/\q.2<=17000)/\-4<=x/\x<=4+3 * (i:Int))
  (ds:=aS 0 many.toNat) (Z:=cZ n most many kd x [] none none none none) (k:=0) #[n,x,[],none,none,none,none,rfl,rfl,λ_ _ _ _ _ e _=>by simp at e,λ_ _ _ _ _ _ _ _ e _ _=>by simp at e,λ_ e=>by simp at e,by lia,by lia] (by
   rintro i d Z hd ⟨n,x,ps,v6,v7,v8,v9,rfl,o,c,f,bnd,h1,h2⟩
   obtain ⟨hi,rfl⟩:=bG hd
   have l:∀ q∈ps,Small q:=λq a=>by
    obtain ⟨a1,a2,m,a4⟩:=bnd q a
    exact #[by lia,by lia,by lia,by lia]
   obtain ⟨g,h,y,t,p,u,e,w,B,fr,y0,A⟩:=wN (n:=n) (most:=most) (many:=many) (kd:=kd) (x:=x) (i:=i) (ps:=ps) (v7:=v7) (v8:=v8) (v9:=v9) c l (by lia) (by lia) s v
   refine #[cZ n most many kd x ps #v[.int i] v7 v8 v9,_,by rw[Int.zero_add];rfl,.inl e,g,x+1+h,ps++[(x+1+h,y)],_,_,_,_,rfl,by simp;lia,c.snoc λq a=>?_,f.snoc fr,λq a=>?_,by lia,by lia]
   .show q.1 < x+1+h
    have:=(bnd q a).1
    lia
   .rcases Fq.mp a with a | a
    .obtain ⟨a1,a2,m,a4⟩:=bnd q a
     exact #[by lia,by lia,by lia,by lia]
    .have e:q=(x+1+h,y):=by simpa using a
     subst e
     exact #[Int.le_refl _,by show -5<=x+1+h;lia,by show -17000<=y;lia,by show y<=17000;lia])
 rw[bz] at o h2
 have r:dO [.int many]=some (aS 0 many.toNat):=dz (by lia) rfl
 refine #[g,j,ps,v6,v7,v8,v9,?_,by lia,c,f,λq a=>?_]
 .apply dH
  ·(repeat' (first | with_reducible apply cn (h3:=r) | infer_instance | eq_refl))
  .rfl
  .exact e
 .obtain ⟨a1,a2,m,a4⟩:=bnd q a
  exact #[by lia,by lia,by lia,by lia]
abbrev scJ (p:Pt):Pt:=iZ 1000000000000 1000000000 7 p
theorem pow12:xF (.int 10) (.int 12)=#v[.int 1000000000000]:=rfl
theorem pow9:xF (.int 10) (.int 9)=#v[.int 1000000000]:=rfl
theorem uT (ps:List Pt) (g:ps.length<=24) {n most many kd x:Int} {v6 v7 v8 v9:Option (L3.D×Fl)}:aZ 5 dX (cZ n most many kd x ps v6 v7 v8 v9)=some (.ok .nx,cZ n most many kd x (ps.map scJ) v6 v7 v8 v9):=by
 obtain ⟨U',e,a,b,rfl⟩:=bq (bnd:=qL 2 (eS (am 0) (eS (am 1) qM))) (c:=cW) (elt:=fU) (λU=>∃ a b,U=[a,b]) Pd (λ_=>true) (λp=>Pd (scJ p)) (xs:=ps) (U:=[none,none]) #[none,none,rfl] (by
  rintro p f U ⟨a,b,rfl⟩
  exact #[[#v[.int p.1],#v[.int p.2]],_,rfl,rfl,(λh=>by cases h),λ_=>#[.val (Pd (scJ p)) .z,[#v[.int p.1],#v[.int p.2]],(Pd (scJ p),.z),_,by unfold fU;(exists pow12,pow9,fm (by decide)),rfl,rfl,_,_,rfl]])
 rw[F2.mpr (λ_ _=>rfl)] at e
 have d:dX (cZ n most many kd x ps v6 v7 v8 v9)=some (.ok (.val (.lst (ps.map λp=>Pd (scJ p))) .u),cZ n most many kd x ps v6 v7 v8 v9):=aW (rs:=[.pl 5]) (Z1:=cZ n most many kd x ps v6 v7 v8 v9) (Z2:=[some (.lst [.int n],.u),#v[.int most],#v[.int many],#v[.int kd],#v[.int x],some (.lst (ps.map Pd),.l),v6,v7,v8,v9]) rfl e (by simp;lia) rfl
 rw[show (ps.map λp=>Pd (scJ p))=(ps.map scJ).map Pd by simp] at d
 exact iT d rfl (Nat.le_of_ble_eq_true rfl) rfl
theorem uR (n most:Int) (h1:1<=most) (h2:most<=12):∃ (c:Int) (ps:List Pt),fF [(.lst [.int n],.u),(.int most,.z)]=some (.ok (.tup (ps.map Pd),.z),[(.lst [.int c],.u),(.int most,.z)])/\GoodSh ps/\(ps.length:Int)<=most/\∀ q∈ps,(-(2 ^ 55) < q.1/\q.1 < 2 ^ 55)/\-(2 ^ 55) < q.2/\q.2 < 2 ^ 55:=by
 have t:=lF
 have m:=eR n most (by lia)
 have i:=eR (n / most) 6 (by decide)
 have l:=eR (n / most / 6) 9 (by decide)
 obtain ⟨c,k,ps,v6,v7,v8,v9,e,o,d,g,bnd⟩:=wS (n:=n / most / 6 / 9) (most:=most) (many:=1+n % most) (kd:=n / most % 6) (x:=n / most / 6 % 9 - 4) #[by lia,by lia] i.1 i.2 (by lia) (by lia)
 have good:GoodSh ps:=⟨by lia,by lia,λq b=>by
  obtain ⟨a1,a2,h,a4⟩:=bnd q b
  exact ⟨by lia,by lia,by lia,by lia⟩,d,g⟩
 have a:GoodSh (ps.map scJ):=⟨by simpa using good.pos,by simpa using good.most,λq b=>by
  obtain ⟨r,f,rfl⟩:=Fy.mp b
  obtain ⟨a1,a2,h,a4⟩:=bnd r f
  exact ⟨by show -(2 ^ 62) < (1000000000000:Int) * r.1+7;lia,by show (1000000000000:Int) * r.1+7 < 2 ^ 62;lia,by show -(2 ^ 62) < (1000000000:Int) * r.2;lia,by show (1000000000:Int) * r.2 < 2 ^ 62;lia⟩,d.scale (by decide),g.scale (by decide) (by decide)⟩
 have pre:∀ {r:Option (Except L3.D Flw×Sto)},aA (sIf (cB (af eqX (ak bI (aa (ab 0) (aa (mC (.int 6)) ah))) (mC (.int 5)))) (aZ 5 dX) cU) (aL 2 (ao ly (aa (ab 5) ah))) (cZ c most (1+n % most) (n / most % 6) k ps v6 v7 v8 v9)=r->nD [some (.lst [.int n],.u),#v[.int most],none,none,none,none,none,none,none,none]=r:=by
  intro r f
  apply ai (Z1:=[some (.lst [.int (n / most)],.u),#v[.int most],#v[.int (1+n % most)],none,none,none,none,none,none,none])
  .nomatch [(t n most (by lia))]
  apply ai (Z1:=[some (.lst [.int (n / most / 6)],.u),#v[.int most],#v[.int (1+n % most)],#v[.int (n / most % 6)],none,none,none,none,none,none])
  .nomatch [(t _ _ (by decide))]
  apply ai (Z1:=[some (.lst [.int (n / most / 6 / 9)],.u),#v[.int most],#v[.int (1+n % most)],#v[.int (n / most % 6)],#v[.int (n / most / 6 % 9 - 4)],none,none,none,none,none])
  .nomatch [(t _ _ (by decide))]
  apply ai (Z1:=cZ (n / most / 6 / 9) most (1+n % most) (n / most % 6) (n / most / 6 % 9 - 4) [] none none none none)
  .nofun
  exact ai e f
 by_cases j:c % 6=5
 .refine ⟨c / 6,ps.map scJ,?_,a,by rw[Ft];omega,λq b=>by
   obtain ⟨r,f,rfl⟩:=Fy.mp b
   obtain ⟨a1,a2,h,a4⟩:=bnd r f
   exact ⟨⟨by show -(2 ^ 55) < (1000000000000:Int) * r.1+7;omega,by show (1000000000000:Int) * r.1+7 < 2 ^ 55;omega⟩,by show -(2 ^ 55) < (1000000000:Int) * r.2;omega,by show (1000000000:Int) * r.2 < 2 ^ 55;omega⟩⟩
  apply aI (Z:=[some (.lst [.int n],.u),#v[.int most],none,none,none,none,none,none,none,none]) rfl rfl
  .apply pre
   apply ai
   .apply iU
    .nomatch [(t _ _ (by decide))]
    .exact FH j
    .exact uT ps (by lia)
   .nofun
  .rfl
 .refine ⟨c / 6,ps,?_,good,by omega,λq b=>by
   obtain ⟨a1,a2,h,a4⟩:=bnd q b
   exact ⟨⟨by omega,by omega⟩,by omega,by omega⟩⟩
  apply aI (Z:=[some (.lst [.int n],.u),#v[.int most],none,none,none,none,none,none,none,none]) rfl rfl
  .apply pre
   apply ai
   .apply bB
    .nomatch [(t _ _ (by decide))]
    .exact FI j
    .rfl
   .nofun
  .rfl
def bQ (ps:List Pt) (i:Nat):Pt:=ps.getD i (0,0)
theorem bP {ps:List Pt} {i:Nat} (h:i < ps.length):ps[i]?=some (bQ ps i):=by
 simp[bQ,List.getD,Fo h]
theorem fR {ps:List Pt} {i:Nat} (a:∀ p∈ps,Small p) (h:i < ps.length):Small (bQ ps i):=a _ (Fv (bP h))
theorem jP {ps:List Pt} {i:Nat} (h:i < ps.length):aw (Shd ps) (.int i)=#v[Pd (bQ ps i)]:=fK (wa (bP h))
def tq (ps:List Pt) (t:Tri):Int:=bf (bQ ps t.1) (bQ ps t.2.1) (bQ ps t.2.2)
abbrev tk (t:Tri):List Key:=[.inl (t.1:Int),.inl (t.2.1:Int),.inl (t.2.2:Int)]
theorem wq {t u:Tri} (h:tk t=tk u):t=u:=by
 simp only[tk,List.cons.injEq,Sum.inl.injEq,and_true] at h
 exact Prod.ext (by lia) (Prod.ext (by lia) (by lia))
def tb (ps:List Pt) (l:List Tri):List (List Key×L3.D):=l.map λt=>(tk t,.int (tq ps t))
theorem DF {ps:List Pt} {l:List Tri} {t:Tri} (h:t ∉ l):ee (tb ps l) (tk t) (.int (tq ps t))=tb ps (l++[t]):=by
 have c:¬ ((tb ps l).any λa=>decide (a.1=tk t))=true:=by
  intro b
  obtain ⟨x,d,e⟩:=List.any_eq_true.mp b
  obtain ⟨u,hu,rfl⟩:=Fy.mp d
  exact h (wq (of_decide_eq_true e) ▸ hu)
 unfold ee
 rw[if_neg c]
 unfold tb
 rw[List.map_append]
 rfl
theorem r9 {ps:List Pt} {t:Tri}:∀ {l:List Tri},t∈l->cV (tb ps l) (tk t)=some (.int (tq ps t))
 | u::l,h=>by
  unfold cV tb
  rw[FF,List.find?_cons]
  by_cases e:tk u=tk t
  .rw[wq e];simp
  .have:t∈l:=by
    rcases Fm.mp h with rfl | h
    .exact absurd rfl e
    .exact h
   have a:=r9 (ps:=ps) this
   unfold cV tb at a
   simp only[e,decide_false]
   exact a
theorem C3 {ps:List Pt} {l:List Tri} {t:Tri} (h:t∈l):aw (.dt (tb ps l)) (Td t)=#v[.int (tq ps t)]:=by
 show (cV (tb ps l) (tk t)).map (λd=>(d,Fl.z))=_
 rw[r9 h];rfl
theorem C7 {ps:List Pt} {l:List Tri} {t:Tri} (h:t ∉ l) (a:l.length < 16777216):n9 (.dt (tb ps l)) [Td t,.int (tq ps t)]=some (.dt (tb ps (l++[t])),.non):=by
 show (if (tb ps l).length < 16777216 then some (L3.D.dt (ee (tb ps l) (tk t) (.int (tq ps t))),L3.D.non) else none)=_
 rw[if_pos (by unfold tb;rw[Ft];exact a),DF h]
theorem qT:∀ n:Nat,n<=9->(cf n).Nodup
 | 0,_=>by decide +kernel
 | 1,_=>by decide +kernel
 | 2,_=>by decide +kernel
 | 3,_=>by decide +kernel
 | 4,_=>by decide +kernel
 | 5,_=>by decide +kernel
 | 6,_=>by decide +kernel
 | 7,_=>by decide +kernel
 | 8,_=>by decide +kernel
 | 9,_=>by decide +kernel
 | n+10,h=>absurd h (by lia)
theorem wo:∀ n:Nat,n<=9->(cf n).length<=84
 | 0,_=>by decide +kernel
 | 1,_=>by decide +kernel
 | 2,_=>by decide +kernel
 | 3,_=>by decide +kernel
 | 4,_=>by decide +kernel
 | 5,_=>by decide +kernel
 | 6,_=>by decide +kernel
 | 7,_=>by decide +kernel
 | 8,_=>by decide +kernel
 | 9,_=>by decide +kernel
 | n+10,h=>absurd h (by lia)
theorem uL {α:Type} {l:List α} {m:Nat} {t:α} (h:l[m]?=some t):l.take (m+1)=l.take m++[t]:=by
 rw[List.take_add_one,h];rfl
theorem rD {α:Type} {l:List α} {m:Nat} {t:α} (nd:l.Nodup) (h:l[m]?=some t):t ∉ l.take m:=by
 rw[<- List.take_append_drop m l] at nd
 intro hm
 refine (List.nodup_append.mp nd).2.2 t hm t ?_ rfl
 refine Fv (i:=0) ?_
 rw[List.getElem?_drop]
 exact h
theorem wg {ps:List Pt} (g:GoodSh ps) {t:Tri} (h1:t.1 < t.2.1) (h2:t.2.1 < t.2.2) (h3:t.2.2 < ps.length) {l:List Tri} (b:t ∉ l) (a:l.length < 16777216):cM [#v[Shd ps],some (.dt (tb ps l),.u),#v[Td t]]=some (.ok .nx,[#v[Shd ps],some (.dt (tb ps (l++[t])),.u),#v[Td t]]):=by
 obtain ⟨i,j,k⟩:=t
 dsimp only at h1 h2 h3
 have f:bZ [(Shd ps,.z),(Td (i,j,k),.z)]=some (.ok (.int (tq ps (i,j,k)),.z),[(Shd ps,.z),(Td (i,j,k),.z)]):=lD (jP (ps:=ps) (i:=i) (by lia)) (jP (ps:=ps) (i:=j) (by lia)) (jP (ps:=ps) (i:=k) (by lia)) (fR g.small (show i < ps.length by lia)) (fR g.small (show j < ps.length by lia))
 have e:=C7 (ps:=ps) b a
 unfold cM
 have c:ak bZ (aa (ab 0) (aa (ab 2) ah)) [#v[Shd ps],some (.dt (tb ps l),.u),#v[Td (i,j,k)]]=some (.ok (.val (.int (tq ps (i,j,k))) .z),[#v[Shd ps],some (.dt (tb ps l),.u),#v[Td (i,j,k)]]):=by (nomatch [f])
 exact ql (i:=1) (Z2:=[#v[Shd ps],some (.dt (tb ps l),.u),#v[Td (i,j,k)]]) (Z3:=[#v[Shd ps],some (.dt (tb ps l),.u),#v[Td (i,j,k)]]) c rfl (ag (i:=2) rfl) rfl rfl e
theorem gu {ps:List Pt} (g:GoodSh ps) (f:ps.length<=9):aR [(Shd ps,.z)]=some (.ok (.dt (tb ps (cf ps.length)),.u),[(Shd ps,.z)]):=by
 have nd:=qT ps.length f
 have l:=wo ps.length f
 obtain ⟨Z',e,v2,rfl⟩:=a9 (bnd:=am 2) (b:=cM) (λm Z=>∃ v2,Z=[#v[Shd ps],some (.dt (tb ps ((cf ps.length).take m)),.u),v2]) (ds:=(cf ps.length).map Td) (Z:=[#v[Shd ps],some (.dt [],.u),none]) (k:=0) #[none,rfl] (by
  rintro m d Z hd ⟨v2,rfl⟩
  rw[FK]
  rw[Fz] at hd
  obtain ⟨t,a,rfl⟩:=Fh.mp hd
  obtain ⟨j,h,i⟩:=jx (Fv a)
  rw[uL a]
  exact #[_,_,rfl,.inl (wg g j h i (rD nd a) (by rw[FP];lia)),_,rfl])
 rw[FK,Ft,List.take_length] at e
 have c:=fk g
 have th:=lE ps.length (by lia)
 have hlen:bO [Shd ps]=#v[.int (ps.length:Nat)]:=by simp[rO,c1]
 apply aI (Z:=[#v[Shd ps],none,none]) rfl rfl
 .apply ai (Z1:=[#v[Shd ps],none,none])
  .exact rY (aj c (ad (ag rfl) aq) rfl rfl rfl)
  .apply ai (Z1:=[#v[Shd ps],some (.dt [],.u),none])
   .rfl
   .apply ai
    .apply dH
     .nomatch [th],[hlen]
     .rfl
     .exact e
    .nofun
 .rfl
abbrev k3 (i j k:Nat):List Key:=[.inl (i:Int),.inl (j:Int),.inl (k:Int)]
structure Sg where
 length:Nat
 f:Nat->Nat->Nat->Int
def trn (ps:Sg) (i j k:Nat):Int:=ps.f i j k
def iX (ps:Sg) (T:List (List Key×L3.D)):Prop:=∀ i j k,i < j->j < k->k < ps.length->cV T (k3 i j k)=some (.int (trn ps i j k))
theorem nz {n i j k:Nat} (h1:i < j) (h2:j < k) (h3:k < n):(i,j,k)∈cf n:=by
 refine F3.mpr #[i,List.mem_range.mpr (by lia),F3.mpr #[j - (i+1),List.mem_range.mpr (by lia),Fy.mpr #[k - (j+1),List.mem_range.mpr (by lia),?_]]]
 refine Prod.ext rfl (Prod.ext ?_ ?_) <;> simp <;> lia
theorem zV {kvs:List (List Key×L3.D)} {i j k:Nat} {d:L3.D} (h:cV kvs (k3 i j k)=some d):aw (.dt kvs) (.tup [.int i,.int j,.int k])=#v[d]:=by
 show (cV kvs (k3 i j k)).map (λd=>(d,Fl.z))=_
 rw[h];rfl
def sgn (ps:List Pt):Sg:=#[ps.length,λi j k=>bf (bQ ps i) (bQ ps j) (bQ ps k)]
theorem lw (ps:List Pt):iX (sgn ps) (tb ps (cf ps.length)):=λi j k h1 h2 h3=>r9 (t:=(i,j,k)) (nz h1 h2 h3)
abbrev Nd (l:List Nat):List L3.D:=l.map λ(i:Nat)=>L3.D.int (i:Int)
def el (L:List Nat) (i:Nat):Nat:=L.getD i 0
theorem fg {L:List Nat} {i:Nat} (h:i < L.length):L[i]?=some (el L i):=by simp[el,List.getD,h]
theorem ff {L:List Nat} {i:Nat} (h:i < L.length):el L i∈L:=Fv (fg h)
theorem uV {i n:Int} (h0:0<=i) (h1:i < n):gg [(.int i,.z),(.int n,.z)]=some (.ok (.bl true,.z),[(.int i,.z),(.int n,.z)]):=by
 have a:leI (.int 0) (.int i)=#v[.bl true]:=by simp[fB,h0]
 have b:ltI (.int i) (.int n)=#v[.bl true]:=by simp[fB,h1]
 apply aI (Z:=[#v[.int i],#v[.int n]]) rfl rfl
 .apply bp
  .apply oT
   .nomatch [(iC _)]
   .rfl
   .rfl
   .exact t6 i_c (ag rfl) rfl rfl a (ag rfl) rfl rfl b
  .rfl
 .rfl
theorem uC {α:Type} (b:α->Bool):∀ xs:List α,iW (xs.map λx=>L3.D.bl (b x))=some (xs.map b)
 | []=>rfl
 | x::xs=>by simp[iW,uC b xs]
theorem sJ {α:Type} (b:α->Bool) (xs:List α):sK [.lst (xs.map λx=>L3.D.bl (b x))]=#v[.bl (xs.all b)]:=by
 show (iW _).map _=_
 rw[uC]
 simp[List.all_map]
theorem E4 {xs:List L3.D} {i:Nat} {d:L3.D} (h:xs[i]?=some d):L2.atI xs (i:Int)=some d:=by
 have lt:=(Fu.mp h).1
 unfold L2.atI L2.ixN
 rw[if_pos (by lia),if_pos (by lia)]
 simpa using h
theorem zx {r:List Nat} {i:Nat} (h:i < r.length):(Nd r)[i]?=some (.int (el r i)):=by rw[Fz,fg h];rfl
theorem lB {r:List Nat} {i:Nat} (h:i < r.length):aw (.tup (Nd r)) (.int (i:Int))=#v[.int (el r i)]:=fK (E4 (zx h))
structure Ris (n:Nat) (r:List Nat):Prop where
 up:r.Pairwise (· < ·)
 lt:∀ x∈r,x < n
theorem Ris.at {n:Nat} {r:List Nat} (h:Ris n r) {i j:Nat} (b:i < j) (c:j < r.length):el r i < el r j:=by
 have:=List.pairwise_iff_getElem.mp h.up i j (by lia) c b
 have e1:=fg (L:=r) (i:=i) (by lia)
 have a:=fg (L:=r) (i:=j) c
 rw[Fo (by lia)] at e1 a
 injection e1 with e1
 injection a with a
 lia
theorem Ris.sub {n:Nat} {r q:List Nat} (h:Ris n r) (s:q.Sublist r):Ris n q:=#[h.up.sublist s,λx a=>h.lt x (s.subset a)]
theorem sV {n:Nat}:∀ (r:List Nat) (a:Nat),r.Pairwise (· < ·)->(∀ x∈r,a<=x/\x < n)->r.length<=n - a
 | [],a,_,_=>Nat.zero_le _
 | x::r,a,hp,hb=>by
  rw[List.pairwise_cons] at hp
  have h0:=hb x Fe
  have:=sV r (x+1) hp.2 λy b=>#[hp.1 y b,(hb y (Ff _ b)).2]
  rw[FO]
  lia
theorem Ris.len {n:Nat} {r:List Nat} (h:Ris n r):r.length<=n:=sV r 0 h.up λx a=>#[Nat.zero_le _,h.lt x a]
theorem oj {n:Nat} {r:List Nat} (h:Ris n r) (o:n<=24):av [(.tup (Nd r),.z),(.int (n:Int),.z)]=some (.ok (.bl true,.z),[(.tup (Nd r),.z),(.int (n:Int),.z)]):=by
 have m:=h.len
 obtain ⟨U',e,a,rfl⟩:=bq (bnd:=am 0) (c:=cW) (elt:=bF) (λU=>∃ a,U=[a,#v[.int (n:Int)]]) (λi:Nat=>L3.D.int (i:Int)) (λ_=>true) (λ_=>.bl true) (xs:=r) (U:=[none,#v[.int (n:Int)]]) #[none,rfl] (by
  rintro k d U ⟨a,rfl⟩
  have:=h.lt k d
  have pl:=uV (i:=(k:Int)) (n:=(n:Int)) (by omega) (by omega)
  exact #[[#v[.int (k:Int)],#v[.int (n:Int)]],_,rfl,rfl,(λh=>by cases h),λ_=>#[.val (.bl true) .z,[#v[.int (k:Int)],#v[.int (n:Int)]],(.bl true,.z),_,by unfold bF;(nomatch [pl]),rfl,rfl,_,rfl]])
 rw[F2.mpr (λ_ _=>rfl)] at e
 have e1:cK [#v[.tup (Nd r)],#v[.int (n:Int)]]=some (.ok (.val (.lst (r.map λ_=>.bl true)) .u),[#v[.tup (Nd r)],#v[.int (n:Int)]]):=aW (rs:=[.pl 0]) (Z1:=[#v[.tup (Nd r)],#v[.int (n:Int)]]) (Z2:=[#v[.tup (Nd r)],#v[.int (n:Int)]]) rfl e (by rw[Ft];omega) rfl
 have a1:=sJ (λ_:Nat=>true) r
 rw[List.all_eq_true.mpr (λ_ _=>rfl)] at a1
 obtain ⟨U2,f,b,rfl⟩:=bq (bnd:=am 0) (c:=cW) (elt:=cL) (λU=>∃ a,U=[a,#v[.tup (Nd r)]]) (λi:Nat=>L3.D.int (0+(i:Int))) (λ_=>true) (λ_=>.bl true) (xs:=List.range (r.length - 1)) (U:=[none,#v[.tup (Nd r)]]) #[none,rfl] (by
  rintro k d U ⟨a,rfl⟩
  rw[List.mem_range] at d
  rw[Int.zero_add]
  have g1:=lB (r:=r) (i:=k) (by omega)
  have g2:aw (.tup (Nd r)) (.int ((k:Int)+1))=#v[.int (el r (k+1))]:=by
   have:=lB (r:=r) (i:=k+1) (by omega)
   rw[Int.natCast_add] at this
   exact this
  have l:ltI (.int (el r k)) (.int (el r (k+1)))=#v[.bl true]:=by
   have:=h.at (show k < k+1 by omega) (by omega)
   simp[fB];omega
  exact #[[#v[.int (k:Int)],#v[.tup (Nd r)]],_,rfl,rfl,(λh=>by cases h),λ_=>#[.val (.bl true) .z,[#v[.int (k:Int)],#v[.tup (Nd r)]],(.bl true,.z),_,ay (ay (ag rfl) (ag rfl) rfl rfl g1) (ay (ag rfl) (ay (ag rfl) i_c rfl rfl rfl) rfl rfl g2) rfl rfl l,rfl,rfl,_,rfl]])
 rw[F2.mpr (λ_ _=>rfl)] at f
 have j:dO [.int (((Nd r).length:Int) - 1)]=some (aS 0 (r.length - 1)):=dz (by first | (simp;done) | (simp;omega)) (by first | (simp;done) | (simp;omega))
 have g:cJ [#v[.tup (Nd r)],#v[.int (n:Int)]]=some (.ok (.val (.lst ((List.range (r.length - 1)).map λ_=>.bl true)) .u),[#v[.tup (Nd r)],#v[.int (n:Int)]]):=aW (rs:=[]) (Z1:=[#v[.tup (Nd r)],#v[.int (n:Int)]]) (ds:=aS 0 (r.length - 1)) (by (repeat' (first | with_reducible apply cn (h3:=j) | infer_instance | eq_refl))) f (by rw[bz];omega) rfl
 have a2:=sJ (λ_:Nat=>true) (List.range (r.length - 1))
 rw[List.all_eq_true.mpr (λ_ _=>rfl)] at a2
 apply aI (Z:=[#v[.tup (Nd r)],#v[.int (n:Int)]]) rfl rfl
 .apply ai (Z1:=[#v[.tup (Nd r)],#v[.int (n:Int)]])
  .apply bB
   .apply gj (b:=false)
    .nofun
    .rfl
    .exact dQ (bS (aC (ad e1 aq) rfl a1) rfl)
   .rfl
   .rfl
  .exact bp (aC (ad g aq) rfl a2) rfl
 .rfl
theorem cut3 {xs:List L3.D} {a:Nat} (b:a+3<=xs.length):slD (.tup xs) (some (a:Int)) (some ((a:Int)+3))=#v[.tup ((xs.drop a).take 3)]:=by
 have e:j8 xs (some (a:Int)) (some ((a:Int)+3))=(xs.drop a).take 3:=by
  unfold j8
  rw[show ((a:Int)+3)=((a+3:Nat):Int) by omega,HT.sIx_nat,HT.sIx_nat]
  by_cases h:a+3<=xs.length
  .rw[show min a xs.length=a by omega,show min (a+3) xs.length=a+3 by omega,show a+3 - a=3 by omega]
  .lia
 show some ((.tup (j8 xs (some (a:Int)) (some ((a:Int)+3))),.z):L3.D×Fl)=_
 rw[e]
theorem wr {r:List Nat} {a:Nat} (h:a+3<=r.length):((Nd r).drop a).take 3=[.int (el r a),.int (el r (a+1)),.int (el r (a+2))]:=by
 have e:∀ i,i < r.length->(Nd r)[i]?=some (.int (el r i)):=λi hi=>zx hi
 have l:(Nd r).length=r.length:=by simp
 apply List.ext_getElem?
 intro i
 rw[List.getElem?_take,List.getElem?_drop]
 match i with
 | 0=>simpa using e a (by omega)
 | 1=>simpa using e (a+1) (by omega)
 | 2=>simpa using e (a+2) (by omega)
 | i+3=>simp;omega
def rb (s:Sg) (row:List Nat) (way:Int):Bool:=(List.range (row.length - 2)).all λa=>decide (s.f (el row a) (el row (a+1)) (el row (a+2))=way)
theorem Dd {s:Sg} {T:List (List Key×L3.D)} (j:iX s T) {row:List Nat} (h:Ris s.length row) (o:s.length<=24) {way:Int}:eU [(.dt T,.u),(.tup (Nd row),.z),(.int way,.z)]=some (.ok (.bl (rb s row way),.z),[(.dt T,.u),(.tup (Nd row),.z),(.int way,.z)]):=by
 have n:=h.len
 have l:(Nd row).length=row.length:=by simp
 obtain ⟨U',e,a,rfl⟩:=bq (bnd:=am 0) (c:=cW) (elt:=eh) (λU=>∃ a,U=[a,#v[.int way],some (.dt T,.u),#v[.tup (Nd row)]]) (λi:Nat=>L3.D.int (0+(i:Int))) (λ_=>true) (λa=>.bl (decide (s.f (el row a) (el row (a+1)) (el row (a+2))=way))) (xs:=List.range (row.length - 2)) (U:=[none,#v[.int way],some (.dt T,.u),#v[.tup (Nd row)]]) #[none,rfl] (by
  rintro k m U ⟨a,rfl⟩
  rw[List.mem_range] at m
  rw[Int.zero_add]
  have c:=cut3 (xs:=Nd row) (a:=k) (by omega)
  rw[wr (by omega)] at c
  have g:=zV (j (el row k) (el row (k+1)) (el row (k+2)) (h.at (by omega) (by omega)) (h.at (by omega) (by omega)) (h.lt _ (ff (by omega))))
  have q:eqX (.int (s.f (el row k) (el row (k+1)) (el row (k+2)))) (.int way)=#v[.bl (decide (s.f (el row k) (el row (k+1)) (el row (k+2))=way))]:=rfl
  refine #[[#v[.int (k:Int)],#v[.int way],some (.dt T,.u),#v[.tup (Nd row)]],_,rfl,rfl,(λh=>by cases h),λ_=>#[.val (.bl _) .z,[#v[.int (k:Int)],#v[.int way],some (.dt T,.u),#v[.tup (Nd row)]],(.bl _,.z),_,?_,rfl,rfl,_,rfl]]
  unfold eh
  (exists c,g,q))
 rw[F2.mpr (λ_ _=>rfl)] at e
 have d:dO [.int (((Nd row).length:Int) - 2)]=some (aS 0 (row.length - 2)):=dz (by omega) (by omega)
 have b:gJ [some (.dt T,.u),#v[.tup (Nd row)],#v[.int way]]=some (.ok (.val (.lst ((List.range (row.length - 2)).map λa=>.bl (decide (s.f (el row a) (el row (a+1)) (el row (a+2))=way)))) .u),[some (.dt T,.u),#v[.tup (Nd row)],#v[.int way]]):=aW (rs:=[]) (Z1:=[some (.dt T,.u),#v[.tup (Nd row)],#v[.int way]]) (ds:=aS 0 (row.length - 2)) (by (repeat' (first | with_reducible apply cn (h3:=d) | infer_instance | eq_refl))) e (by rw[bz];omega) rfl
 have al:=sJ (λa=>decide (s.f (el row a) (el row (a+1)) (el row (a+2))=way)) (List.range (row.length - 2))
 apply aI (Z:=[some (.dt T,.u),#v[.tup (Nd row)],#v[.int way]]) rfl rfl
 .exact bp (aC (ad b aq) rfl al) rfl
 .rfl
theorem fl_nx {bnd:L3.D->Sto->Option Sto} {b:SM} {d:L3.D} {ds:List L3.D} {Z Z1 Z2:Sto} {x:Option (Except L3.D Flw×Sto)} (h1:bnd d Z=some Z1) (h2:b Z1=some (.ok .nx,Z2)) (h3:dJ bnd b ds Z2=x):dJ bnd b (d::ds) Z=x:=by
 simp only[dJ,h1,ac,h2,h3]
theorem fl_rt {bnd:L3.D->Sto->Option Sto} {b:SM} {d:L3.D} {ds:List L3.D} {Z Z1 Z2:Sto} {y:L3.D} {g:Fl} (h1:bnd d Z=some Z1) (h2:b Z1=some (.ok (.rt y g),Z2)):dJ bnd b (d::ds) Z=some (.ok (.rt y g),Z2):=by
 simp only[dJ,h1,ac,h2];rfl
theorem md {α:Type} {bnd:L3.D->Sto->Option Sto} {b:SM} (D:α->L3.D) (t:α->Bool) (P:Sto->Prop) {r:L3.D} {f:Fl}:∀ {xs:List α} {Z:Sto},P Z->(∀ x∈xs,∀ Z,P Z->∃ Z1 Z2,bnd (D x) Z=some Z1/\b Z1=some (.ok (if t x=true then .nx else .rt r f),Z2)/\P Z2)->∃ Z',dJ bnd b (xs.map D) Z=some (.ok (if xs.all t=true then .nx else .rt r f),Z')/\P Z'
 | [],Z,h0,_=>#[Z,rfl,h0]
 | x::xs,Z,h0,hs=>by
  obtain ⟨Z1,Z2,e1,a,h1⟩:=hs x Fe Z h0
  rw[FF,List.all_cons]
  cases c:t x with
  | true =>
   rw[c] at a
   obtain ⟨Z',e,h3⟩:=md D t P (xs:=xs) (Z:=Z2) h1 λy d=>hs y (Ff _ d)
   exact #[Z',fl_nx e1 a (by rw[Bool.true_and];exact e),h3]
  | false =>
   rw[c] at a
   exact #[Z2,fl_rt e1 a,h1]
def way (b:Bool):Int:=if b then 1 else -1
theorem hV (ps:List Pt):bO [Shd ps]=#v[.int (ps.length:Int)]:=by simp[rO,c1]
abbrev k2 (i j:Nat):List Key:=[.inl (i:Int),.inl (j:Int)]
theorem oN {i j a b:Nat} (h:k2 i j=k2 a b):i=a/\j=b:=by
 simp only[k2,List.cons.injEq,Sum.inl.injEq,and_true] at h
 lia
theorem yM (kvs:List (List Key×L3.D)) (k b:List Key) (v:L3.D):cV (ee kvs k v) b=if b=k then some v else cV kvs b:=by
 unfold ee
 by_cases d:(kvs.any λa=>decide (a.1=k))=true
 .rw[if_pos d]
  induction kvs with
  | nil=>simp at d
  | cons p r ih =>
   unfold cV at *
   rw[FF,List.find?_cons,List.find?_cons]
   by_cases h1:p.1=k
   .by_cases h2:b=k
    .simp[h1,h2]
    .have h3:¬ (k=b):=λe=>h2 e.symm
     simp only[h1,if_pos,decide_eq_true_eq,h3,decide_false,if_neg h2]
     by_cases f:(r.any λa=>decide (a.1=k))=true
     .have:=ih f
      simpa[h2] using this
     .have g:r.map (λa=>if a.1=k then (a.1,v) else a)=r:=by
       conv=>rhs;rw[<- List.map_id r]
       refine F5 λx c=>?_
       have:¬ x.1=k:=λe=>f (List.any_eq_true.mpr #[x,c,FH e])
       simp[this]
      rw[g]
   .have f:(r.any λa=>decide (a.1=k))=true:=by simpa[h1] using d
    have:=ih f
    simp only[h1,if_false]
    by_cases h:p.1=b
    .have j:¬ (b=k):=λe=>h1 (h.trans e)
     simp[h,j]
    .simp only[h,decide_false]
     exact this
 .rw[if_neg d]
  have i:∀ x∈kvs,¬ x.1=k:=λx c e=>d (List.any_eq_true.mpr #[x,c,FH e])
  unfold cV
  rw[List.find?_append]
  by_cases h2:b=k
  .subst h2
   have:kvs.find? (λa=>decide (a.1=b))=none:=List.find?_eq_none.mpr λx c=>by simpa using i x c
   simp[this]
  .have h3:¬ (k=b):=λe=>h2 e.symm
   simp[h2,h3]
theorem AG (kvs:List (List Key×L3.D)) (k:List Key) (v:L3.D):(ee kvs k v).length<=kvs.length+1:=by
 unfold ee
 split <;> simp
theorem AF {kvs:List (List Key×L3.D)} {k:List Key} {v:L3.D} {x:List Key×L3.D} (h:x∈ee kvs k v):x∈kvs\/x=(k,v):=by
 unfold ee at h
 split at h
 .obtain ⟨y,a,rfl⟩:=Fy.mp h
  by_cases e:y.1=k
  .rw[if_pos e,<- e];exact .inr rfl
  .rw[if_neg e];exact .inl a
 .rcases Fq.mp h with h | h
  .exact .inl h
  .exact .inr (FT.mp h)
theorem t8 {kvs:List (List Key×L3.D)} {k:List Key} {d:L3.D} (h:cV kvs k=some d):(k,d)∈kvs:=by
 unfold cV at h
 obtain ⟨p,h1,rfl⟩:=Fh.mp h
 have h2:=List.find?_some h1
 have h3:p.1=k:=by simpa using h2
 rw[<- h3]
 exact List.mem_of_find?_eq_some h1
theorem qW {kvs:List (List Key×L3.D)} {i j:Nat} {d:L3.D} (h:cV kvs (k2 i j)=some d):aw (.dt kvs) (.tup [.int i,.int j])=#v[d]:=by
 show t9 (.dt kvs) (.tup [.int i,.int j])=_
 show (cV kvs (k2 i j)).map (λd=>(d,Fl.z))=_
 rw[h];rfl
theorem C8 {kvs:List (List Key×L3.D)} {i j:Nat} {d:L3.D} (h:kvs.length < 16777216):n9 (.dt kvs) [.tup [.int i,.int j],d]=some (.dt (ee kvs (k2 i j) d),.non):=by
 show (if kvs.length < 16777216 then some (L3.D.dt (ee kvs (k2 i j) d),L3.D.non) else none)=_
 rw[if_pos h]
theorem eQ (a b:Int):eqX (.int a) (.int b)=#v[.bl (decide (a=b))]:=rfl
structure TbP (kvs:List (List Key×L3.D)) (n:Nat) (f:Nat->Nat->Int) (S:Nat->Nat->Prop) (c:Nat):Prop where
 all:∀ kv∈kvs,∃ i j,i < j/\j < n/\kv=(k2 i j,.int (f i j))
 get:∀ i j,S i j->cV kvs (k2 i j)=some (.int (f i j))
 len:kvs.length<=c
theorem TbP.put {kvs:List (List Key×L3.D)} {n:Nat} {f:Nat->Nat->Int} {S g:Nat->Nat->Prop} {c:Nat} (h:TbP kvs n f S c) {i j:Nat} (h1:i < j) (h2:j < n) (k:∀ a b,g a b->S a b\/(a=i/\b=j)):TbP (ee kvs (k2 i j) (.int (f i j))) n f g (c+1) where
 all:=λm d=>by
  rcases AF d with d | rfl
  .exact h.all m d
  .exact #[i,j,h1,h2,rfl]
 get:=λa b l=>by
  rw[yM]
  by_cases e:k2 a b=k2 i j
  .obtain ⟨rfl,rfl⟩:=oN e
   rw[if_pos rfl]
  .rw[if_neg e]
   rcases k a b l with h' | ⟨rfl,rfl⟩
   .exact h.get a b h'
   .exact absurd rfl e
 len:=by have:=AG kvs (k2 i j) (.int (f i j));have:=h.len;lia
theorem TbP.mono {kvs:List (List Key×L3.D)} {n:Nat} {f:Nat->Nat->Int} {S e:Nat->Nat->Prop} {c d:Nat} (h:TbP kvs n f S c) (j:∀ a b,e a b->S a b) (i:c<=d):TbP kvs n f e d:=#[h.all,λa b g=>h.get a b (j a b g),FZ h.len i]
def mx1 (l:List Int):Int:=(jw l).getD 1
theorem tN:mx1 []=1:=rfl
theorem iF {l:List Int} (h:l≠[]):mx1 l∈l:=by
 cases l with
 | nil=>exact absurd rfl h
 | cons x xs=>exact (fY xs x).1
theorem rE {l:List Int} {n:Int} (h:n∈l):n<=mx1 l:=by
 cases l with
 | nil=>cases h
 | cons x xs=>exact (fY xs x).2 n h
theorem xZ {l:List Int} (h:l≠[]):jw l=some (mx1 l):=by
 cases l with
 | nil=>exact absurd rfl h
 | cons x xs=>rfl
theorem x4 {l:List Int} (h:∀ n∈l,1<=n):1<=mx1 l:=by
 cases l with
 | nil=>exact Int.le_refl 1
 | cons x xs=>exact h _ (iF (by simp))
section
variable (w:Nat->Nat->Nat->Bool)
def kM:Nat->Nat->Nat->Int
 | 0,_,_=>2
 | f+1,i,j=>1+mx1 (((List.range i).filter λh=>w h i j).map λh=>kM f h i)
def aF (i j:Nat):Int:=kM w i i j
theorem mn:∀ (f a i j:Nat),i<=f->i<=a->kM w f i j=kM w a i j
 | 0,0,_,_,_,_=>rfl
 | 0,a+1,i,j,h,_=>by
  obtain rfl:i=0:=by lia
  rfl
 | f+1,0,i,j,_,h=>by
  obtain rfl:i=0:=by lia
  rfl
 | f+1,a+1,i,j,h,h'=>by
  unfold kM
  congr 2
  refine F5 λk b=>?_
  have b:=List.mem_range.mp (FV.mp b).1
  exact mn f a k i (by lia) (by lia)
theorem iJ (i j:Nat):aF w i j=1+mx1 (((List.range i).filter λh=>w h i j).map λh=>aF w h i):=by
 have h:aF w i j=kM w (i+1) i j:=mn w i (i+1) i j (FA _) (Nat.le_succ _)
 rw[h]
 show 1+mx1 (((List.range i).filter λh=>w h i j).map λh=>kM w i h i)=_
 congr 2
 refine F5 λk a=>?_
 have a:=List.mem_range.mp (FV.mp a).1
 exact mn w i k k i (by lia) (FA _)
theorem qy:∀ (f i j:Nat),2<=kM w f i j
 | 0,_,_=>Int.le_refl 2
 | f+1,i,j=>by
  show 2<=1+mx1 _
  have:=x4 (l:=((List.range i).filter λh=>w h i j).map λh=>kM w f h i) λn a=>by
   obtain ⟨k,_,rfl⟩:=Fy.mp a
   have:=qy f k i
   lia
  lia
theorem jI (i j:Nat):2<=aF w i j:=qy w i i j
theorem nR {h i j:Nat} (hw:w h i j=true) (a:h < i):aF w h i+1<=aF w i j:=by
 rw[iJ w i j]
 have:=rE (l:=((List.range i).filter λh=>w h i j).map λh=>aF w h i) (n:=aF w h i) (Fy.mpr #[h,FV.mpr #[List.mem_range.mpr a,hw],rfl])
 lia
def ks (n j:Nat):List Nat:=(List.range (n - (j+1))).map λd=>j+1+d
theorem mem_ks {n j k:Nat}:k∈ks n j ↔ j < k/\k < n:=by
 unfold ks
 constructor
 .intro h
  obtain ⟨d,hd,rfl⟩:=Fy.mp h
  have:=List.mem_range.mp hd
  lia
 .intro h
  exact Fy.mpr #[k - (j+1),List.mem_range.mpr (by lia),by lia]
def onF (n:Nat):Nat->Nat->Nat->Int
 | 0,_,_=>2
 | f+1,i,j=>1+mx1 (((ks n j).filter λk=>w i j k).map λk=>onF n f j k)
def onE (n i j:Nat):Int:=onF w n (n - (j+1)) i j
theorem oD (n:Nat):∀ (f a i j:Nat),n - (j+1)<=f->n - (j+1)<=a->onF w n f i j=onF w n a i j
 | 0,0,_,_,_,_=>rfl
 | 0,a+1,i,j,h,_=>by
  have e:ks n j=[]:=by unfold ks;rw[show n - (j+1)=0 by lia];rfl
  unfold onF
  rw[e]
  rfl
 | f+1,0,i,j,_,h=>by
  have e:ks n j=[]:=by unfold ks;rw[show n - (j+1)=0 by lia];rfl
  unfold onF
  rw[e]
  rfl
 | f+1,a+1,i,j,h,h'=>by
  unfold onF
  congr 2
  refine F5 λk b=>?_
  have b:=mem_ks.mp (FV.mp b).1
  exact oD n f a j k (by lia) (by lia)
theorem rB (n i j:Nat):onE w n i j=1+mx1 (((ks n j).filter λk=>w i j k).map λk=>onE w n j k):=by
 have h:onE w n i j=onF w n (n - (j+1)+1) i j:=oD w n _ _ i j (FA _) (Nat.le_succ _)
 rw[h]
 show 1+mx1 (((ks n j).filter λk=>w i j k).map λk=>onF w n (n - (j+1)) j k)=_
 congr 2
 refine F5 λk a=>?_
 have a:=mem_ks.mp (FV.mp a).1
 exact oD w n _ _ j k (by lia) (FA _)
theorem tH (n:Nat):∀ (f i j:Nat),2<=onF w n f i j
 | 0,_,_=>Int.le_refl 2
 | f+1,i,j=>by
  show 2<=1+mx1 _
  have:=x4 (l:=((ks n j).filter λk=>w i j k).map λk=>onF w n f j k) λb a=>by
   obtain ⟨k,_,rfl⟩:=Fy.mp a
   have:=tH n f j k
   lia
  lia
theorem tJ (n i j:Nat):2<=onE w n i j:=tH w n _ i j
theorem xU {n i j k:Nat} (hw:w i j k=true) (b:j < k) (a:k < n):onE w n j k+1<=onE w n i j:=by
 rw[rB w n i j]
 have:=rE (l:=((ks n j).filter λk=>w i j k).map λk=>onE w n j k) (n:=onE w n j k) (Fy.mpr #[k,FV.mpr #[mem_ks.mpr #[b,a],hw],rfl])
 lia
inductive Pth (n:Nat):Nat->Nat->Nat->Nat->Nat->Prop
 | nil {i j:Nat}:i < j->j < n->Pth n 0 i j i j
 | cons {m i j k i' j':Nat}:i < j->w i j k=true->Pth n m j k i' j'->Pth n (m+1) i j i' j'
variable {w}
theorem Pth.lt {n m i j d c:Nat} (h:Pth w n m i j d c):i < j/\j < n/\d < c/\c < n:=by
 induction h with
 | nil a b=>exact #[a,b,a,b]
 | cons a _ _ ih=>exact #[a,by lia,ih.2.2]
end
theorem jF {α:Type} (f:α->Int):∀ xs:List α,bJ (xs.map λx=>L3.D.int (f x))=some (xs.map f)
 | []=>rfl
 | x::xs=>by simp only[FF,bJ,jF f xs,FQ]
def wv (ps:Sg) (way:Int) (h i j:Nat):Bool:=decide (trn ps h i j=way)
theorem tR {α:Type} (xs:List α) (f:α->Int):vh (.lst (xs.map λx=>L3.D.int (f x))) (.int 1)=#v[.int (mx1 (xs.map f))]:=by
 show (bJ (xs.map λx=>L3.D.int (f x))).map _=_
 rw[jF]
 show some _=_
 unfold mx1
 cases h:jw (xs.map f) <;> simp[h]
theorem Am {a:Int} (d:-1000<=a/\a<=1000) {n:Nat} (c:(a+1).toNat=n):re [.int a,.int (-1),.int (-1)]=some (jr a n):=by
 have lm:cj a=true:=FH (by lia)
 have b:cj (-1)=true:=FH (by lia)
 show (if (cj a && cj (-1) && ((-1:Int) == -1))=true then some (jr a (a - (-1)).toNat) else none)=_
 rw[lm,b,show (a - (-1)).toNat=n by lia]
 rfl
theorem xm {hi:Int} {n i:Nat} {d:L3.D} (h:(jr hi n)[i]?=some d):i < n/\d=.int (hi - i):=by
 unfold jr at h
 rw[Fz] at h
 obtain ⟨k,a,b⟩:=Fh.mp h
 obtain ⟨c,e⟩:=Fu.mp a
 rw[List.getElem_range] at e
 subst e
 rw[List.length_range] at c
 exact #[c,b.symm]
theorem xl {hi:Int} {n:Nat}:(jr hi n).length=n:=by unfold jr;simp
theorem yA (n j:Nat):aS ((j:Int)+1) (n - (j+1))=(ks n j).map λk:Nat=>L3.D.int (k:Int):=by
 unfold aS ks
 rw[F4]
 refine F5 λd _=>?_
 show L3.D.int _=L3.D.int _
 congr 1
section
variable {ps:Sg} {way:Int} {T kvs:List (List Key×L3.D)} {i j n:Nat}
abbrev owS (n:Nat) (way:Int) (T kvs:List (List Key×L3.D)) (a b:Option (L3.D×Fl)):Sto:=[some (.dt T,.u),#v[.int (n:Int)],#v[.int way],some (.dt kvs,.u),a,b]
theorem A1 (h:n=ps.length) (f:iX ps T) (l:j < n) (hi:i < j) (m:n<=24) (g:∀ k,j < k->k < n->cV kvs (k2 j k)=some (.int (onE (wv ps way) n j k))) :
  cF (owS n way T kvs #v[.int i] #v[.int j])=some (.ok (.val (.lst (((ks n j).filter λk=>wv ps way i j k).map λk=>L3.D.int (onE (wv ps way) n j k))) .u),owS n way T kvs #v[.int i] #v[.int j]):=by
 obtain ⟨U',e,a,rfl⟩:=bq (bnd:=am 0) (c:=bL) (elt:=bK) (λU=>∃ a,U=[a,some (.dt kvs,.u),#v[.int j],#v[.int way],some (.dt T,.u),#v[.int i]]) (λk:Nat=>L3.D.int (k:Int)) (λk=>wv ps way i j k) (λk=>L3.D.int (onE (wv ps way) n j k)) (xs:=ks n j) (U:=[none,some (.dt kvs,.u),#v[.int j],#v[.int way],some (.dt T,.u),#v[.int i]]) #[none,rfl] (by
  rintro k b U ⟨a,rfl⟩
  have b:=mem_ks.mp b
  have s3:=zV (f i j k hi b.1 (by lia))
  have s2:=qW (g k b.1 b.2)
  have c:bL [#v[.int k],some (.dt kvs,.u),#v[.int j],#v[.int way],some (.dt T,.u),#v[.int i]]=some (.ok (wv ps way i j k),[#v[.int k],some (.dt kvs,.u),#v[.int j],#v[.int way],some (.dt T,.u),#v[.int i]]):=by
   unfold bL
   exists s3,eQ _ _
  have el:bK [#v[.int k],some (.dt kvs,.u),#v[.int j],#v[.int way],some (.dt T,.u),#v[.int i]]=some (.ok (.val (.int (onE (wv ps way) n j k)) .z),[#v[.int k],some (.dt kvs,.u),#v[.int j],#v[.int way],some (.dt T,.u),#v[.int i]]):=by
   unfold bK
   exists s2
  exact #[_,_,rfl,c,λ_=>#[_,rfl],λ_=>#[_,_,_,_,el,rfl,rfl,_,rfl]])
 rw[<- yA] at e
 have d:dN [.int ((j:Int)+1),.int (n:Nat)]=some (aS ((j:Int)+1) (n - (j+1))):=eL (by lia) (by lia) (by lia)
 have im:aY dN (aa (af bH (ab 5) (mC (.int 1))) (aa (ab 1) ah)) (owS n way T kvs #v[.int i] #v[.int j])=some (.ok ([],aS ((j:Int)+1) (n - (j+1))),owS n way T kvs #v[.int i] #v[.int j]):=by (repeat' (first | with_reducible apply cn (h3:=d) | infer_instance | eq_refl))
 exact aW (rs:=[]) im e (by rw[bz];lia) rfl
theorem A2 (d:n=ps.length) (g:iX ps T) (a:j < n) (hi:i < j) (b:n<=24) (f:∀ k,j < k->k < n->cV kvs (k2 j k)=some (.int (onE (wv ps way) n j k))) (e:kvs.length < 16777216) :
  bN (owS n way T kvs #v[.int i] #v[.int j])=some (.ok .nx,owS n way T (ee kvs (k2 i j) (.int (onE (wv ps way) n i j))) #v[.int i] #v[.int j]):=by
 have c:=A1 d g a hi b f
 have v:af bH (mC (.int 1)) (af vh cF (mC (.int 1))) (owS n way T kvs #v[.int i] #v[.int j])=some (.ok (.val (.int (onE (wv ps way) n i j)) .z),owS n way T kvs #v[.int i] #v[.int j]):=by
  rw[rB]
  exact ay i_c (ay c i_c rfl rfl (tR _ _)) rfl rfl rfl
 unfold bN
 exact ql (i:=3) (Z1:=owS n way T kvs #v[.int i] #v[.int j]) (Z2:=owS n way T kvs #v[.int i] #v[.int j]) (Z3:=owS n way T kvs #v[.int i] #v[.int j]) v rfl (by (nofun)) rfl rfl (C8 e)
theorem De (p:n=ps.length) (q:iX ps T) (r:n<=24) (h2:2<=n):∃ kvs,cQ [(.dt T,.u),(.int (n:Int),.z),(.int way,.z)]=some (.ok (.dt kvs,.u),[(.dt T,.u),(.int (n:Int),.z),(.int way,.z)])/\TbP kvs n (onE (wv ps way) n) (λa b=>a < b/\b < n) 1000:=by
 have inner:∀ (i:Nat) (kvs:List (List Key×L3.D)) (g:Option (L3.D×Fl)),i+1 < n->TbP kvs n (onE (wv ps way) n) (λa b=>a < b/\b < n/\i < a) (25 * (n - i)) ->
   ∃ c l,bM (owS n way T kvs #v[.int i] g)=some (.ok .nx,owS n way T c #v[.int i] l)/\TbP c n (onE (wv ps way) n) (λa b=>a < b/\b < n/\i<=a) (25 * (n - i+1)):=by
  intro i kvs g hi tb
  obtain ⟨Z',e,c,l,rfl,f⟩:=a9 (bnd:=am 5) (b:=bN) (λm Z=>∃ kvs g,Z=owS n way T kvs #v[.int i] g/\TbP kvs n (onE (wv ps way) n) (λa b=>a < b/\b < n/\(i < a\/(a=i/\b < i+1+m))) (25 * (n - i)+m)) (ds:=aS ((i:Int)+1) (n - (i+1))) (Z:=owS n way T kvs #v[.int i] g) (k:=0) #[kvs,g,rfl,tb.mono (λa b h=>by lia) (by lia)] (by
   rintro m d Z hd ⟨kvs,g,rfl,tb⟩
   obtain ⟨hm,rfl⟩:=bG hd
   rw[FK] at tb ⊢
   have b:=A2 (way:=way) (kvs:=kvs) (i:=i) (j:=i+1+m) p q (by lia) (by lia) r (λk h1 h2=>tb.get (i+1+m) k #[by lia,by lia,.inl (by lia)]) (by have:=tb.len;lia)
   rw[show ((i+1+m:Nat):Int)=(i:Int)+1+m by lia] at b
   refine #[_,_,rfl,.inl b,_,_,rfl,?_]
   exact (tb.put (i:=i) (j:=i+1+m) (by lia) (by lia) (λa b h=>by lia)).mono (λa b h=>h) (by lia))
  rw[bz,FK] at f
  have o:dN [.int ((i:Int)+1),.int (n:Nat)]=some (aS ((i:Int)+1) (n - (i+1))):=eL (by lia) (by lia) (by lia)
  refine #[c,l,?_,f.mono (λa b h=>by lia) (by lia)]
  unfold bM
  apply dH
  ·(repeat' (first | with_reducible apply cn (h3:=o) | infer_instance | eq_refl))
  .rfl
  .exact e
 obtain ⟨Z',e,c,v4,g,rfl,f⟩:=a9 (bnd:=am 4) (b:=bM) (λm Z=>∃ kvs v4 g,Z=owS n way T kvs v4 g/\TbP kvs n (onE (wv ps way) n) (λa b=>a < b/\b < n/\n - 1<=a+m) (25 * (m+2))) (ds:=jr ((n:Int) - 2) (n - 1)) (Z:=owS n way T [] none none) (k:=0) #[[],none,none,rfl,#[λ_ h=>(by cases h),λa b h=>by lia,by simp]] (by
  rintro m d Z hd ⟨kvs,v4,g,rfl,tb⟩
  obtain ⟨hm,rfl⟩:=xm hd
  rw[FK] at tb ⊢
  obtain ⟨c,l,e,f⟩:=inner (n - 2 - m) kvs g (by lia) (tb.mono (λa b h=>by lia) (by lia))
  rw[show ((n - 2 - m:Nat):Int)=(n:Int) - 2 - m by lia] at e
  exact #[_,_,rfl,.inl e,_,_,_,rfl,f.mono (λa b h=>by lia) (by lia)])
 rw[xl,FK] at f
 have o:re [.int ((n:Int) - 2),.int (-1),.int (-1)]=some (jr ((n:Int) - 2) (n - 1)):=Am (by lia) (by lia)
 refine #[c,?_,f.mono (λa b h=>by lia) (by lia)]
 apply aI (Z:=[some (.dt T,.u),#v[.int (n:Int)],#v[.int way],none,none,none]) rfl rfl
 .apply ai (Z1:=owS n way T [] none none)
  .rfl
  .apply ai
   .apply dH
    ·(repeat' (first | with_reducible apply cn (h3:=o) | infer_instance | eq_refl))
    .rfl
    .exact e
   .nofun
 .rfl
end
theorem iV {P t:List Nat} {a:Nat} (h:a < P.length):el (P++t) a=el P a:=by
 simp[el,List.getD,List.getElem?_append,h]
theorem ue {P t:List Nat} {a:Nat} (h:P.length<=a):el (P++t) a=el t (a - P.length):=by
 have:¬ a < P.length:=by lia
 simp[el,List.getD,List.getElem?_append,this]
structure Rw (w:Nat->Nat->Nat->Bool) (n:Nat) (r:List Nat):Prop where
 two:2<=r.length
 up:∀ a,a+1 < r.length->el r a < el r (a+1)
 lt:∀ a,a < r.length->el r a < n
 ok:∀ a,a+2 < r.length->w (el r a) (el r (a+1)) (el r (a+2))=true
section
variable {w:Nat->Nat->Nat->Bool} {n:Nat}
theorem Rw.pair {i j:Nat} (h1:i < j) (h2:j < n):Rw w n [i,j] where
 two:=FA _
 up:=λa b=>by
  have:a=0:=by simp at b;lia
  subst this;exact h1
 lt:=λa b=>by
  have:a=0\/a=1:=by simp at b;lia
  rcases this with rfl | rfl
  .show i < n;lia
  .exact h2
 ok:=λa b=>by simp at b;lia
theorem Rw.snoc {r:List Nat} {k:Nat} (h:Rw w n r) (h1:el r (r.length - 1) < k) (h2:k < n) (h3:w (el r (r.length - 2)) (el r (r.length - 1)) k=true):Rw w n (r++[k]):=by
 have h0:=h.two
 have c:el (r++[k]) r.length=k:=by rw[ue (FA _),Nat.sub_self];rfl
 refine #[by simp;lia,λa b=>?_,λa b=>?_,λa b=>?_]
 .simp at b
  by_cases e:a+1 < r.length
  .rw[iV (by lia),iV e];exact h.up a e
  .rw[iV (by lia),show a+1=r.length by lia,c,show a=r.length - 1 by lia];exact h1
 .simp at b
  by_cases e:a < r.length
  .rw[iV e];exact h.lt a e
  .rw[show a=r.length by lia,c];exact h2
 .simp at b
  by_cases e:a+2 < r.length
  .rw[iV (by lia),iV (by lia),iV e];exact h.ok a e
  .rw[iV (by lia),iV (by lia),show a+2=r.length by lia,c,show a=r.length - 2 by lia,show r.length - 2+1=r.length - 1 by lia];exact h3
theorem Rw.on {r:List Nat} (h:Rw w n r):∀ d a,a+2+d=r.length->2+(d:Int)<=onE w n (el r a) (el r (a+1))
 | 0,a,_=>tJ w n _ _
 | d+1,a,e=>by
  have h1:=h.on d (a+1) (by lia)
  have h2:=xU (w:=w) (n:=n) (h.ok a (by lia)) (h.up (a+1) (by lia)) (h.lt (a+2) (by lia))
  rw[show a+1+1=a+2 from rfl] at h1
  lia
end
theorem zp {xs:List L3.D} {a b:L3.D}:aw (.tup (xs++[a,b])) (.int (-2))=#v[a]/\aw (.tup (xs++[a,b])) (.int (-1))=#v[b]:=by
 constructor
 .refine fK ?_
  unfold L2.atI ixN
  rw[if_neg (by decide),if_pos (by simp;lia)]
  rw[show (-2+((xs++[a,b]).length:Int)).toNat=xs.length by simp;lia]
  simp
 .refine fK ?_
  unfold L2.atI ixN
  rw[if_neg (by decide),if_pos (by simp;lia)]
  rw[show (-1+((xs++[a,b]).length:Int)).toNat=xs.length+1 by simp;lia]
  simp
theorem Es {l:List Int} {b:Int} (h:∀ n∈l,n<=b) (a:1<=b):mx1 l<=b:=by
 cases l with
 | nil=>exact a
 | cons x xs=>exact h _ (iF (by simp))
theorem xT (w:Nat->Nat->Nat->Bool) (n:Nat):∀ (f i j:Nat),onF w n f i j<=2+f
 | 0,_,_=>by simp[onF]
 | f+1,i,j=>by
  show 1+mx1 _<=_
  have:=Es (l:=((ks n j).filter λk=>w i j k).map λk=>onF w n f j k) (b:=2+f) (λc a=>by
   obtain ⟨k,_,rfl⟩:=Fy.mp a
   exact xT w n f j k) (by lia)
  lia
theorem Ei (w:Nat->Nat->Nat->Bool) (n i j:Nat):onE w n i j<=2+n:=by
 have:=xT w n (n - (j+1)) i j
 unfold onE
 lia
theorem Bm {α:Type} (xs:List α) (f:α->Int) (h:xs≠[]):∃ x∈xs,tQ [.lst (xs.map λx=>L3.D.int (f x))]=#v[.int (f x)]/\∀ y∈xs,f x<=f y:=by
 have e:tQ [.lst (xs.map λx=>L3.D.int (f x))]=((bJ (xs.map λx=>L3.D.int (f x))).bind λns=>(rP ns).map λm=>((.int m,.z):L3.D×Fl)):=rfl
 rw[e,jF]
 cases xs with
 | nil=>exact absurd rfl h
 | cons y ys =>
  have hm:=(eP (ys.map f) (f y)).1
  obtain ⟨x,d,c⟩:=Fy.mp (show ((ys.map f).foldl (λa b=>if b < a then b else a) (f y))∈(y::ys).map f from hm)
  refine #[x,d,by rw[c];rfl,λz hz=>?_]
  rw[c]
  exact (eP (ys.map f) (f y)).2 _ (List.mem_map_of_mem (f:=f) hz)
section
variable {ps:Sg} {way:Int} {T kvs:List (List Key×L3.D)} {n:Nat} {L:Int}
def vl (a:List Key×L3.D):Int:=match a.2 with | .int v=>v | _=>0
def pk (a:List Key×L3.D):Int×Int:=match a.1 with | [.inl i,.inl j]=>(i,j) | _=>(0,0)
theorem sO {f:Nat->Nat->Int} {c:Nat} (h2:2<=n) (tb:TbP kvs n f (λa b=>a < b/\b < n) c):∃ L,ku [.dt kvs]=#v[.int L]/\(∀ i j,i < j->j < n->f i j<=L)/\∃ i j,i < j/\j < n/\f i j=L:=by
 have e1:kvs.map (·.2)=kvs.map λg=>L3.D.int (vl g):=by
  refine F5 λg h=>?_
  obtain ⟨i,j,_,_,rfl⟩:=tb.all g h
  rfl
 have mem:∀ i j,i < j->j < n->f i j∈kvs.map vl:=λi j h1 h2=>by
  have:=t8 (tb.get i j #[h1,h2])
  exact Fy.mpr #[_,this,rfl]
 have d:kvs.map vl≠[]:=λe=>by
  have:=mem 0 1 (by lia) (by lia)
  rw[e] at this
  cases this
 refine #[mx1 (kvs.map vl),?_,λi j h1 h2=>rE (mem i j h1 h2),?_]
 .show ((bJ (kvs.map (·.2))).bind λns=>(jw ns).map λm=>((.int m,.z):L3.D×Fl))=_
  rw[e1,jF]
  show (jw (kvs.map vl)).map _=_
  rw[xZ d]
  rfl
 .obtain ⟨g,h,e⟩:=Fy.mp (iF d)
  obtain ⟨i,j,h3,k,rfl⟩:=tb.all g h
  exact #[i,j,h3,k,e]
abbrev lrS (T:List (List Key×L3.D)) (n:Nat) (way:Int) (kvs:List (List Key×L3.D)) (L:Int) (a b c d:Option (L3.D×Fl)):Sto:=[some (.dt T,.u),#v[.int (n:Int)],#v[.int way],some (.dt kvs,.u),#v[.int L],a,b,c,d]
theorem Bv {f:Nat->Nat->Int} {c:Nat} (v:c < 16777216) (tb:TbP kvs n f (λa b=>a < b/\b < n) c) (t:∃ i j,i < j/\j < n/\f i j=L):∃ i j:Nat,i < j/\j < n/\f i j=L/\ao tO (aa dg ah) (lrS T n way kvs L none none none none)=some (.ok (.val (.tup [.int i,.int j]) .z),lrS T n way kvs L none none none none):=by
 obtain ⟨U',e,a,rfl⟩:=bq (bnd:=am 0) (c:=bX) (elt:=fv) (λU=>∃ a,U=[a,#v[.int L],some (.dt kvs,.l)]) (λd:List Key×L3.D=>mM d.1) (λd=>decide (vl d=L)) (λd=>mM d.1) (xs:=kvs) (U:=[none,#v[.int L],some (.dt kvs,.l)]) #[none,rfl] (by
  rintro d g U ⟨a,rfl⟩
  obtain ⟨i,j,h1,h2,rfl⟩:=tb.all d g
  have s2:=qW (tb.get i j #[h1,h2])
  have c:bX [#v[.tup [.int i,.int j]],#v[.int L],some (.dt kvs,.l)]=some (.ok (decide (f i j=L)),[#v[.tup [.int i,.int j]],#v[.int L],some (.dt kvs,.l)]):=by
   unfold bX
   exists s2,eQ _ _
  exact #[_,_,rfl,c,λ_=>#[_,rfl],λ_=>#[_,_,_,_,ag rfl,rfl,rfl,_,rfl]])
 have im:j3 (ab 3) (lrS T n way kvs L none none none none)=some (.ok ([.pl 3],kvs.map λd=>mM d.1),lrS T n way kvs L none none none none):=rfl
 have r:dg (lrS T n way kvs L none none none none)=some (.ok (.val (.lst ((kvs.filter λd=>decide (vl d=L)).map λd=>mM d.1)) .u),lrS T n way kvs L none none none none):=aW (rs:=[.pl 3]) (Z2:=[some (.dt T,.u),#v[.int (n:Int)],#v[.int way],some (.dt kvs,.l),#v[.int L],none,none,none,none]) im e (by rw[Ft];have:=tb.len;lia) rfl
 have q:(kvs.filter λd=>decide (vl d=L)).map (λd=>mM d.1)=((kvs.filter λd=>decide (vl d=L)).map pk).map jv:=by
  rw[F4]
  refine F5 λd g=>?_
  obtain ⟨i,j,h1,h2,rfl⟩:=tb.all d (FV.mp g).1
  rfl
 obtain ⟨p,o,h1,h2,h3⟩:=t
 have k:(k2 p o,L3.D.int (f p o))∈kvs.filter λd=>decide (vl d=L):=FV.mpr #[t8 (tb.get p o #[h1,h2]),FH h3]
 obtain ⟨m,hm⟩:∃ m,jY ((kvs.filter λd=>decide (vl d=L)).map pk)=some m:=by
  cases h:(kvs.filter λd=>decide (vl d=L)).map pk with
  | nil =>
   have:=List.mem_map_of_mem (f:=pk) k
   rw[h] at this
   cases this
  | cons x xs=>exact #[_,rfl]
 obtain ⟨d,g,rfl⟩:=Fy.mp (nH hm).1
 obtain ⟨g,s⟩:=FV.mp g
 obtain ⟨i,j,g1,g2,rfl⟩:=tb.all d g
 refine #[i,j,g1,g2,of_decide_eq_true s,?_]
 have ev:tO [.lst ((kvs.filter λd=>decide (vl d=L)).map λd=>mM d.1)]=#v[.tup [.int i,.int j]]:=by
  rw[q]
  show ((eM _).bind λns=>(jY ns).map λn=>((jv n,.z):L3.D×Fl))=_
  rw[ko]
  show (jY _).map _=_
  rw[hm]
  rfl
 exact aC (ad r aq) rfl ev
theorem Bx {i j:Nat} {left:Int} {row:L3.D} (h:n=ps.length) (g:iX ps T) (l:j < n) (hi:i < j) (m:n<=24) {c:Nat} (tb:TbP kvs n (onE (wv ps way) n) (λa b=>a < b/\b < n) c) :
  ft (lrS T n way kvs L #v[row] #v[.int i] #v[.int j] #v[.int left])=some (.ok (.val (.lst (((ks n j).filter λk=>wv ps way i j k && decide (onE (wv ps way) n j k=left)).map λk:Nat=>L3.D.int (k:Int))) .u),lrS T n way kvs L #v[row] #v[.int i] #v[.int j] #v[.int left]):=by
 obtain ⟨U',e,a,rfl⟩:=bq (bnd:=am 0) (c:=bW) (elt:=fu) (λU=>∃ a,U=[a,#v[.int way],#v[.int left],some (.dt T,.u),some (.dt kvs,.u),#v[.int i],#v[.int j]]) (λk:Nat=>L3.D.int (k:Int)) (λk=>wv ps way i j k && decide (onE (wv ps way) n j k=left)) (λk:Nat=>L3.D.int (k:Int)) (xs:=ks n j) (U:=[none,#v[.int way],#v[.int left],some (.dt T,.u),some (.dt kvs,.u),#v[.int i],#v[.int j]]) #[none,rfl] (by
  rintro k d U ⟨a,rfl⟩
  have d:=mem_ks.mp d
  have s3:=zV (g i j k hi d.1 (by lia))
  have s2:=qW (tb.get j k #[d.1,d.2])
  have c1:cB (af eqX (af aw (ab 3) (eZ (aa (ab 5) (aa (ab 6) (aa (ab 0) ah))))) (ab 1)) [#v[.int k],#v[.int way],#v[.int left],some (.dt T,.u),some (.dt kvs,.u),#v[.int i],#v[.int j]]=some (.ok (wv ps way i j k),[#v[.int k],#v[.int way],#v[.int left],some (.dt T,.u),some (.dt kvs,.u),#v[.int i],#v[.int j]]):=by
   exists s3,eQ _ _
  have c2:cB (af eqX (af aw (ab 4) (eZ (aa (ab 6) (aa (ab 0) ah)))) (ab 2)) [#v[.int k],#v[.int way],#v[.int left],some (.dt T,.u),some (.dt kvs,.u),#v[.int i],#v[.int j]]=some (.ok (decide (onE (wv ps way) n j k=left)),[#v[.int k],#v[.int way],#v[.int left],some (.dt T,.u),some (.dt kvs,.u),#v[.int i],#v[.int j]]):=by
   exists s2,eQ _ _
  have cc:bW [#v[.int k],#v[.int way],#v[.int left],some (.dt T,.u),some (.dt kvs,.u),#v[.int i],#v[.int j]]=some (.ok (wv ps way i j k && decide (onE (wv ps way) n j k=left)),[#v[.int k],#v[.int way],#v[.int left],some (.dt T,.u),some (.dt kvs,.u),#v[.int i],#v[.int j]]):=by
   unfold bW
   cases hw:wv ps way i j k with
   | true =>
    rw[hw] at c1
    exact rZ c1 rfl c2
   | false =>
    rw[hw] at c1
    exact yJ c1 rfl
  exact #[_,_,rfl,cc,λ_=>#[_,rfl],λ_=>#[_,_,_,_,ag rfl,rfl,rfl,_,rfl]])
 rw[<- yA] at e
 have f:dN [.int ((j:Int)+1),.int (n:Nat)]=some (aS ((j:Int)+1) (n - (j+1))):=eL (by lia) (by lia) (by lia)
 have im:aY dN (aa (af bH (ab 7) (mC (.int 1))) (aa (ab 1) ah)) (lrS T n way kvs L #v[row] #v[.int i] #v[.int j] #v[.int left])=some (.ok ([],aS ((j:Int)+1) (n - (j+1))),lrS T n way kvs L #v[row] #v[.int i] #v[.int j] #v[.int left]):=by (repeat' (first | with_reducible apply cn (h3:=f) | infer_instance | eq_refl))
 exact aW (rs:=[]) im e (by rw[bz];lia) rfl
theorem Bw {i j:Nat} {A:Int} (w:Nat->Nat->Nat->Bool) (h:onE w n i j=A+1) (c:2<=A):∃ k,k∈(ks n j).filter λk=>w i j k && decide (onE w n j k=A):=by
 rw[rB] at h
 have b:((ks n j).filter λk=>w i j k).map (λk=>onE w n j k)≠[]:=λe=>by rw[e,tN] at h;lia
 obtain ⟨k,a,e⟩:=Fy.mp (iF b)
 obtain ⟨a,hw⟩:=FV.mp a
 refine #[k,FV.mpr #[a,?_]]
 rw[hw,Bool.true_and]
 exact FH (by lia)
theorem yq (v:n=ps.length) (B:iX ps T) (F:n<=24) {c:Nat} (tb:TbP kvs n (onE (wv ps way) n) (λa b=>a < b/\b < n) c) {i j:Nat} (hi:i < j) (g:j < n) (h0:onE (wv ps way) n i j=L) :
  ∃ (P:List Nat) (a b c:Option (L3.D×Fl)),eW bA bY (lrS T n way kvs L #v[.tup [.int i,.int j]] none none none)=some (.ok .nx,lrS T n way kvs L #v[.tup (Nd P)] a b c)/\(P.length:Int)=L/\Rw (wv ps way) n P:=by
 have J:L<=26:=by have:=Ei (wv ps way) n i j;lia
 have o:2<=L:=by have:=tJ (wv ps way) n i j;lia
 have nd:∀ (pre:List Nat) (i j:Nat),Nd (pre++[i,j])=Nd pre++[.int i,.int j]:=λpre i j=>by simp[Nd]
 obtain ⟨Z',e,P,a,b,E,rfl,w,l⟩:=mZ (c:=bA) (b:=bY) (λm Z=>∃ (pre:List Nat) (i j:Nat) (a b c:Option (L3.D×Fl)),Z=lrS T n way kvs L #v[.tup (Nd (pre++[i,j]))] a b c/\i < j/\j < n/\onE (wv ps way) n i j=L - pre.length/\m=(L - pre.length).toNat/\(pre.length:Int)+2<=L/\Rw (wv ps way) n (pre++[i,j]))
  (λZ=>∃ (P:List Nat) (a b c:Option (L3.D×Fl)),Z=lrS T n way kvs L #v[.tup (Nd P)] a b c/\(P.length:Int)=L/\Rw (wv ps way) n P) (n:=L.toNat) (Z:=lrS T n way kvs L #v[.tup [.int i,.int j]] none none none) #[[],i,j,none,none,none,rfl,hi,g,by simpa using h0,by simp,by simpa using o,Rw.pair hi g] (by
   rintro m Z ⟨pre,i,j,a,b,c,rfl,hi,g,I,rfl,H,l⟩
   have x:(Nd pre).length=pre.length:=by simp[Nd]
   have hlen:bO [.tup (Nd pre++[.int i,.int j])]=#v[.int ((pre.length:Int)+2)]:=by simp[rO,c1,x]
   have f:(pre++[i,j]).length=pre.length+2:=by simp
   rw[nd]
   have t:bA (lrS T n way kvs L #v[.tup (Nd pre++[.int i,.int j])] a b c)=some (.ok (decide ((pre.length:Int)+2 < L)),lrS T n way kvs L #v[.tup (Nd pre++[.int i,.int j])] a b c):=by
    unfold bA
    exists hlen
   by_cases h:(pre.length:Int)+2 < L
   .rw[FH h] at t
    refine .inr #[lrS T n way kvs L #v[.tup (Nd pre++[.int i,.int j])] a b c,?_]
    obtain ⟨a2,a1⟩:=zp (xs:=Nd pre) (a:=L3.D.int (i:Int)) (b:=L3.D.int (j:Int))
    have s:=Bx (L:=L) (left:=L - ((pre.length:Int)+2)+1) (row:=.tup (Nd pre++[.int i,.int j])) v B g hi F tb
    obtain ⟨G,p⟩:=Bw (n:=n) (i:=i) (j:=j) (A:=L - ((pre.length:Int)+2)+1) (wv ps way) (by lia) (by lia)
    obtain ⟨k,d,em,_⟩:=Bm ((ks n j).filter λk=>wv ps way i j k && decide (onE (wv ps way) n j k=L - ((pre.length:Int)+2)+1)) (λk:Nat=>(k:Int)) (List.ne_nil_of_mem p)
    obtain ⟨d,hw⟩:=FV.mp d
    have d:=mem_ks.mp d
    simp only[Bool.and_eq_true,decide_eq_true_eq] at hw
    obtain ⟨q,hw⟩:=hw
    have ct:bH (.tup (Nd pre++[.int i,.int j])) (.tup [.int (k:Int)])=#v[.tup (Nd pre++[.int i,.int j]++[.int (k:Int)])]:=BO (by simp;lia)
    have C:el (pre++[i,j]) pre.length=i:=by rw[ue (FA _),Nat.sub_self];rfl
    have r:el (pre++[i,j]) (pre.length+1)=j:=by rw[ue (by lia),show pre.length+1 - pre.length=1 by lia];rfl
    have rs:Rw (wv ps way) n ((pre++[i,j])++[k]):=l.snoc (by rw[f,show pre.length+2 - 1=pre.length+1 by lia,r];exact d.1) d.2 (by rw[f,show pre.length+2 - 2=pre.length by lia,show pre.length+2 - 1=pre.length+1 by lia,C,r];exact q)
    have u:pre++[i,j]++[k]=(pre++[i])++[j,k]:=by simp
    rw[u] at rs
    have y:Nd pre++[L3.D.int (i:Int),.int j]++[.int (k:Int)]=Nd ((pre++[i])++[j,k]):=by simp[Nd]
    rw[y] at ct
    refine #[lrS T n way kvs L #v[.tup (Nd ((pre++[i])++[j,k]))] #v[.int i] #v[.int j] #v[.int (L - ((pre.length:Int)+2)+1)],(L - (pre.length+1:Nat)).toNat,t,.inl ?_,by lia,pre++[i],j,k,_,_,_,rfl,d.1,d.2,by simp;lia,by simp,by simp;lia,rs]
    unfold bY
    apply ai (Z1:=lrS T n way kvs L #v[.tup (Nd pre++[.int i,.int j])] #v[.int i] b c)
    .exists a2
    .apply ai (Z1:=lrS T n way kvs L #v[.tup (Nd pre++[.int i,.int j])] #v[.int i] #v[.int j] c)
     .exists a1
     .apply ai (Z1:=lrS T n way kvs L #v[.tup (Nd pre++[.int i,.int j])] #v[.int i] #v[.int j] #v[.int (L - ((pre.length:Int)+2)+1)])
      .exists hlen
      .exact iT (ay (ag rfl) (l8 (ad (aC (ad s aq) rfl em) aq) rfl (show 1<=16777216 by decide)) rfl rfl ct) rfl (show 5 < 9 by decide) rfl
   .rw[FI h] at t
    refine .inl #[_,t,pre++[i,j],a,b,c,by rw[nd],by rw[f];lia,l])
 exact #[P,a,b,E,e,w,l]
theorem Df (e:n=ps.length) (f:iX ps T) (g:n<=24) (h0:0 < n):(n=1/\aP [(.dt T,.u),(.int (n:Int),.z),(.int way,.z)]=some (.ok (.non,.z),[(.dt T,.u),(.int (n:Int),.z),(.int way,.z)])) \/
  ∃ (P:List Nat) (L:Nat),aP [(.dt T,.u),(.int (n:Int),.z),(.int way,.z)]=some (.ok (.tup (Nd P),.z),[(.dt T,.u),(.int (n:Int),.z),(.int way,.z)])/\Rw (wv ps way) n P/\P.length=L/\∀ r,Rw (wv ps way) n r->r.length<=L:=by
 by_cases h1:n=1
 .refine .inl #[h1,?_]
  subst h1
  apply aI (Z:=[some (.dt T,.u),#v[.int (1:Nat)],#v[.int way],none,none,none,none,none,none]) rfl rfl
  .apply gq
   apply iU (b:=true)
   .exists eQ _ _
   .rfl
   .nofun
  .rfl
 .have h2:2<=n:=by lia
  obtain ⟨kvs,l,tb⟩:=De (way:=way) e f g h2
  obtain ⟨L,ev,m,k⟩:=sO h2 tb
  obtain ⟨i,j,g1,g2,g3,ep⟩:=Bv (T:=T) (way:=way) (by decide) tb k
  have up:∀ r,Rw (wv ps way) n r->(r.length:Int)<=L:=λr d=>by
   have:=d.two
   have o:=d.on (r.length - 2) 0 (by lia)
   have:=m (el r 0) (el r 1) (d.up 0 (by lia)) (d.lt 1 (by lia))
   have o:2+((r.length - 2:Nat):Int)<=onE (wv ps way) n (el r 0) (el r 1):=o
   lia
  obtain ⟨P,a,b,c,h,q,p⟩:=yq e f g tb g1 g2 g3
  refine .inr #[P,P.length,?_,p,rfl,λr d=>by have:=up r d;lia]
  have ne:decide ((n:Int)=1)=false:=FI (by lia)
  apply aI (Z:=[some (.dt T,.u),#v[.int (n:Int)],#v[.int way],none,none,none,none,none,none]) rfl rfl
  .apply ai (Z1:=[some (.dt T,.u),#v[.int (n:Int)],#v[.int way],none,none,none,none,none,none])
   .apply bB
    .exists eQ _ _
    .exact ne
    .rfl
   .apply ai (Z1:=[some (.dt T,.u),#v[.int (n:Int)],#v[.int way],some (.dt kvs,.u),none,none,none,none,none])
    .nomatch [l]
    .apply ai (Z1:=lrS T n way kvs L none none none none)
     .exists ev
     .apply ai (Z1:=lrS T n way kvs L #v[.tup [.int i,.int j]] none none none)
      .exact iT ep rfl (show 5 < 9 by decide) rfl
      .apply ai
       .exact h
       .nofun
  .rfl
end
def tbl (f:Nat->Nat->Int) (l:List (Nat×Nat)):List (List Key×L3.D):=l.map λp=>(k2 p.1 p.2,.int (f p.1 p.2))
theorem AE {f:Nat->Nat->Int} {l:List (Nat×Nat)} {i j:Nat} (h:(i,j) ∉ l):ee (tbl f l) (k2 i j) (.int (f i j))=tbl f (l++[(i,j)]):=by
 have d:¬ ((tbl f l).any λb=>decide (b.1=k2 i j))=true:=by
  intro c
  obtain ⟨x,g,e⟩:=List.any_eq_true.mp c
  obtain ⟨u,hu,rfl⟩:=Fy.mp g
  obtain ⟨e1,a⟩:=oN (of_decide_eq_true e)
  exact h (by rw[<- e1,<- a];exact hu)
 unfold ee
 rw[if_neg d]
 unfold tbl
 rw[List.map_append]
 rfl
theorem iI {f:Nat->Nat->Int} {i j:Nat}:∀ {l:List (Nat×Nat)},(i,j)∈l->cV (tbl f l) (k2 i j)=some (.int (f i j))
 | u::l,h=>by
  unfold cV tbl
  rw[FF,List.find?_cons]
  by_cases e:k2 u.1 u.2=k2 i j
  .obtain ⟨e1,b⟩:=oN e
   simp[e1,b]
  .have:(i,j)∈l:=by
    rcases Fm.mp h with rfl | h
    .exact absurd rfl e
    .exact h
   have a:=iI (f:=f) this
   unfold cV tbl at a
   simp only[e,decide_false]
   exact a
theorem kX {f:Nat->Nat->Int} {l:List (Nat×Nat)}:(tbl f l).length=l.length:=Ft ..
def rI (n i m:Nat):List (Nat×Nat):=(List.range m).map λd=>(i,i+1+d)
def pI (n m:Nat):List (Nat×Nat):=(List.range m).flatMap λi=>rI n i (n - (i+1))
theorem AA (n i m:Nat):rI n i (m+1)=rI n i m++[(i,i+1+m)]:=by simp[rI,List.range_succ]
theorem tF (n m:Nat):pI n (m+1)=pI n m++rI n m (n - (m+1)):=by simp[pI,List.range_succ,List.flatMap_append]
theorem mem_rI {n i m a b:Nat}:(a,b)∈rI n i m ↔ a=i/\i < b/\b < i+1+m:=by
 simp only[rI,Fy,List.mem_range,Prod.mk.injEq]
 constructor
 .rintro ⟨d,h,rfl,rfl⟩;omega
 .rintro ⟨rfl,h1,h2⟩;exact #[b - (a+1),by omega,rfl,by omega]
theorem mem_pI {n m a b:Nat}:(a,b)∈pI n m ↔ a < m/\a < b/\b < n:=by
 simp only[pI,F3,List.mem_range]
 constructor
 .rintro ⟨i,h,h2⟩
  have:=mem_rI.mp h2
  lia
 .intro h
  exact #[a,h.1,mem_rI.mpr #[rfl,h.2.1,by omega]]
theorem xw {n i m:Nat}:(rI n i m).length=m:=by simp[rI]
theorem rq (n:Nat):∀ m,(pI n m).length<=n * m
 | 0=>by simp[pI]
 | m+1=>by
  have:=rq n m
  rw[tF,FN,xw,Nat.mul_succ]
  lia
abbrev rtS (ps:List Pt) (way:Int) (T kvs:List (List Key×L3.D)) (a b:Option (L3.D×Fl)):Sto:=[#v[Shd ps],#v[.int way],some (.dt T,.u),some (.dt kvs,.u),a,b]
section
variable {ps:List Pt} {way:Int} {T kvs:List (List Key×L3.D)} {i j:Nat}
theorem Ac (f:iX (sgn ps) T) (g:j < ps.length) (hi:i < j) (l:ps.length<=24) (k:∀ h,h < i->cV kvs (k2 h i)=some (.int (aF (wv (sgn ps) way) h i))) :
  eg (rtS ps way T kvs #v[.int i] #v[.int j])=some (.ok (.val (.lst (((List.range i).filter λh=>wv (sgn ps) way h i j).map λh=>L3.D.int (aF (wv (sgn ps) way) h i))) .u),rtS ps way T kvs #v[.int i] #v[.int j]):=by
 obtain ⟨U',e,a,rfl⟩:=bq (bnd:=am 0) (c:=cC) (elt:=cA) (λU=>∃ a,U=[a,some (.dt kvs,.u),#v[.int i],#v[.int way],some (.dt T,.u),#v[.int j]]) (λh:Nat=>L3.D.int (0+(h:Int))) (λh=>wv (sgn ps) way h i j) (λh=>L3.D.int (aF (wv (sgn ps) way) h i)) (xs:=List.range i) (U:=[none,some (.dt kvs,.u),#v[.int i],#v[.int way],some (.dt T,.u),#v[.int j]]) #[none,rfl] (by
  rintro h b U ⟨a,rfl⟩
  have b:=List.mem_range.mp b
  have s3:=zV (f h i j b hi g)
  have s2:=qW (k h b)
  have c:cC [#v[.int h],some (.dt kvs,.u),#v[.int i],#v[.int way],some (.dt T,.u),#v[.int j]]=some (.ok (wv (sgn ps) way h i j),[#v[.int h],some (.dt kvs,.u),#v[.int i],#v[.int way],some (.dt T,.u),#v[.int j]]):=by
   unfold cC
   exists s3,eQ _ _
  have el:cA [#v[.int h],some (.dt kvs,.u),#v[.int i],#v[.int way],some (.dt T,.u),#v[.int j]]=some (.ok (.val (.int (aF (wv (sgn ps) way) h i)) .z),[#v[.int h],some (.dt kvs,.u),#v[.int i],#v[.int way],some (.dt T,.u),#v[.int j]]):=by
   unfold cA
   exists s2
  exact #[_,_,by rw[Int.zero_add];rfl,c,λ_=>#[_,rfl],λ_=>#[_,_,_,_,el,rfl,rfl,_,rfl]])
 have d:dO [.int (i:Int)]=some (aS 0 i):=dz (by omega) (by omega)
 have im:aY dO (aa (ab 4) ah) (rtS ps way T kvs #v[.int i] #v[.int j])=some (.ok ([],aS 0 i),rtS ps way T kvs #v[.int i] #v[.int j]):=by (repeat' (first | with_reducible apply cn (h3:=d) | infer_instance | eq_refl))
 exact aW (rs:=[]) im e (by rw[bz];lia) rfl
theorem Ad (f:iX (sgn ps) T) (a:j < ps.length) (hi:i < j) (b:ps.length<=24) (e:∀ h,h < i->cV kvs (k2 h i)=some (.int (aF (wv (sgn ps) way) h i))) (d:kvs.length < 16777216) :
  cE (rtS ps way T kvs #v[.int i] #v[.int j])=some (.ok .nx,rtS ps way T (ee kvs (k2 i j) (.int (aF (wv (sgn ps) way) i j))) #v[.int i] #v[.int j]):=by
 have c:=Ac f a hi b e
 have v:af bH (mC (.int 1)) (af vh eg (mC (.int 1))) (rtS ps way T kvs #v[.int i] #v[.int j])=some (.ok (.val (.int (aF (wv (sgn ps) way) i j)) .z),rtS ps way T kvs #v[.int i] #v[.int j]):=by
  rw[iJ]
  exact ay i_c (ay c i_c rfl rfl (tR _ _)) rfl rfl rfl
 unfold cE
 exact ql (i:=3) (Z1:=rtS ps way T kvs #v[.int i] #v[.int j]) (Z2:=rtS ps way T kvs #v[.int i] #v[.int j]) (Z3:=rtS ps way T kvs #v[.int i] #v[.int j]) v rfl (by (nofun)) rfl rfl (C8 d)
theorem wO (g:GoodSh ps) (q:ps.length<=9):bD [(Shd ps,.z),(.int way,.z)]=some (.ok (.dt (tbl (aF (wv (sgn ps) way)) (pI ps.length ps.length)),.u),[(Shd ps,.z),(.int way,.z)]):=by
 have n:=gu g (by omega)
 have o:=lw ps
 generalize tb ps (cf ps.length)=T at *
 have r:=g.most
 have inner:∀ (i:Nat) (a:Option (L3.D×Fl)),i < ps.length->∃ c,cD (rtS ps way T (tbl (aF (wv (sgn ps) way)) (pI ps.length i)) #v[.int i] a)=some (.ok .nx,rtS ps way T (tbl (aF (wv (sgn ps) way)) (pI ps.length (i+1))) #v[.int i] c):=by
  intro i a hi
  obtain ⟨Z',e,c,rfl⟩:=a9 (bnd:=am 5) (b:=cE) (λm Z=>∃ a,Z=rtS ps way T (tbl (aF (wv (sgn ps) way)) (pI ps.length i++rI ps.length i m)) #v[.int i] a) (ds:=aS ((i:Int)+1) (ps.length - (i+1))) (Z:=rtS ps way T (tbl (aF (wv (sgn ps) way)) (pI ps.length i)) #v[.int i] a) (k:=0) #[a,by simp[rI]] (by
   rintro m d Z hd ⟨a,rfl⟩
   obtain ⟨hm,rfl⟩:=bG hd
   rw[FK]
   have p:(tbl (aF (wv (sgn ps) way)) (pI ps.length i++rI ps.length i m)).length < 16777216:=by
    have:=rq ps.length i
    have:ps.length * i<=9 * 9:=Nat.mul_le_mul q (by omega)
    rw[kX,FN,xw]
    lia
   have b:=Ad (way:=way) (kvs:=tbl (aF (wv (sgn ps) way)) (pI ps.length i++rI ps.length i m)) (i:=i) (j:=i+1+m) o (by omega) (by omega) r (λh l=>iI (Fi _ (mem_pI.mpr #[l,l,hi]))) p
   rw[AE (λz=>(Fq.mp z).elim (λz=>by have:=mem_pI.mp z;omega) λz=>by have:=mem_rI.mp z;omega),List.append_assoc,<- AA] at b
   rw[show ((i+1+m:Nat):Int)=(i:Int)+1+m by lia] at b
   exact #[_,_,rfl,.inl b,_,rfl])
  rw[bz,FK,<- tF] at e
  have f:dN [.int ((i:Int)+1),.int (ps.length:Nat)]=some (aS ((i:Int)+1) (ps.length - (i+1))):=eL (by omega) (by omega) (by omega)
  have hlen:=hV ps
  refine #[c,?_]
  unfold cD
  apply dH
  ·(repeat' (first | with_reducible apply cn (h3:=f) | infer_instance | exact hlen | eq_refl))
  .rfl
  .exact e
 obtain ⟨Z',e,v4,a,rfl⟩:=a9 (bnd:=am 4) (b:=cD) (λm Z=>∃ v4 a,Z=rtS ps way T (tbl (aF (wv (sgn ps) way)) (pI ps.length m)) v4 a) (ds:=aS 0 ps.length) (Z:=rtS ps way T [] none none) (k:=0) #[none,none,rfl] (by
  rintro m d Z hd ⟨v4,a,rfl⟩
  obtain ⟨hm,rfl⟩:=bG hd
  rw[FK]
  obtain ⟨c,e⟩:=inner m a hm
  exact #[_,_,by rw[Int.zero_add];rfl,.inl e,_,_,rfl])
 rw[bz,FK] at e
 have f:dO [.int (ps.length:Nat)]=some (aS 0 ps.length):=dz (by omega) (by omega)
 have hlen:=hV ps
 apply aI (Z:=[#v[Shd ps],#v[.int way],none,none,none,none]) rfl rfl
 .apply ai (Z1:=[#v[Shd ps],#v[.int way],some (.dt T,.u),none,none,none])
  .nomatch [n]
  .apply ai (Z1:=rtS ps way T [] none none)
   .rfl
   .apply ai
    .apply dH
     ·(repeat' (first | with_reducible apply cn (h3:=f) | infer_instance | exact hlen | eq_refl))
     .rfl
     .exact e
    .nofun
 .rfl
end
def rwB (s:Sg) (way:Int) (r:List Nat):Bool:=decide (2<=r.length) && rb s r way
theorem rw_iff {s:Sg} {way:Int} {r:List Nat}:Rw (wv s way) s.length r ↔ Ris s.length r/\rwB s way r=true:=by
 constructor
 .intro h
  have up:r.Pairwise (· < ·):=by
   rw[List.pairwise_iff_getElem]
   intro i j hi g k
   have key:∀ d,i+d < r.length->0 < d->el r i < el r (i+d):=by
    intro d
    induction d with
    | zero=>intro _ h;cases h
    | succ d ih =>
     intro hd _
     have h1:=h.up (i+d) (by lia)
     by_cases f:d=0
     .subst f;exact h1
     .have:=ih (by lia) (by lia)
      rw[show i+(d+1)=i+d+1 by lia]
      lia
   have:=key (j - i) (by lia) (by lia)
   rw[show i+(j - i)=j by lia] at this
   have e1:=fg (L:=r) hi
   have e:=fg (L:=r) g
   rw[Fo hi] at e1
   rw[Fo g] at e
   injection e1 with e1
   injection e with e
   lia
  refine #[#[up,λx l=>?_],?_]
  .obtain ⟨i,hi,rfl⟩:=List.mem_iff_getElem.mp l
   have e1:=fg (L:=r) hi
   rw[Fo hi] at e1
   injection e1 with e1
   rw[e1]
   exact h.lt i hi
  .unfold rwB rb
   rw[FH h.two,Bool.true_and,List.all_eq_true]
   intro a b
   exact h.ok a (by have:=List.mem_range.mp b;lia)
 .rintro ⟨h,c⟩
  unfold rwB at c
  rw[Bool.and_eq_true] at c
  refine #[of_decide_eq_true c.1,λa b=>h.at (by lia) b,λa b=>h.lt _ (ff b),λa b=>?_]
  exact List.all_eq_true.mp c.2 a (List.mem_range.mpr (by lia))
theorem ja (r:List Nat):bO [.tup (Nd r)]=#v[.int (r.length:Int)]:=by simp[rO,c1]
section
variable {w:Nat->Nat->Nat->Bool} {n:Nat}
theorem BF:∀ (f i j:Nat),i<=f->i < j->j < n->∃ r,Rw w n r/\(r.length:Int)=aF w i j/\el r (r.length - 2)=i/\el r (r.length - 1)=j:=by
 have base:∀ i j:Nat,i < j->j < n->aF w i j=2->∃ r,Rw w n r/\(r.length:Int)=aF w i j/\el r (r.length - 2)=i/\el r (r.length - 1)=j:=λi j h1 h2 h3=>#[[i,j],Rw.pair h1 h2,by rw[h3];rfl,rfl,rfl]
 intro f
 induction f with
 | zero =>
  intro i j h0 h1 h2
  obtain rfl:i=0:=by lia
  exact base 0 j h1 h2 (by rw[iJ];rfl)
 | succ f ih =>
  intro i j h0 h1 h2
  by_cases he:((List.range i).filter λh=>w h i j).map (λh=>aF w h i)=[]
  .exact base i j h1 h2 (by rw[iJ,he];rfl)
  .obtain ⟨h,hm,e⟩:=Fy.mp (iF he)
   obtain ⟨b,hw⟩:=FV.mp hm
   have b:=List.mem_range.mp b
   obtain ⟨r,c,d,g,a⟩:=ih h i (by lia) b (by lia)
   have t:=c.two
   refine #[r++[j],c.snoc (by rw[a];exact h1) h2 (by rw[g,a];exact hw),?_,?_,?_]
   .rw[iJ,FN,<- e,<- d]
    simp
    lia
   .rw[FN,iV (by simp;lia)]
    simpa using a
   .rw[FN,ue (by simp)]
    simp[el]
theorem Rw.cup {r:List Nat} (h:Rw w n r):∀ d:Nat,d+2<=r.length->2+(d:Int)<=aF w (el r d) (el r (d+1))
 | 0,_=>jI w _ _
 | d+1,hd=>by
  have a:=h.cup d (by lia)
  have b:=nR w (h.ok d (by lia)) (h.up d (by lia))
  have e:d+1+1=d+2:=rfl
  rw[e]
  lia
structure Mst (w:Nat->Nat->Nat->Bool) (n:Nat) (B:Int):Prop where
 all:∀ i j,i < j->j < n->aF w i j<=B
 att:B=1\/∃ i j,i < j/\j < n/\aF w i j=B
theorem Mst.one {A B:Int} (a:Mst w n A) (b:Mst w n B):A=B:=by
 have g:∀ {A B:Int},Mst w n A->Mst w n B->A<=B:=λ{A B} a b=>by
  rcases a.att with h | ⟨i,j,h1,h2,h3⟩
  .rcases b.att with h' | ⟨i,j,_,_,h3⟩
   .lia
   .have:=jI w i j
    lia
  .have:=b.all i j h1 h2
   lia
 have:=g a b
 have:=g b a
 lia
def zv (w:Nat->Nat->Nat->Bool) (n:Nat) (R:L3.D) (B:Int):Prop:=(R=.non/\B=1)\/∃ P,R=.tup (Nd P)/\Rw w n P/\(P.length:Int)=B
end
section
variable {ps:List Pt} {b:Bool} {B B1 B2:Int} {k l:Int}
theorem xk (g:GoodSh ps) (d:Mst (wv (sgn ps) (way b)) ps.length B):∃ R,aP [(.dt (tb ps (cf ps.length)),.u),(.int (ps.length:Int),.z),(.int (way b),.z)]=some (.ok (R,.z),[(.dt (tb ps (cf ps.length)),.u),(.int (ps.length:Int),.z),(.int (way b),.z)])/\zv (wv (sgn ps) (way b)) ps.length R B:=by
 rcases Df (ps:=sgn ps) (way:=way b) (n:=ps.length) rfl (lw ps) g.most g.pos with ⟨h1,h2⟩ | ⟨P,L,h1,c,m,up⟩
 .refine #[.non,h2,.inl #[rfl,?_]]
  rcases d.att with h | ⟨i,j,a,b,_⟩
  .exact h
  .lia
 .refine #[_,h1,.inr #[P,rfl,c,?_]]
  have t:=c.two
  have a1:=c.cup (P.length - 2) (by lia)
  have a2:=d.all _ _ (c.up (P.length - 2) (by lia)) (c.lt _ (by lia))
  have l:B<=L:=by
   rcases d.att with h | ⟨i,j,c1,c2,k⟩
   .lia
   .obtain ⟨r,e,f,_⟩:=BF (w:=wv (sgn ps) (way b)) (n:=ps.length) i i j (FA _) c1 c2
    have:=up r e
    lia
  lia
theorem z9 (g:GoodSh ps) (c:ps.length<=9) (b:Mst (wv (sgn ps) (way true)) ps.length B):∃ R,dA [(Shd ps,.z)]=some (.ok (R,.z),[(Shd ps,.z)])/\zv (wv (sgn ps) (way true)) ps.length R B:=by
 obtain ⟨R,h,hf⟩:=xk g b
 have h:aP [(.dt (tb ps (cf ps.length)),.u),(.int (ps.length:Int),.z),(.int 1,.z)]=some (.ok (R,.z),[(.dt (tb ps (cf ps.length)),.u),(.int (ps.length:Int),.z),(.int 1,.z)]):=h
 refine #[R,?_,hf]
 have at':=gu g (by lia)
 have a:=hV ps
 generalize tb ps (cf ps.length)=T at *
 generalize L3.D.int (ps.length:Int)=N at *
 generalize Shd ps=H at *
 apply aI (Z:=[#v[H]]) (Z1:=[#v[H]]) rfl rfl
 .apply bp
  .exact aj h (ad (aj at' (ad (ag rfl) aq) rfl rfl rfl) (ad (aC (ad (ag rfl) aq) rfl a) (ad i_c aq))) rfl rfl rfl
  .rfl
 .rfl
theorem Aa (g:GoodSh ps) (c:ps.length<=9) (b:Mst (wv (sgn ps) (way false)) ps.length B):∃ R,dB [(Shd ps,.z)]=some (.ok (R,.z),[(Shd ps,.z)])/\zv (wv (sgn ps) (way false)) ps.length R B:=by
 obtain ⟨R,h,hf⟩:=xk g b
 have h:aP [(.dt (tb ps (cf ps.length)),.u),(.int (ps.length:Int),.z),(.int (-1),.z)]=some (.ok (R,.z),[(.dt (tb ps (cf ps.length)),.u),(.int (ps.length:Int),.z),(.int (-1),.z)]):=h
 refine #[R,?_,hf]
 have at':=gu g (by lia)
 have a:=hV ps
 generalize tb ps (cf ps.length)=T at *
 generalize L3.D.int (ps.length:Int)=N at *
 generalize Shd ps=H at *
 apply aI (Z:=[#v[H]]) (Z1:=[#v[H]]) rfl rfl
 .apply bp
  .exact aj h (ad (aj at' (ad (ag rfl) aq) rfl rfl rfl) (ad (aC (ad (ag rfl) aq) rfl a) (ad i_c aq))) rfl rfl rfl
  .rfl
 .rfl
end
abbrev Kp (p:Nat×Nat):L3.D:=.tup [.int p.1,.int p.2]
theorem yC (f:Nat->Nat->Int) (l:List (Nat×Nat)):(tbl f l).map (λa=>mM a.1)=l.map Kp:=by
 unfold tbl
 rw[F4]
 rfl
theorem BA (ps:List Pt) (l:List Tri):(tb ps l).map (λa=>mM a.1)=l.map Td:=by
 unfold tb
 rw[F4]
 rfl
theorem ET:∀ n:Nat,1<=n->n<=9->∃ p q,cT (.int (n:Int)) (.int 1)=#v[.int p]/\dW (.int (n:Int)) (.int p)=#v[.int q]/\qu (.int q) (.int 2)=#v[.int ((pI n n).length:Int)]
 | 0,h,_=>absurd h (by decide)
 | 1,_,_=>#[_,_,rfl,rfl,by kernel_rfl]
 | 2,_,_=>#[_,_,rfl,rfl,by kernel_rfl]
 | 3,_,_=>#[_,_,rfl,rfl,by kernel_rfl]
 | 4,_,_=>#[_,_,rfl,rfl,by kernel_rfl]
 | 5,_,_=>#[_,_,rfl,rfl,by kernel_rfl]
 | 6,_,_=>#[_,_,rfl,rfl,by kernel_rfl]
 | 7,_,_=>#[_,_,rfl,rfl,by kernel_rfl]
 | 8,_,_=>#[_,_,rfl,rfl,by kernel_rfl]
 | 9,_,_=>#[_,_,rfl,rfl,by kernel_rfl]
 | n+10,_,h=>absurd h (by omega)
section
variable {w:Nat->Nat->Nat->Bool} {n:Nat}
theorem z7 (f:Nat->Nat->Int) (h1:1<=n) (m:n<=9):b5 [(.dt (tbl f (pI n n)),.u),(.int (n:Int),.z)]=some (.ok (.bl ((pI n n).all λp=>decide (2<=f p.1 p.2)),.z),[(.dt (tbl f (pI n n)),.u),(.int (n:Int),.z)]):=by
 obtain ⟨p,q,c1,c2,h⟩:=ET n h1 m
 have j:yx [.dt (tbl f (pI n n))]=#v[.int ((pI n n).length:Int)]:=by
  show some (L3.D.int ((tbl f (pI n n)).length:Int),Fl.z)=_
  rw[kX]
 have nl:neX (.int ((pI n n).length:Int)) (.int ((pI n n).length:Int))=#v[.bl false]:=by rw[k9];simp
 have d:=yC f (pI n n)
 have get:∀ p∈pI n n,aw (.dt (tbl f (pI n n))) (Kp p)=#v[.int (f p.1 p.2)]:=λp a=>qW (iI (show (p.1,p.2)∈_ from a))
 have mem:∀ p∈pI n n,p.1 < p.2/\p.2 < n:=λp a=>(mem_pI.mp (show (p.1,p.2)∈_ from a)).2
 generalize tbl f (pI n n)=T at *
 obtain ⟨Z1,e1,v,rfl⟩:=md (bnd:=am 2) (b:=b7) (r:=.bl false) (f:=.z) Kp (λp=>decide (2<=f p.1 p.2)) (λZ=>∃ v,Z=[some (.dt T,.l),#v[.int (n:Int)],v]) (xs:=pI n n) (Z:=[some (.dt T,.l),#v[.int (n:Int)],none]) #[none,rfl] (by
  rintro p a Z ⟨v,rfl⟩
  obtain ⟨k,s⟩:=mem p a
  have s1:=get p a
  have i:av [(Kp p,.z),(.int (n:Int),.z)]=some (.ok (.bl true,.z),[(Kp p,.z),(.int (n:Int),.z)]):=oj (r:=[p.1,p.2]) #[by simpa using k,λx g=>by simp at g;lia] (by lia)
  have o:bO [Kp p]=#v[.int 2]:=rfl
  have c:=iC (f p.1 p.2)
  have lt:ltI (.int (f p.1 p.2)) (.int 2)=#v[.bl (!decide (2<=f p.1 p.2))]:=by
   rw[show (!decide (2<=f p.1 p.2))=decide (f p.1 p.2 < 2) by by_cases z:2<=f p.1 p.2 <;> simp[z] <;> omega]
   rfl
  generalize decide (2<=f p.1 p.2)=bb at *
  refine #[_,_,rfl,?_,#v[Kp p],rfl]
  generalize L3.D.int (f p.1 p.2)=Q at *
  generalize L3.D.int (n:Int)=N at *
  unfold b7
  apply ai (Z1:=[some (.dt T,.l),#v[N],#v[Kp p]])
  .exact bB (b:=false) (gj (b:=false) (dQ (b:=true) (bS (aj i (ad (ag rfl) (ad (ag rfl) aq)) rfl rfl rfl) rfl)) rfl (bS (ay (aC (ad (ag rfl) aq) rfl o) i_c rfl rfl rfl) rfl)) rfl rfl
  cases bb with
  | true=>exact bB (b:=false) (gj (b:=false) (dQ (b:=true) (bS (aj c (ad (ay (ag rfl) (ag rfl) rfl rfl s1) aq) rfl rfl rfl) rfl)) rfl (bS (ay (ay (ag rfl) (ag rfl) rfl rfl s1) i_c rfl rfl lt) rfl)) rfl rfl
  | false=>exact iU (b:=true) (gj (b:=false) (dQ (b:=true) (bS (aj c (ad (ay (ag rfl) (ag rfl) rfl rfl s1) aq) rfl rfl rfl) rfl)) rfl (bS (ay (ay (ag rfl) (ag rfl) rfl rfl s1) i_c rfl rfl lt) rfl)) rfl (bp i_c rfl))
 rw[<- d] at e1
 clear get mem d
 generalize L3.D.int (n:Int)=N at *
 generalize L3.D.int ((pI n n).length:Int)=LN at *
 apply aI (Z:=[some (.dt T,.u),#v[N],none]) (Z1:=[some (.dt T,.u),#v[N],v]) rfl rfl
 .unfold fy
  apply ai (Z1:=[some (.dt T,.u),#v[N],none])
  .exact bB (b:=false) (gj (b:=false) (dQ (b:=true) (bS (ED (ag rfl) rfl rfl) rfl)) rfl (bS (ay (aC (ad (ag rfl) aq) rfl j) (ay (ay (ag rfl) (ay (ag rfl) i_c rfl rfl c1) rfl rfl c2) i_c rfl rfl h) rfl rfl nl) rfl)) rfl rfl
  cases e:(pI n n).all λp=>decide (2<=f p.1 p.2) with
  | true =>
   rw[e,if_pos rfl] at e1
   apply ai (j4 (rs:=[.pl 0]) (is:=[0]) (Z1:=[some (.dt T,.u),#v[N],none]) rfl rfl e1)
   exact bp i_c rfl
  | false =>
   rw[e,if_neg (by decide)] at e1
   exact gq (j4 (rs:=[.pl 0]) (is:=[0]) (Z1:=[some (.dt T,.u),#v[N],none]) rfl rfl e1)
 .rfl
end
theorem Ct (a c d:L3.D):slD (.tup [a,c,d]) (some 1) none=#v[.tup [c,d]]:=by kernel_rfl
theorem Cs (a c d:L3.D):slD (.tup [a,c,d]) none (some 2)=#v[.tup [a,c]]:=by kernel_rfl
section
variable {ps:List Pt} {b:Bool}
theorem sT (f:Nat->Nat->Int) (g:GoodSh ps) (y:ps.length<=9):bT [(.dt (tbl f (pI ps.length ps.length)),.u),(Shd ps,.z),(.int (way b),.z)]=some (.ok (.bl (((pI ps.length ps.length).all λp=>decide (2<=f p.1 p.2)) && ((cf ps.length).all λt=>!(wv (sgn ps) (way b) t.1 t.2.1 t.2.2 && decide (f t.2.1 t.2.2<=f t.1 t.2.1)))),.z),[(.dt (tbl f (pI ps.length ps.length)),.u),(Shd ps,.z),(.int (way b),.z)]):=by
 have d:=z7 f g.pos y
 have at':=gu g (by lia)
 have m:=hV ps
 have kt:=BA ps (cf ps.length)
 have get:∀ i j,i < j->j < ps.length->aw (.dt (tbl f (pI ps.length ps.length))) (.tup [.int (i:Int),.int (j:Int)])=#v[.int (f i j)]:=λi j h1 h2=>qW (iI (mem_pI.mpr #[by omega,h1,h2]))
 have gt:∀ t∈cf ps.length,aw (.dt (tb ps (cf ps.length))) (Td t)=#v[.int (tq ps t)]:=λt a=>C3 a
 have e:∀ i j k,eqX (.int (tq ps (i,j,k))) (.int (way b))=#v[.bl (wv (sgn ps) (way b) i j k)]:=λi j k=>eQ _ _
 have mt:∀ t∈cf ps.length,t.1 < t.2.1/\t.2.1 < t.2.2/\t.2.2 < ps.length:=λt a=>jx a
 generalize wv (sgn ps) (way b)=w at *
 generalize tbl f (pI ps.length ps.length)=T at *
 generalize tb ps (cf ps.length)=τ at *
 obtain ⟨Z1,e1,v,rfl⟩:=md (bnd:=am 4) (b:=eY) (r:=.bl false) (f:=.z) Td (λt=>!(w t.1 t.2.1 t.2.2 && decide (f t.2.1 t.2.2<=f t.1 t.2.1))) (λZ=>∃ v,Z=[some (.dt T,.u),#v[Shd ps],#v[.int (way b)],some (.dt τ,.l),v]) (xs:=cf ps.length) (Z:=[some (.dt T,.u),#v[Shd ps],#v[.int (way b)],some (.dt τ,.l),none]) #[none,rfl] (by
  rintro ⟨i,j,k⟩ a Z ⟨v,rfl⟩
  obtain ⟨x,q,s⟩:i < j/\j < k/\k < ps.length:=mt _ a
  have s0:=gt _ a
  have s1:=get i j x (by lia)
  have s2:=get j k q s
  have c:=e i j k
  have le:leI (.int (f j k)) (.int (f i j))=#v[.bl (decide (f j k<=f i j))]:=rfl
  refine #[_,_,rfl,?_,#v[Td (i,j,k)],rfl]
  clear get gt e mt
  dsimp only
  generalize L3.D.int (tq ps (i,j,k))=Q at *
  generalize L3.D.int (way b)=WB at *
  generalize Shd ps=H at *
  unfold eY
  cases n:w i j k with
  | true =>
   rw[n] at c
   generalize decide (f j k<=f i j)=dd at *
   cases dd with
   | false=>exact bB (b:=false) (rZ (b:=true) (bS (ay (ay (ag rfl) (ag rfl) rfl rfl s0) (ag rfl) rfl rfl c) rfl) rfl (bS (ay (ay (ag rfl) (by (exists Ct _ _ _)) rfl rfl s2) (ay (ag rfl) (by (exists Cs _ _ _)) rfl rfl s1) rfl rfl le) rfl)) rfl rfl
   | true=>exact iU (b:=true) (rZ (b:=true) (bS (ay (ay (ag rfl) (ag rfl) rfl rfl s0) (ag rfl) rfl rfl c) rfl) rfl (bS (ay (ay (ag rfl) (by (exists Ct _ _ _)) rfl rfl s2) (ay (ag rfl) (by (exists Cs _ _ _)) rfl rfl s1) rfl rfl le) rfl)) rfl (bp i_c rfl)
  | false =>
   rw[n] at c
   exact bB (b:=false) (yJ (b:=false) (bS (ay (ay (ag rfl) (ag rfl) rfl rfl s0) (ag rfl) rfl rfl c) rfl) rfl) rfl rfl)
 rw[<- kt] at e1
 clear get gt e mt kt
 generalize L3.D.int (ps.length:Int)=N at *
 generalize Shd ps=H at *
 cases o:(pI ps.length ps.length).all λp=>decide (2<=f p.1 p.2) with
 | false =>
  rw[o] at d
  apply aI (Z:=[some (.dt T,.u),#v[H],#v[.int (way b)],none,none]) (Z1:=[some (.dt T,.u),#v[H],#v[.int (way b)],some (.dt τ,.u),none]) rfl rfl
  .unfold i9
   apply ai (Z1:=[some (.dt T,.u),#v[H],#v[.int (way b)],some (.dt τ,.u),none])
   .nomatch [(at')]
   exact gq (iU (b:=true) (dQ (b:=false) (bS (aj d (ad (ag rfl) (ad (aC (ad (ag rfl) aq) rfl m) aq)) rfl rfl rfl) rfl)) rfl (bp i_c rfl))
  .rfl
 | true =>
  rw[o] at d
  rw[Bool.true_and]
  apply aI (Z:=[some (.dt T,.u),#v[H],#v[.int (way b)],none,none]) (Z1:=[some (.dt T,.u),#v[H],#v[.int (way b)],some (.dt τ,.u),v]) rfl rfl
  .unfold i9
   apply ai (Z1:=[some (.dt T,.u),#v[H],#v[.int (way b)],some (.dt τ,.u),none])
   .nomatch [(at')]
   apply ai (Z1:=[some (.dt T,.u),#v[H],#v[.int (way b)],some (.dt τ,.u),none])
   .exact bB (b:=false) (dQ (b:=true) (bS (aj d (ad (ag rfl) (ad (aC (ad (ag rfl) aq) rfl m) aq)) rfl rfl rfl) rfl)) rfl rfl
   cases h:(cf ps.length).all λt=>!(w t.1 t.2.1 t.2.2 && decide (f t.2.1 t.2.2<=f t.1 t.2.1)) with
   | true =>
    rw[h,if_pos rfl] at e1
    apply ai (j4 (rs:=[.pl 3]) (is:=[3]) (Z1:=[some (.dt T,.u),#v[H],#v[.int (way b)],some (.dt τ,.u),none]) rfl rfl e1)
    exact bp i_c rfl
   | false =>
    rw[h,if_neg (by decide)] at e1
    exact gq (j4 (rs:=[.pl 3]) (is:=[3]) (Z1:=[some (.dt T,.u),#v[H],#v[.int (way b)],some (.dt τ,.u),none]) rfl rfl e1)
  .rfl
end
def kD (f:Nat->Nat->Int) (a b:Nat) (i j:Nat):Int:=if i=a/\j=b then f i j - 1 else f i j
def pP (w:Nat->Nat->Nat->Bool) (n:Nat) (f:Nat->Nat->Int):Bool:=((pI n n).all λp=>decide (2<=f p.1 p.2)) && ((cf n).all λt=>!(w t.1 t.2.1 t.2.2 && decide (f t.2.1 t.2.2<=f t.1 t.2.1)))
section
variable {w:Nat->Nat->Nat->Bool} {n:Nat}
theorem AZ:pP w n (aF w)=true:=by
 refine Bool.and_eq_true_iff.mpr #[List.all_eq_true.mpr λp _=>FH (jI w _ _),List.all_eq_true.mpr λt a=>?_]
 obtain ⟨c,d,e⟩:=jx a
 cases b:w t.1 t.2.1 t.2.2 with
 | false=>rfl
 | true =>
  have:=nR w b c
  rw[Bool.true_and,FI (by omega)];rfl
theorem xM {a b:Nat} (h1:a < b) (h2:b < n) (o:∀ h,h < a->(h,a,b)∈cf n):pP w n (kD (aF w) a b)=false:=by
 refine Bool.eq_false_iff.mpr λl=>?_
 obtain ⟨p,p2⟩:=Bool.and_eq_true_iff.mp l
 have f:=of_decide_eq_true (List.all_eq_true.mp p (a,b) (mem_pI.mpr #[by omega,h1,h2]))
 have e:kD (aF w) a b a b=aF w a b - 1:=if_pos #[rfl,rfl]
 have e1:=iJ w a b
 by_cases d:(((List.range a).filter λh=>w h a b).map λh=>aF w h a)=[]
 .rw[d,tN] at e1
  dsimp only at f
  lia
 .obtain ⟨h,k,q⟩:=Fy.mp (iF d)
  obtain ⟨m,g⟩:=FV.mp k
  have i:=List.mem_range.mp m
  have c:=List.all_eq_true.mp p2 _ (o h i)
  have j:kD (aF w) a b h a=aF w h a:=if_neg λz=>by omega
  dsimp only at c
  rw[g,e,j,Bool.true_and,FH (by omega)] at c
  cases c
end
theorem xy {f:Nat->Nat->Int} {l:List (Nat×Nat)} {a b:Nat} (h:(a,b)∈l):ee (tbl f l) (k2 a b) (.int (f a b - 1))=tbl (kD f a b) l:=by
 have g:((tbl f l).any λd=>decide (d.1=k2 a b))=true:=List.any_eq_true.mpr #[_,Fy.mpr #[_,h,rfl],FH rfl]
 unfold ee
 rw[if_pos g]
 unfold tbl
 rw[F4]
 refine F5 λp _=>?_
 show (if k2 p.1 p.2=k2 a b then (k2 p.1 p.2,L3.D.int (f a b - 1)) else (k2 p.1 p.2,L3.D.int (f p.1 p.2)))=_
 by_cases e:k2 p.1 p.2=k2 a b
 .obtain ⟨e1,c⟩:=oN e
  rw[if_pos e]
  unfold kD
  rw[if_pos #[e1,c],e1,c]
 .rw[if_neg e]
  unfold kD
  rw[if_neg λz=>e (by rw[z.1,z.2])]
theorem jb (f:Nat->Nat->Int):∀ l:List (Nat×Nat),bR ((tbl f l).map (·.1))=some (l.map λp=>[(p.1:Int),(p.2:Int)])
 | []=>rfl
 | p::l=>by
  have a:=jb f l
  unfold tbl at a ⊢
  rw[FF,FF,FF]
  show (some [(p.1:Int),(p.2:Int)]).bind (λn=>(bR _).map (n::·))=_
  rw[a];rfl
theorem r0:∀ n:Nat,n<=9->(((pI n n).map λp=>[(p.1:Int),(p.2:Int)]).map dG).Nodup
 | 0,_=>by decide +kernel
 | 1,_=>by decide +kernel
 | 2,_=>by decide +kernel
 | 3,_=>by decide +kernel
 | 4,_=>by decide +kernel
 | 5,_=>by decide +kernel
 | 6,_=>by decide +kernel
 | 7,_=>by decide +kernel
 | 8,_=>by decide +kernel
 | 9,_=>by decide +kernel
 | n+10,h=>absurd h (by lia)
theorem yZ (f:Nat->Nat->Int) {n:Nat} (h:n<=9):y6 [.dt (tbl f (pI n n))]=some (.dt (tbl f (pI n n)),.u):=by
 show (bR ((tbl f (pI n n)).map (·.1))).bind _=_
 rw[jb]
 exact if_pos (r0 n h)
theorem wb:∀ n:Nat,n<=9->(wc ((pI n n).map λp=>[(p.1:Int),(p.2:Int)]) && ((pI n n).map λp=>[(p.1:Int),(p.2:Int)]).all (λn=>!n.isEmpty) && decide (((pI n n).map λp=>[(p.1:Int),(p.2:Int)]).length<=16777216))=true
 | 0,_=>by decide +kernel
 | 1,_=>by decide +kernel
 | 2,_=>by decide +kernel
 | 3,_=>by decide +kernel
 | 4,_=>by decide +kernel
 | 5,_=>by decide +kernel
 | 6,_=>by decide +kernel
 | 7,_=>by decide +kernel
 | 8,_=>by decide +kernel
 | 9,_=>by decide +kernel
 | n+10,h=>absurd h (by lia)
theorem wF (f:Nat->Nat->Int) {n:Nat} (h:n<=9):n4 [.dt (tbl f (pI n n))]=some (.lst ((pI n n).map Kp),.u):=by
 show (bR ((tbl f (pI n n)).map (·.1))).bind _=_
 rw[jb]
 refine (if_pos (wb n h)).trans ?_
 rw[F4]
 rfl
section
variable {ps:List Pt}
theorem pE (f:Nat->Nat->Int) (g:GoodSh ps) (a:ps.length<=9):bU [(.dt (tbl f (pI ps.length ps.length)),.u),(Shd ps,.z)]=some (.ok (.bl (pP (wv (sgn ps) (way true)) ps.length f),.z),[(.dt (tbl f (pI ps.length ps.length)),.u),(Shd ps,.z)]):=by
 have h:bT [(.dt (tbl f (pI ps.length ps.length)),.u),(Shd ps,.z),(.int 1,.z)]=some (.ok (.bl (pP (wv (sgn ps) (way true)) ps.length f),.z),[(.dt (tbl f (pI ps.length ps.length)),.u),(Shd ps,.z),(.int 1,.z)]):=sT (b:=true) f g a
 generalize pP (wv (sgn ps) (way true)) ps.length f=B at *
 generalize tbl f (pI ps.length ps.length)=T at *
 generalize Shd ps=H at *
 apply aI (Z:=[some (.dt T,.u),#v[H]]) (Z1:=[some (.dt T,.u),#v[H]]) rfl rfl
 .apply bp
  .exact aj h (ad (ag rfl) (ad (ag rfl) (ad i_c aq))) rfl rfl rfl
  .rfl
 .rfl
theorem wV (f:Nat->Nat->Int) (g:GoodSh ps) (a:ps.length<=9):cR [(.dt (tbl f (pI ps.length ps.length)),.u),(Shd ps,.z)]=some (.ok (.bl (pP (wv (sgn ps) (way false)) ps.length f),.z),[(.dt (tbl f (pI ps.length ps.length)),.u),(Shd ps,.z)]):=by
 have h:bT [(.dt (tbl f (pI ps.length ps.length)),.u),(Shd ps,.z),(.int (-1),.z)]=some (.ok (.bl (pP (wv (sgn ps) (way false)) ps.length f),.z),[(.dt (tbl f (pI ps.length ps.length)),.u),(Shd ps,.z),(.int (-1),.z)]):=sT (b:=false) f g a
 generalize pP (wv (sgn ps) (way false)) ps.length f=B at *
 generalize tbl f (pI ps.length ps.length)=T at *
 generalize Shd ps=H at *
 apply aI (Z:=[some (.dt T,.u),#v[H]]) (Z1:=[some (.dt T,.u),#v[H]]) rfl rfl
 .apply bp
  .exact aj h (ad (ag rfl) (ad (ag rfl) (ad i_c aq))) rfl rfl rfl
  .rfl
 .rfl
theorem wW (g:GoodSh ps) (a:ps.length<=9):dL [(Shd ps,.z)]=some (.ok (.dt (tbl (aF (wv (sgn ps) (way true))) (pI ps.length ps.length)),.u),[(Shd ps,.z)]):=by
 have h:bD [(Shd ps,.z),(.int 1,.z)]=some (.ok (.dt (tbl (aF (wv (sgn ps) (way true))) (pI ps.length ps.length)),.u),[(Shd ps,.z),(.int 1,.z)]):=wO (way:=way true) g a
 generalize tbl (aF (wv (sgn ps) (way true))) (pI ps.length ps.length)=T at *
 generalize Shd ps=H at *
 apply aI (Z:=[#v[H]]) (Z1:=[#v[H]]) rfl rfl
 .apply bp
  .exact aj h (ad (ag rfl) (ad i_c aq)) rfl rfl rfl
  .rfl
 .rfl
theorem wU (g:GoodSh ps) (a:ps.length<=9):dM [(Shd ps,.z)]=some (.ok (.dt (tbl (aF (wv (sgn ps) (way false))) (pI ps.length ps.length)),.u),[(Shd ps,.z)]):=by
 have h:bD [(Shd ps,.z),(.int (-1),.z)]=some (.ok (.dt (tbl (aF (wv (sgn ps) (way false))) (pI ps.length ps.length)),.u),[(Shd ps,.z),(.int (-1),.z)]):=wO (way:=way false) g a
 generalize tbl (aF (wv (sgn ps) (way false))) (pI ps.length ps.length)=T at *
 generalize Shd ps=H at *
 apply aI (Z:=[#v[H]]) (Z1:=[#v[H]]) rfl rfl
 .apply bp
  .exact aj h (ad (ag rfl) (ad i_c aq)) rfl rfl rfl
  .rfl
 .rfl
end
section
variable {ps:List Pt}
theorem yw (f:Nat->Nat->Int) {n:Nat} (h:n<=9):(tbl f (pI n n)).length < 16777216:=by
 have:=rq n n
 have:n * n<=9 * 9:=Nat.mul_le_mul h h
 rw[kX]
 lia
theorem vq (g:GoodSh ps) (e:ps.length<=9) {a b:Nat} (h1:a < b) (h2:b < ps.length) {c0 c1 c2 c4 c5 c7 c9 c10 c11:Option (L3.D×Fl)}:∃ c,hJ [c0,c1,c2,#v[Shd ps],c4,c5,some (.dt (tbl (aF (wv (sgn ps) (way true))) (pI ps.length ps.length)),.u),c7,#v[Kp (a,b)],c9,c10,c11]=some (.ok .nx,[c0,c1,c2,#v[Shd ps],c4,c5,some (.dt (tbl (aF (wv (sgn ps) (way true))) (pI ps.length ps.length)),.u),c7,#v[Kp (a,b)],c9,c10,c]):=by
 have k:=yZ (aF (wv (sgn ps) (way true))) e
 have hm:(a,b)∈pI ps.length ps.length:=mem_pI.mpr #[by omega,h1,h2]
 have gt:aw (.dt (tbl (aF (wv (sgn ps) (way true))) (pI ps.length ps.length))) (Kp (a,b))=_:=qW (iI (f:=aF (wv (sgn ps) (way true))) hm)
 have st:n9 (.dt (tbl (aF (wv (sgn ps) (way true))) (pI ps.length ps.length))) [Kp (a,b),.int (aF (wv (sgn ps) (way true)) a b - 1)]=_:=C8 (i:=a) (j:=b) (d:=.int (aF (wv (sgn ps) (way true)) a b - 1)) (yw (aF (wv (sgn ps) (way true))) e)
 rw[xy hm] at st
 have sb:cT (.int (aF (wv (sgn ps) (way true)) a b)) (.int 1)=#v[.int (aF (wv (sgn ps) (way true)) a b - 1)]:=rfl
 have pp:=pE (kD (aF (wv (sgn ps) (way true))) a b) g e
 rw[xM h1 h2 (λh l=>nz l h1 h2)] at pp
 generalize tbl (kD (aF (wv (sgn ps) (way true))) a b) (pI ps.length ps.length)=τ at *
 generalize tbl (aF (wv (sgn ps) (way true))) (pI ps.length ps.length)=T at *
 generalize L3.D.int (aF (wv (sgn ps) (way true)) a b - 1)=N1 at *
 generalize L3.D.int (aF (wv (sgn ps) (way true)) a b)=N0 at *
 generalize Kp (a,b)=KK at *
 generalize Shd ps=H at *
 refine #[some (.dt τ,.u),?_]
 unfold hJ
 apply ai (Z1:=[c0,c1,c2,#v[H],c4,c5,some (.dt T,.u),c7,#v[KK],c9,c10,some (.dt T,.u)])
 .exact iT (aC (ad (ag rfl) aq) rfl k) rfl (Nat.le_of_ble_eq_true rfl) rfl
 apply ai (Z1:=[c0,c1,c2,#v[H],c4,c5,some (.dt T,.u),c7,#v[KK],c9,c10,some (.dt τ,.u)])
 .exact ql (i:=11) (Z1:=[c0,c1,c2,#v[H],c4,c5,some (.dt T,.u),c7,#v[KK],c9,c10,some (.dt T,.u)]) (Z2:=[c0,c1,c2,#v[H],c4,c5,some (.dt T,.u),c7,#v[KK],c9,c10,some (.dt T,.u)]) (Z3:=[c0,c1,c2,#v[H],c4,c5,some (.dt T,.u),c7,#v[KK],c9,c10,some (.dt T,.u)]) (ay (ay (ag rfl) (ag rfl) rfl rfl gt) i_c rfl rfl sb) rfl (ag rfl) rfl rfl st
 exact bB (b:=false) (bS (ay (aj pp (ad (ag rfl) (ad (ag rfl) aq)) rfl rfl rfl) i_c rfl rfl rfl) rfl) rfl rfl
theorem yt (g:GoodSh ps) (f:ps.length<=9) {c0 c1 c2 c4 c5 c7 c8 c9 c10 c11:Option (L3.D×Fl)}:∃ c a,cy (cP (ao n4 (aa (ab 6) ah))) (am 8) hJ [c0,c1,c2,#v[Shd ps],c4,c5,some (.dt (tbl (aF (wv (sgn ps) (way true))) (pI ps.length ps.length)),.u),c7,c8,c9,c10,c11]=some (.ok .nx,[c0,c1,c2,#v[Shd ps],c4,c5,some (.dt (tbl (aF (wv (sgn ps) (way true))) (pI ps.length ps.length)),.u),c7,c,c9,c10,a]):=by
 have j:=wF (aF (wv (sgn ps) (way true))) f
 obtain ⟨Z',e,c,a,rfl⟩:=a9 (bnd:=am 8) (b:=hJ) (λ_ Z=>∃ c a,Z=[c0,c1,c2,#v[Shd ps],c4,c5,some (.dt (tbl (aF (wv (sgn ps) (way true))) (pI ps.length ps.length)),.u),c7,c,c9,c10,a]) (ds:=(pI ps.length ps.length).map Kp) (Z:=[c0,c1,c2,#v[Shd ps],c4,c5,some (.dt (tbl (aF (wv (sgn ps) (way true))) (pI ps.length ps.length)),.u),c7,c8,c9,c10,c11]) (k:=0) #[_,_,rfl] (by
  rintro i d Z hd ⟨c,a,rfl⟩
  rw[Fz,Fh] at hd
  obtain ⟨p,l,rfl⟩:=hd
  obtain ⟨_,m,h⟩:=mem_pI.mp (show (p.1,p.2)∈_ from Fv l)
  obtain ⟨v,b⟩:=vq g f m h (c0:=c0) (c1:=c1) (c2:=c2) (c4:=c4) (c5:=c5) (c7:=c7) (c9:=c9) (c10:=c10) (c11:=a)
  exact #[_,_,rfl,.inl b,_,_,rfl])
 refine #[c,a,?_]
 generalize (pI ps.length ps.length).map Kp=KL at *
 generalize tbl (aF (wv (sgn ps) (way true))) (pI ps.length ps.length)=T at *
 generalize Shd ps=H at *
 exact dH (ld (aC (ad (ag rfl) aq) rfl j) rfl rfl) rfl e
end
theorem tM {w:Nat->Nat->Nat->Bool} {n:Nat} (h2:2<=n):∃ B,Mst w n B/\ku [.dt (tbl (aF w) (pI n n))]=#v[.int B]:=by
 have f:TbP (tbl (aF w) (pI n n)) n (aF w) (λa b=>a < b/\b < n) (pI n n).length:=⟨λl k=>by
  obtain ⟨p,g,rfl⟩:=Fy.mp k
  obtain ⟨_,c,p2⟩:=mem_pI.mp (show (p.1,p.2)∈_ from g)
  exact ⟨p.1,p.2,c,p2,rfl⟩,λi j h=>iI (mem_pI.mpr ⟨by omega,h.1,h.2⟩),by rw[kX];exact FA _⟩
 obtain ⟨L,e,up,i,j,c,p2,d⟩:=sO h2 f
 exact #[L,#[up,.inr #[i,j,c,p2,d]],e]
structure Sgn (s:Sg):Prop where
 pm:∀ i j k,s.f i j k=1\/s.f i j k = -1
 ax:∀ i j k l,i < j->j < k->k < l->l < s.length->(s.f i j k=s.f i j l/\s.f i j l=s.f i k l)\/(s.f i j k=s.f i j l/\s.f i k l=s.f j k l)\/(s.f i j l=s.f i k l/\s.f i k l=s.f j k l)
theorem yU {R:List Nat} {x:Nat} (h:x∈R):∃ i,i < R.length/\el R i=x:=by
 obtain ⟨i,hi,e⟩:=List.mem_iff_getElem.mp h
 have:=fg hi
 rw[Fo hi] at this
 exact #[i,hi,(F6 this).symm.trans e]
theorem Ck {n:Nat} {R:List Nat} (h:Ris n R) {i j:Nat} (hi:i < R.length) (a:j < R.length) (b:el R i < el R j):i < j:=by
 rcases Nat.lt_trichotomy i j with q | q | q
 .exact q
 .subst q;omega
 .have:=h.at q hi;omega
variable {s:Sg}
theorem iD (G:Sgn s) {R:List Nat} (h:Ris s.length R) {w:Int} (a:rb s R w=true):∀ d i j k,i < j->j < k->k < R.length->k<=i+d->s.f (el R i) (el R j) (el R k)=w
 | 0,i,j,k,h1,h2,h3,h4=>by omega
 | d+1,i,j,k,h1,h2,h3,h4=>by
  have lt:∀ x,x < R.length->el R x < s.length:=λx b=>h.lt _ (ff b)
  by_cases c1:j=i+1
  .subst c1
   by_cases c2:k=i+2
   .subst c2
    have:=List.all_eq_true.mp a i (List.mem_range.mpr (by omega))
    exact of_decide_eq_true this
   .have a1:=iD G h a d i (i+1) (k - 1) (by omega) (by omega) (by omega) (by omega)
    have a2:=iD G h a d (i+1) (k - 1) k (by omega) (by omega) h3 (by omega)
    have:=G.ax (el R i) (el R (i+1)) (el R (k - 1)) (el R k) (h.at (by omega) (by omega)) (h.at (by omega) (by omega)) (h.at (by omega) h3) (lt k h3)
    lia
  .have a1:=iD G h a d i (i+1) j (by omega) (by omega) (by omega) (by omega)
   have a2:=iD G h a d (i+1) j k (by omega) h2 h3 (by omega)
   have:=G.ax (el R i) (el R (i+1)) (el R j) (el R k) (h.at (by omega) (by omega)) (h.at (by omega) (by omega)) (h.at h2 h3) (lt k h3)
   lia
theorem Ak (G:Sgn s) {R:List Nat} (h:Ris s.length R) {w:Int} (e:rb s R w=true) {x y z:Nat} (c:x∈R) (d:y∈R) (hz:z∈R) (h1:x < y) (h2:y < z):s.f x y z=w:=by
 obtain ⟨i,hi,rfl⟩:=yU c
 obtain ⟨j,a,rfl⟩:=yU d
 obtain ⟨k,b,rfl⟩:=yU hz
 exact iD G h e k i j k (Ck h hi a h1) (Ck h a b h2) b (by omega)
theorem rm {b B s:Int} (a:0 < b) (e:b * B=s) (c:0 < s):0 < B:=by
 rcases Int.lt_or_le 0 B with h | h
 .exact h
 .have:=Int.mul_le_mul_of_nonneg_left h (Int.le_of_lt a)
  rw[Int.mul_zero] at this
  lia
theorem oE {b B s:Int} (a:0 < b) (e:b * B=s) (c:s<=0):¬ 0 < B:=λh=>by
 have:=Int.mul_pos a h
 lia
theorem oF {u v A C:Int} (hu:0 < u) (b:0 < v) (c:0 < A) (a:0 < C):0 < u * A+v * C:=by
 have h1:=Int.mul_pos hu c
 have h2:=Int.mul_pos b a
 lia
theorem lU {u v A C:Int} (hu:0 < u) (a:0 < v) (c:¬ 0 < A) (b:¬ 0 < C):u * A+v * C<=0:=by
 have h1:=Int.mul_le_mul_of_nonneg_left (show A<=0 by omega) (Int.le_of_lt hu)
 have h2:=Int.mul_le_mul_of_nonneg_left (show C<=0 by omega) (Int.le_of_lt a)
 rw[Int.mul_zero] at h1 h2
 lia
theorem quad1 (h i j k:Pt):(j.1 - h.1) * aG h i k=(k.1 - h.1) * aG h i j+(i.1 - h.1) * aG h j k:=by
 simp only[aG];grind
theorem quad2 (h i j k:Pt):(k.1 - i.1) * aG h j k=(k.1 - h.1) * aG i j k+(k.1 - j.1) * aG h i k:=by
 simp only[aG];grind
theorem quad3 (h i j k:Pt):(j.1 - i.1) * aG h i k=(k.1 - i.1) * aG h i j+(i.1 - h.1) * aG i j k:=by
 simp only[aG];grind
theorem CA {ps:List Pt} (g:GoodSh ps) {i j:Nat} (h:i < j) (a:j < ps.length):(bQ ps i).1 < (bQ ps j).1:=g.rising i j _ _ h (bP (by omega)) (bP a)
theorem C6 {ps:List Pt} (g:GoodSh ps):Sgn (sgn ps):=by
 refine #[λi j k=>?_,λi j k l h1 h2 h3 m=>?_]
 .show bf _ _ _=1\/bf _ _ _ = -1
  unfold bf
  split
  .exact .inl rfl
  .exact .inr rfl
 .have u:=CA g h1 (show j < ps.length by have:l < ps.length:=m;omega)
  have t:=CA g h2 (show k < ps.length by have:l < ps.length:=m;omega)
  have v:=CA g h3 m
  show (bf _ _ _=bf _ _ _/\bf _ _ _=bf _ _ _)\/(bf _ _ _=bf _ _ _/\bf _ _ _=bf _ _ _)\/(bf _ _ _=bf _ _ _/\bf _ _ _=bf _ _ _)
  generalize bQ ps i=h at *
  generalize bQ ps j=i at *
  generalize bQ ps k=j at *
  generalize bQ ps l=k at *
  have o:=quad1 h i j k
  have r:=quad2 h i j k
  have q:=quad3 h i j k
  have s:0 < j.1 - h.1:=by omega
  have p2:0 < k.1 - h.1:=by omega
  have e:0 < i.1 - h.1:=by omega
  have f:0 < k.1 - i.1:=by omega
  have p:0 < k.1 - j.1:=by omega
  have n:0 < j.1 - i.1:=by omega
  unfold bf
  generalize aG h i j=A at *
  generalize aG h i k=B at *
  generalize aG h j k=C at *
  generalize aG i j k=D at *
  by_cases a:0 < A <;> by_cases b:0 < B <;> by_cases c:0 < C <;> by_cases d:0 < D <;> simp only[a,b,c,d,if_true,if_false] <;> first
   | decide
   | exact absurd (rm s o (oF p2 e a c)) b
   | exact absurd b (oE s o (lU p2 e a c))
   | exact absurd (rm f r (oF p2 p d b)) c
   | exact absurd c (oE f r (lU p2 p d b))
   | exact absurd (rm n q (oF f e a d)) b
   | exact absurd b (oE n q (lU f e a d))
section
variable {ps:List Pt} {w:Int}
theorem bx (g:GoodSh ps) (j:ps.length<=9) {r:List Nat} (h:Ris ps.length r):eV [(.tup (Nd r),.z),(Shd ps,.z),(.int w,.z)]=some (.ok (.bl (rwB (sgn ps) w r),.z),[(.tup (Nd r),.z),(Shd ps,.z),(.int w,.z)]):=by
 have at':=gu g (by lia)
 have i:=lw ps
 have d:=oj h g.most
 have f:=hV ps
 have ln:=ja r
 have a:=Dd i (row:=r) h g.most (way:=w)
 have lt:ltI (.int (r.length:Int)) (.int 2)=#v[.bl (!decide (2<=r.length))]:=by
  show some (L3.D.bl (decide ((r.length:Int) < 2)),Fl.z)=_
  by_cases h:2<=r.length
  .rw[FH h,FI (by omega)];rfl
  .rw[FI h,FH (by omega)];rfl
 unfold rwB
 generalize decide (2<=r.length)=b at *
 generalize rb (sgn ps) r w=c at *
 generalize tb ps (cf ps.length)=T at *
 generalize L3.D.int (ps.length:Int)=N at *
 generalize L3.D.int (r.length:Int)=LR at *
 generalize L3.D.tup (Nd r)=R at *
 generalize Shd ps=H at *
 apply aI (Z:=[#v[R],#v[H],#v[.int w],none]) (Z1:=[#v[R],#v[H],#v[.int w],some (.dt T,.u)]) rfl rfl
 .unfold tU
  apply ai (Z1:=[#v[R],#v[H],#v[.int w],some (.dt T,.u)])
  .exact iT (aj at' (ad (ag rfl) aq) rfl rfl rfl) rfl (Nat.le_of_ble_eq_true rfl) rfl
  have tt:∀ {b2:Bool},(!b)=b2->cOr (fD (cB (ak av (aa (ab 0) (aa (ao bO (aa (ab 1) ah)) ah))))) (cB (af ltI (ao bO (aa (ab 0) ah)) (mC (.int 2)))) [#v[R],#v[H],#v[.int w],some (.dt T,.u)]=some (.ok b2,[#v[R],#v[H],#v[.int w],some (.dt T,.u)]):=λ{b2} e=>by
   subst e
   exact gj (b:=false) (dQ (b:=true) (bS (aj d (ad (ag rfl) (ad (aC (ad (ag rfl) aq) rfl f) aq)) rfl rfl rfl) rfl)) rfl (bS (ay (aC (ad (ag rfl) aq) rfl ln) i_c rfl rfl lt) rfl)
  cases b with
  | true =>
   refine ai (bB (b:=false) (tt rfl) rfl rfl) ?_
   exact bp (aj a (ad (ag rfl) (ad (ag rfl) (ad (ag rfl) aq))) rfl rfl rfl) rfl
  | false=>exact gq (iU (b:=true) (tt rfl) rfl (bp i_c rfl))
 .rfl
theorem nK {H d:L3.D} {b:Bool} (h:eV [(d,.z),(H,.z),(.int 1,.z)]=some (.ok (.bl b,.z),[(d,.z),(H,.z),(.int 1,.z)])):fH [(d,.z),(H,.z)]=some (.ok (.bl b,.z),[(d,.z),(H,.z)]):=by
 apply aI (Z:=[#v[d],#v[H]]) (Z1:=[#v[d],#v[H]]) rfl rfl
 .unfold qb
  exact bp (aj h (ad (ag rfl) (ad (ag rfl) (ad i_c aq))) rfl rfl rfl) rfl
 .rfl
theorem nM {H d:L3.D} {b:Bool} (h:eV [(d,.z),(H,.z),(.int (-1),.z)]=some (.ok (.bl b,.z),[(d,.z),(H,.z),(.int (-1),.z)])):fI [(d,.z),(H,.z)]=some (.ok (.bl b,.z),[(d,.z),(H,.z)]):=by
 apply aI (Z:=[#v[d],#v[H]]) (Z1:=[#v[d],#v[H]]) rfl rfl
 .unfold qc
  exact bp (aj h (ad (ag rfl) (ad (ag rfl) (ad i_c aq))) rfl rfl rfl) rfl
 .rfl
end
theorem wM {ps:List Pt} (g:GoodSh ps) {i j k:Nat} (h1:i < j) (h2:j < k) (h3:k < ps.length):pd [(Shd ps,.z),(.int (i:Int),.z),(.int (j:Int),.z),(.int (k:Int),.z)]=some (.ok (.int ((sgn ps).f i j k),.z),[(Shd ps,.z),(.int (i:Int),.z),(.int (j:Int),.z),(.int (k:Int),.z)]):=by
 have c:=fk g
 have a:=hV ps
 have h:av [(.tup [.int (i:Int),.int (j:Int),.int (k:Int)],.z),(.int (ps.length:Int),.z)]=some (.ok (.bl true,.z),[(.tup [.int (i:Int),.int (j:Int),.int (k:Int)],.z),(.int (ps.length:Int),.z)]):=oj (r:=[i,j,k]) #[by simp;omega,λx e=>by simp at e;omega] g.most
 have d:bZ [(Shd ps,.z),(.tup [.int (i:Int),.int (j:Int),.int (k:Int)],.z)]=some (.ok (.int ((sgn ps).f i j k),.z),[(Shd ps,.z),(.tup [.int (i:Int),.int (j:Int),.int (k:Int)],.z)]):=lD (jP (by omega)) (jP (by omega)) (jP h3) (fR g.small (by omega)) (fR g.small (by omega))
 generalize (sgn ps).f i j k=Q at *
 generalize L3.D.int (ps.length:Int)=N at *
 generalize L3.D.int (i:Int)=I at *
 generalize L3.D.int (j:Int)=J at *
 generalize L3.D.int (k:Int)=KK at *
 generalize Shd ps=H at *
 apply aI (Z:=[#v[H],#v[I],#v[J],#v[KK],none]) (Z1:=[#v[H],#v[I],#v[J],#v[KK],#v[.tup [I,J,KK]]]) rfl rfl
 .unfold yg
  apply ai (Z1:=[#v[H],#v[I],#v[J],#v[KK],none])
  .exact rY (aj c (ad (ag rfl) aq) rfl rfl rfl)
  apply ai (Z1:=[#v[H],#v[I],#v[J],#v[KK],#v[.tup [I,J,KK]]])
  .exact iT (l8 (ad (ag rfl) (ad (ag rfl) (ad (ag rfl) aq))) rfl (Nat.le_of_ble_eq_true rfl)) rfl (Nat.le_of_ble_eq_true rfl) rfl
  refine ai (bB (b:=false) (dQ (b:=true) (bS (aj h (ad (ag rfl) (ad (aC (ad (ag rfl) aq) rfl a) aq)) rfl rfl rfl) rfl)) rfl rfl) ?_
  exact bp (aj d (ad (ag rfl) (ad (ag rfl) aq)) rfl rfl rfl) rfl
 .rfl
theorem j9 {bnd:L3.D->Sto->Option Sto} {c:M3 Bool} {elt:EM} (P:Sto->Prop):∀ {xs:List Nat} {U:Sto},P U ->
  (∀ x∈xs,∀ U,P U->∃ U1 U2 q,bnd (.int (x:Int)) U=some U1/\c U1=some (.ok q,U2)/\(q=false->P U2)/\(q=true->∃ r U3 p U4,elt U2=some (.ok r,U3)/\fh r U3=some (.ok p,U4)/\p.1=.int (x:Int)/\P U4)) ->
  ∃ ys U',bC bnd c elt (Nd xs) U=some (.ok (Nd ys),U')/\P U'/\ys.Sublist xs
 | [],U,h0,_=>#[[],U,rfl,h0,.slnil]
 | x::xs,U,h0,hs=>by
  obtain ⟨U1,U2,q,e1,f,hf,i⟩:=hs x Fe U h0
  cases q with
  | false =>
   obtain ⟨ys,U',e,b,sl⟩:=j9 P (xs:=xs) (U:=U2) (hf rfl) λd hd=>hs d (Ff _ hd)
   refine #[ys,U',?_,b,sl.cons _]
   show bC bnd c elt (.int (x:Int)::Nd xs) U=_
   generalize Nd xs=X at *
   unfold bC
   simp[e1,ac,f,e]
  | true =>
   obtain ⟨r,U3,p,U4,h,g,j,a⟩:=i rfl
   obtain ⟨ys,U',e,b,sl⟩:=j9 P (xs:=xs) (U:=U4) a λd hd=>hs d (Ff _ hd)
   refine #[x::ys,U',?_,b,sl.cons_cons _]
   show bC bnd c elt (.int (x:Int)::Nd xs) U=some (.ok (.int (x:Int)::Nd ys),U')
   generalize Nd xs=X at *
   generalize Nd ys=σ at *
   unfold bC
   simp[e1,ac,f,h,g,e,aT,j]
def ngP (p:Pt):Pt:=(p.1,-p.2)
def shP (a:Int) (p:Pt):Pt:=(p.1,p.2+a * p.1)
def bkP (p:Pt):Pt:=(-p.1,p.2)
theorem i6 {ps:List Pt} (f:Pt->Pt) {i:Nat} (h:i < ps.length):bQ (ps.map f) i=f (bQ ps i):=by
 have h1:=bP (ps:=ps.map f) (i:=i) (by simpa using h)
 rw[Fz,bP h] at h1
 exact (F6 h1).symm
theorem uw (p q r:Pt):aG (ngP p) (ngP q) (ngP r) = - aG p q r:=by
 simp only[aG,ngP];grind
theorem uu (b:Int) (p q r:Pt):aG (shP b p) (shP b q) (shP b r)=aG p q r:=by
 simp only[aG,shP];grind
theorem ux (p q r:Pt):aG (bkP r) (bkP q) (bkP p)=aG p q r:=by
 simp only[aG,bkP];grind
theorem qm {ps:List Pt} (g:GoodSh ps) {f:Pt->Pt} (h:∀ p∈ps,Small (f p)) (e:∀ p q:Pt,p.1 < q.1->(f p).1 < (f q).1) (m:∀ p q r:Pt,aG p q r≠0->aG (f p) (f q) (f r)≠0):GoodSh (ps.map f) where
 pos:=by simpa using g.pos
 most:=by simpa using g.most
 small:=λq n=>by
  obtain ⟨p,l,rfl⟩:=Fy.mp n
  exact h p l
 rising:=λi j p q b hi a=>by
  rw[Fz,Fh] at hi a
  obtain ⟨p,hi,rfl⟩:=hi
  obtain ⟨q,a,rfl⟩:=a
  exact e p q (g.rising i j p q b hi a)
 noline:=λi j k p q r b d hi a c=>by
  rw[Fz,Fh] at hi a c
  obtain ⟨p,hi,rfl⟩:=hi
  obtain ⟨q,a,rfl⟩:=a
  obtain ⟨r,c,rfl⟩:=c
  exact m p q r (g.noline i j k p q r b d hi a c)
theorem Bg {ps:List Pt} (g:GoodSh ps):GoodSh (ps.map ngP):=qm g (λp a=>by
  obtain ⟨a1,a2,b,a4⟩:=g.small p a
  exact #[a1,a2,by show -(2 ^ 62) < -p.2;omega,by show -p.2 < 2 ^ 62;omega]) (λp q h=>h) λp q r h=>by rw[uw];omega
theorem zX {ps:List Pt} (g:GoodSh ps) (b:∀ q∈ps,(-(2 ^ 55) < q.1/\q.1 < 2 ^ 55)/\-(2 ^ 55) < q.2/\q.2 < 2 ^ 55):GoodSh (ps.map (shP 7)):=qm g (λp a=>by
  obtain ⟨⟨a1,a2⟩,c,a4⟩:=b p a
  obtain ⟨c1,c2,_⟩:=g.small p a
  exact #[c1,c2,by show -(2 ^ 62) < p.2+7 * p.1;omega,by show p.2+7 * p.1 < 2 ^ 62;omega]) (λp q h=>h) λp q r h=>by rw[uu];exact h
theorem iE {ps:List Pt} {i:Nat} {p:Pt} (h:ps.reverse[i]?=some p):i < ps.length/\ps[ps.length - 1 - i]?=some p:=by
 have hi:i < ps.length:=by
  rcases Nat.lt_or_ge i ps.length with h1 | h1
  .exact h1
  .rw[List.getElem?_eq_none (by simpa using h1)] at h
   cases h
 rw[List.getElem?_reverse hi] at h
 exact #[hi,h]
theorem BR {ps:List Pt} (g:GoodSh ps):GoodSh (ps.reverse.map bkP) where
 pos:=by simpa using g.pos
 most:=by simpa using g.most
 small:=λq m=>by
  obtain ⟨p,f,rfl⟩:=Fy.mp m
  obtain ⟨a1,a2,l,a4⟩:=g.small p (List.mem_reverse.mp f)
  exact #[by show -(2 ^ 62) < -p.1;omega,by show -p.1 < 2 ^ 62;omega,l,a4]
 rising:=λi j p q c hi a=>by
  rw[Fz,Fh] at hi a
  obtain ⟨p,hi,rfl⟩:=hi
  obtain ⟨q,a,rfl⟩:=a
  obtain ⟨e,hi⟩:=iE hi
  obtain ⟨d,a⟩:=iE a
  have:=g.rising _ _ q p (by omega) a hi
  show -p.1 < -q.1
  lia
 noline:=λi j k p q r c h hi a b=>by
  rw[Fz,Fh] at hi a b
  obtain ⟨p,hi,rfl⟩:=hi
  obtain ⟨q,a,rfl⟩:=a
  obtain ⟨r,b,rfl⟩:=b
  obtain ⟨e,hi⟩:=iE hi
  obtain ⟨d,a⟩:=iE a
  obtain ⟨n,b⟩:=iE b
  rw[ux]
  exact g.noline _ _ _ r q p (by omega) (by omega) b a hi
theorem xz {ps:List Pt} {i:Nat} (h:i < ps.length):bQ (ps.reverse.map bkP) i=bkP (bQ ps (ps.length - 1 - i)):=by
 rw[i6 bkP (by simpa using h)]
 have h1:=iE (bP (ps:=ps.reverse) (i:=i) (by simpa using h))
 rw[bP (by omega)] at h1
 rw[F6 h1.2]
theorem Cf {ps:List Pt} (g:GoodSh ps) {i j k:Nat} (h1:i < j) (h2:j < k) (h3:k < ps.length):wv (sgn (ps.map ngP)) (way false) i j k=wv (sgn ps) (way true) i j k:=by
 have n:=g.noline i j k _ _ _ h1 h2 (bP (by omega)) (bP (by omega)) (bP h3)
 show decide (bf (bQ (ps.map ngP) i) (bQ (ps.map ngP) j) (bQ (ps.map ngP) k) = -1)=decide (bf (bQ ps i) (bQ ps j) (bQ ps k)=1)
 rw[i6 ngP (by omega),i6 ngP (by omega),i6 ngP h3]
 unfold bf
 rw[uw]
 by_cases h:aG (bQ ps i) (bQ ps j) (bQ ps k) > 0
 .rw[if_pos h,if_neg (by omega)];rfl
 .rw[if_neg h,if_pos (by omega)];rfl
theorem sh_wv {ps:List Pt} {b:Bool} {i j k:Nat} (h1:i < j) (h2:j < k) (h3:k < ps.length):wv (sgn (ps.map (shP 7))) (way b) i j k=wv (sgn ps) (way b) i j k:=by
 show decide (bf (bQ (ps.map (shP 7)) i) (bQ (ps.map (shP 7)) j) (bQ (ps.map (shP 7)) k)=way b)=decide (bf (bQ ps i) (bQ ps j) (bQ ps k)=way b)
 rw[i6 (shP 7) (by omega),i6 (shP 7) (by omega),i6 (shP 7) h3]
 unfold bf
 rw[uu]
theorem bk_f {ps:List Pt} {i j k:Nat} (h1:i < j) (h2:j < k) (h3:k < ps.length):(sgn (ps.reverse.map bkP)).f i j k=(sgn ps).f (ps.length - 1 - k) (ps.length - 1 - j) (ps.length - 1 - i):=by
 show bf _ _ _=bf _ _ _
 rw[xz (by omega),xz (by omega),xz h3]
 unfold bf
 rw[ux]
theorem mm {w d:Nat->Nat->Nat->Bool} {N:Nat} (h:∀ a b c,a < b->b < c->c < N->w a b c=d a b c):∀ (f i j:Nat),i < j->j < N->kM w f i j=kM d f i j
 | 0,_,_,_,_=>rfl
 | f+1,i,j,hi,hj=>by
  unfold kM
  have e:(List.range i).filter (λh=>w h i j)=(List.range i).filter (λh=>d h i j):=List.filter_congr λa l=>h a i j (List.mem_range.mp l) hi hj
  rw[e]
  congr 2
  refine F5 λk g=>?_
  have g:=List.mem_range.mp (FV.mp g).1
  exact mm h f k i g (by omega)
theorem m7 {w d:Nat->Nat->Nat->Bool} {n:Nat} (h:∀ a b c,a < b->b < c->c < n->w a b c=d a b c):tbl (aF w) (pI n n)=tbl (aF d) (pI n n):=F5 λp f=>by
 obtain ⟨_,g,p2⟩:=mem_pI.mp (show (p.1,p.2)∈pI n n from f)
 have e:aF w p.1 p.2=aF d p.1 p.2:=mm h p.1 p.1 p.2 g p2
 rw[e]
theorem wQ {ps:List Pt} (g:GoodSh ps):b9 [(Shd ps,.z)]=some (.ok (Shd (ps.map ngP),.z),[(Shd ps,.z)]):=by
 have b:=fk g
 have f:=g.most
 obtain ⟨U',e,a,rfl⟩:=bq (bnd:=am 0) (c:=cW) (elt:=df) (λU=>∃ a,U=[a]) Pd (λ_=>true) (λp=>Pd (ngP p)) (xs:=ps) (U:=[none]) #[none,rfl] (by
  rintro p d U ⟨a,rfl⟩
  exact #[[#v[Pd p]],_,rfl,rfl,(λh=>by cases h),λ_=>#[.val (Pd (ngP p)) .z,[#v[Pd p]],(Pd (ngP p),.z),_,by unfold df;(nofun),rfl,rfl,_,rfl]])
 rw[F2.mpr (λ_ _=>rfl)] at e
 rw[show (ps.map λp=>Pd (ngP p))=(ps.map ngP).map Pd by simp] at e
 have c1:fq [#v[Shd ps]]=some (.ok (.val (.lst ((ps.map ngP).map Pd)) .u),[#v[Shd ps]]):=aW (Z1:=[#v[Shd ps]]) (rs:=[.pl 0]) (by (nofun)) e (by rw[Ft];omega) rfl
 apply aI (Z:=[#v[Shd ps]]) rfl rfl
 .unfold iR
  apply ai (Z1:=[#v[Shd ps]])
  .nomatch [b]
  .apply bp
   ·(repeat' (first | with_reducible exact c1 | infer_instance | eq_refl))
   .rfl
 .rfl
theorem qZ {ps:List Pt} (g:GoodSh ps):dC [(Shd ps,.z)]=some (.ok (Shd (ps.reverse.map bkP),.z),[(Shd ps,.z)]):=by
 have b:=fk g
 have f:=g.most
 obtain ⟨U',e,a,rfl⟩:=bq (bnd:=am 0) (c:=cW) (elt:=dh) (λU=>∃ a,U=[a]) Pd (λ_=>true) (λp=>Pd (bkP p)) (xs:=ps.reverse) (U:=[none]) #[none,rfl] (by
  rintro p d U ⟨a,rfl⟩
  exact #[[#v[Pd p]],_,rfl,rfl,(λh=>by cases h),λ_=>#[.val (Pd (bkP p)) .z,[#v[Pd p]],(Pd (bkP p),.z),_,by unfold dh;(nofun),rfl,rfl,_,rfl]])
 rw[F2.mpr (λ_ _=>rfl)] at e
 rw[show (ps.reverse.map λp=>Pd (bkP p))=(ps.reverse.map bkP).map Pd by simp,List.map_reverse] at e
 have im:t5 (aa (ab 0) ah) [#v[Shd ps]]=some (.ok ([.pl 0],(ps.map Pd).reverse),[#v[Shd ps]]):=rfl
 have c1:fA [#v[Shd ps]]=some (.ok (.val (.lst ((ps.reverse.map bkP).map Pd)) .u),[#v[Shd ps]]):=aW (Z1:=[#v[Shd ps]]) (rs:=[.pl 0]) im e (by rw[List.length_reverse,Ft];omega) rfl
 apply aI (Z:=[#v[Shd ps]]) rfl rfl
 .unfold iS
  apply ai (Z1:=[#v[Shd ps]])
  .nomatch [b]
  .apply bp
   ·(repeat' (first | with_reducible exact c1 | infer_instance | eq_refl))
   .rfl
 .rfl
theorem uS {ps:List Pt} (g:GoodSh ps) {b:Int} (d:-18446744073709551616 < b/\b < 18446744073709551616):iL [(Shd ps,.z),(.int b,.z)]=some (.ok (Shd (ps.map (shP b)),.z),[(Shd ps,.z),(.int b,.z)]):=by
 have f:=fk g
 have k:=g.most
 have w:=iC b
 have i:dD [(.int b,.z)]=some (.ok (.non,.z),[(.int b,.z)]):=by
  apply F_nx (Z:=[#v[.int b]]) rfl rfl
  .apply bB
   .nomatch [w]
   .rfl
   .rfl
  .rfl
 obtain ⟨U',e,a,rfl⟩:=bq (bnd:=am 0) (c:=cW) (elt:=fT) (λU=>∃ a,U=[a,#v[.int b]]) Pd (λ_=>true) (λp=>Pd (shP b p)) (xs:=ps) (U:=[none,#v[.int b]]) #[none,rfl] (by
  rintro p j U ⟨a,rfl⟩
  exact #[[#v[Pd p],#v[.int b]],_,rfl,rfl,(λh=>by cases h),λ_=>#[.val (Pd (shP b p)) .z,[#v[Pd p],#v[.int b]],(Pd (shP b p),.z),_,by unfold fT;(exists fm d),rfl,rfl,_,rfl]])
 rw[F2.mpr (λ_ _=>rfl)] at e
 rw[show (ps.map λp=>Pd (shP b p))=(ps.map (shP b)).map Pd by simp] at e
 have c1:jy [#v[Shd ps],#v[.int b]]=some (.ok (.val (.lst ((ps.map (shP b)).map Pd)) .u),[#v[Shd ps],#v[.int b]]):=aW (Z1:=[#v[Shd ps],#v[.int b]]) (rs:=[.pl 0]) (by (nofun)) e (by rw[Ft];omega) rfl
 apply aI (Z:=[#v[Shd ps],#v[.int b]]) rfl rfl
 .unfold nC
  apply ai (Z1:=[#v[Shd ps],#v[.int b]])
  .nomatch [f]
  apply ai (Z1:=[#v[Shd ps],#v[.int b]])
  .nomatch [i]
  .apply bp
   ·(repeat' (first | with_reducible exact c1 | infer_instance | eq_refl))
   .rfl
 .rfl
abbrev rgS (n:Int) (H R:L3.D) (b:Bool) (a4 a5 a6 a7:Option (L3.D×Fl)):Sto:=[some (.lst [.int n],.u),#v[H],#v[R],#v[.bl b],a4,a5,a6,a7]
theorem wy (b:Bool):aw (.lst [.int (-1),.int 1]) (.int (if b=true then 1 else 0))=#v[.int (way b)]:=by cases b <;> rfl
theorem wy2 (b c d:Bool):aw (.lst [.bl c,.bl d]) (.int (if b=true then 1 else 0))=#v[.bl (if b then d else c)]:=by cases b <;> rfl
section
variable {ps:List Pt} {r:List Nat} {b:Bool} {n:Int} {a4 a5 a6 a7:Option (L3.D×Fl)}
theorem rg_b1 (g:GoodSh ps) (a:Ris ps.length r) (al:∀ i j k,i < j->j < k->k < r.length->(sgn ps).f (el r i) (el r j) (el r k)=way b) {i j k:Nat} (h1:i < j) (h2:j < k) (h3:k < r.length):d6 (rgS n (Shd ps) (.tup (Nd r)) b #v[.int (i:Int)] #v[.int (j:Int)] #v[.int (k:Int)] a7)=some (.ok .nx,rgS n (Shd ps) (.tup (Nd r)) b #v[.int (i:Int)] #v[.int (j:Int)] #v[.int (k:Int)] a7):=by
 have t:=wM g (a.at h1 (by omega)) (a.at h2 h3) (a.lt _ (ff h3))
 rw[al i j k h1 h2 h3] at t
 have s1:=lB (r:=r) (i:=i) (by omega)
 have s2:=lB (r:=r) (i:=j) (by omega)
 have s3:=lB (r:=r) (i:=k) h3
 have ne:neX (.int (way b)) (.int (way b))=#v[.bl false]:=by rw[k9];simp
 have c:qk [.bl b]=#v[.int (if b=true then 1 else 0)]:=rfl
 have w:=wy b
 generalize L3.D.int (way b)=W at *
 generalize L3.D.int (if b=true then 1 else 0)=IB at *
 generalize L3.D.int (el r i:Int)=X1 at *
 generalize L3.D.int (el r j:Int)=X2 at *
 generalize L3.D.int (el r k:Int)=X3 at *
 generalize L3.D.int (i:Int)=I at *
 generalize L3.D.int (j:Int)=J at *
 generalize L3.D.int (k:Int)=KK at *
 generalize L3.D.tup (Nd r)=R at *
 generalize Shd ps=H at *
 unfold d6
 exact bB (b:=false) (bS (ay (aj t (ad (ag rfl) (ad (ay (ag rfl) (ag rfl) rfl rfl s1) (ad (ay (ag rfl) (ag rfl) rfl rfl s2) (ad (ay (ag rfl) (ag rfl) rfl rfl s3) aq)))) rfl rfl rfl) (ay (l8 (ad (ED i_c rfl rfl) (ad i_c aq)) rfl (Nat.le_of_ble_eq_true rfl)) (aC (ad (ag rfl) aq) rfl c) rfl rfl w) rfl rfl ne) rfl) rfl rfl
theorem rg_b2 (g:GoodSh ps) (h:Ris ps.length r) (al:∀ i j k,i < j->j < k->k < r.length->(sgn ps).f (el r i) (el r j) (el r k)=way b) {i j:Nat} (h1:i < j) (h2:j < r.length):∃ a,d5 (rgS n (Shd ps) (.tup (Nd r)) b #v[.int (i:Int)] #v[.int (j:Int)] a6 a7)=some (.ok .nx,rgS n (Shd ps) (.tup (Nd r)) b #v[.int (i:Int)] #v[.int (j:Int)] a a7):=by
 have l:=h.len
 have o:=g.most
 obtain ⟨Z',e,a,rfl⟩:=a9 (bnd:=am 6) (b:=d6) (λ_ Z=>∃ a6,Z=rgS n (Shd ps) (.tup (Nd r)) b #v[.int (i:Int)] #v[.int (j:Int)] a6 a7) (ds:=aS ((j:Int)+1) (r.length - (j+1))) (Z:=rgS n (Shd ps) (.tup (Nd r)) b #v[.int (i:Int)] #v[.int (j:Int)] a6 a7) (k:=0) #[a6,rfl] (by
  rintro m d Z hd ⟨a6,rfl⟩
  obtain ⟨hm,rfl⟩:=bG hd
  have q:=rg_b1 (n:=n) (a7:=a7) g h al h1 (show j < j+1+m by omega) (by omega)
  rw[show ((j+1+m:Nat):Int)=(j:Int)+1+m by omega] at q
  exact #[_,_,rfl,.inl q,_,rfl])
 have c:dN [.int ((j:Int)+1),.int (r.length:Nat)]=some (aS ((j:Int)+1) (r.length - (j+1))):=eL (by omega) (by omega) (by omega)
 have ln:=ja r
 refine #[a,?_]
 unfold d5
 exact dH (cn (ad (ay (ag rfl) i_c rfl rfl rfl) (ad (aC (ad (ag rfl) aq) rfl ln) aq)) rfl c) rfl e
theorem rg_b3 (g:GoodSh ps) (l:Ris ps.length r) (al:∀ i j k,i < j->j < k->k < r.length->(sgn ps).f (el r i) (el r j) (el r k)=way b) {i:Nat} (h1:i < r.length):∃ c a,dZ (rgS n (Shd ps) (.tup (Nd r)) b #v[.int (i:Int)] a5 a6 a7)=some (.ok .nx,rgS n (Shd ps) (.tup (Nd r)) b #v[.int (i:Int)] c a a7):=by
 have o:=l.len
 have p:=g.most
 obtain ⟨Z',e,c,a,rfl⟩:=a9 (bnd:=am 5) (b:=d5) (λ_ Z=>∃ a5 a6,Z=rgS n (Shd ps) (.tup (Nd r)) b #v[.int (i:Int)] a5 a6 a7) (ds:=aS ((i:Int)+1) (r.length - (i+1))) (Z:=rgS n (Shd ps) (.tup (Nd r)) b #v[.int (i:Int)] a5 a6 a7) (k:=0) #[a5,a6,rfl] (by
  rintro m d Z hd ⟨a5,a6,rfl⟩
  obtain ⟨hm,rfl⟩:=bG hd
  obtain ⟨a,q⟩:=rg_b2 (n:=n) (a6:=a6) (a7:=a7) g l al (show i < i+1+m by omega) (by omega)
  rw[show ((i+1+m:Nat):Int)=(i:Int)+1+m by omega] at q
  exact #[_,_,rfl,.inl q,_,_,rfl])
 have h:dN [.int ((i:Int)+1),.int (r.length:Nat)]=some (aS ((i:Int)+1) (r.length - (i+1))):=eL (by omega) (by omega) (by omega)
 have ln:=ja r
 refine #[c,a,?_]
 unfold dZ
 exact dH (cn (ad (ay (ag rfl) i_c rfl rfl rfl) (ad (aC (ad (ag rfl) aq) rfl ln) aq)) rfl h) rfl e
theorem Au (f:Ris ps.length r) (h:ps.length<=24):∃ a p,jA (rgS n (Shd ps) (.tup (Nd r)) b a4 a5 a6 a7)=some (.ok (.val (.lst (Nd p)) .u),rgS a (Shd ps) (.tup (Nd r)) b a4 a5 a6 a7)/\p.Sublist r:=by
 have g:=f.len
 obtain ⟨p,U',e,⟨v,a,rfl⟩,sl⟩:=j9 (bnd:=am 0) (c:=fV) (elt:=jB) (λU=>∃ v n,U=[v,some (.lst [.int n],.u)]) (xs:=r) (U:=[none,some (.lst [.int n],.u)]) #[none,n,rfl] (by
  rintro x i U ⟨v,n,rfl⟩
  have t:=lF n 3 (by decide)
  generalize L3.D.int (x:Int)=X at *
  refine #[[#v[X],some (.lst [.int n],.u)],[#v[X],some (.lst [.int (n / 3)],.u)],decide (n % 3 > 0),rfl,?_,λ_=>#[_,_,rfl],λ_=>#[.pl 0,[#v[X],some (.lst [.int (n / 3)],.u)],(X,.z),[#v[X],some (.lst [.int (n / 3)],.u)],rfl,rfl,rfl,_,_,rfl]]
  unfold fV
  exact bS (ay (aj t (ad (ag rfl) (ad i_c aq)) rfl rfl rfl) i_c rfl rfl rfl) rfl)
 refine #[a,p,?_,sl]
 have d:(Nd r).length < 16777216:=by rw[Ft];omega
 generalize Nd r=R at *
 generalize Nd p=Q at *
 generalize Shd ps=H at *
 exact aW (rs:=[.pl 2]) (Z1:=rgS n H (.tup R) b a4 a5 a6 a7) rfl e d rfl
theorem ng (g:GoodSh ps) (s:ps.length<=9) (c:Ris ps.length r) (x:rb (sgn ps) r (way b)=true):∃ h,fG [(.lst [.int n],.u),(Shd ps,.z),(.tup (Nd r),.z),(.bl b,.z)]=some (.ok (.bl true,.z),[(.lst [.int h],.u),(Shd ps,.z),(.tup (Nd r),.z),(.bl b,.z)]):=by
 have G:=C6 g
 have J:=c.len
 have C:=g.most
 have al:∀ i j k,i < j->j < k->k < r.length->(sgn ps).f (el r i) (el r j) (el r k)=way b:=λi j k h1 h2 h3=>iD G c x k i j k h1 h2 h3 (by omega)
 obtain ⟨Z',e,a4,a5,a6,rfl⟩:=a9 (bnd:=am 4) (b:=dZ) (λ_ Z=>∃ a4 a5 a6,Z=rgS n (Shd ps) (.tup (Nd r)) b a4 a5 a6 none) (ds:=aS 0 r.length) (Z:=rgS n (Shd ps) (.tup (Nd r)) b none none none none) (k:=0) #[_,_,_,rfl] (by
  rintro m d Z hd ⟨a4,a5,a6,rfl⟩
  obtain ⟨hm,rfl⟩:=bG hd
  obtain ⟨E,F,q⟩:=rg_b3 (n:=n) (a5:=a5) (a6:=a6) (a7:=none) g c al hm
  rw[Int.zero_add]
  exact #[_,_,rfl,.inl q,_,_,_,rfl])
 have l:dO [.int (r.length:Nat)]=some (aS 0 r.length):=dz (by omega) (by omega)
 have ln:=ja r
 obtain ⟨h,p,ep,sl⟩:=Au (n:=n) (b:=b) (a4:=a4) (a5:=a5) (a6:=a6) (a7:=none) c C
 have pr:=c.sub sl
 have y:=ja p
 have c1:=nM (bx (w:=-1) g s pr)
 have c2:=nK (bx (w:=1) g s pr)
 have o:2<=p.length->rwB (sgn ps) (way b) p=true:=λh2=>by
  unfold rwB
  rw[FH h2,Bool.true_and]
  refine List.all_eq_true.mpr λa t=>FH ?_
  have t:=List.mem_range.mp t
  exact Ak G c x (sl.subset (ff (by omega))) (sl.subset (ff (by omega))) (sl.subset (ff (by omega))) (pr.at (by omega) (by omega)) (pr.at (by omega) (by omega))
 have lt:ltI (.int (p.length:Int)) (.int 2)=#v[.bl (decide ((p.length:Int) < 2))]:=rfl
 have B:qk [.bl b]=#v[.int (if b=true then 1 else 0)]:=rfl
 have v:=wy2 b (rwB (sgn ps) (-1) p) (rwB (sgn ps) 1 p)
 have I:2<=p.length->(if b then rwB (sgn ps) 1 p else rwB (sgn ps) (-1) p)=true:=λh2=>by
  have:=o h2
  cases b <;> exact this
 have A:ly [.lst (Nd p)]=#v[.tup (Nd p)]:=rfl
 refine #[h,?_]
 clear al G o
 generalize L3.D.int (if b=true then 1 else 0)=IB at *
 generalize L3.D.int (r.length:Int)=LR at *
 generalize L3.D.tup (Nd r)=R at *
 apply aI (Z:=rgS n (Shd ps) R b none none none none) (Z1:=rgS h (Shd ps) R b a4 a5 a6 #v[.tup (Nd p)]) rfl rfl
 .unfold nE
  apply ai (Z1:=rgS n (Shd ps) R b a4 a5 a6 none)
  .exact dH (cn (ad (aC (ad (ag rfl) aq) rfl ln) aq) rfl l) rfl e
  apply ai (Z1:=rgS h (Shd ps) R b a4 a5 a6 #v[.tup (Nd p)])
  .exact iT (aC (ad ep aq) rfl A) rfl (Nat.le_of_ble_eq_true rfl) rfl
  generalize L3.D.int (p.length:Int)=LP at *
  generalize L3.D.tup (Nd p)=Q at *
  generalize Shd ps=H at *
  by_cases h2:(p.length:Int) < 2
  .exact bp (EG (b:=decide ((p.length:Int) < 2)) (ay (aC (ad (ag rfl) aq) rfl y) i_c rfl rfl lt) rfl (FH h2)) rfl
  .rw[I (by omega)] at v
   exact bp (EH (b:=decide ((p.length:Int) < 2)) (ay (aC (ad (ag rfl) aq) rfl y) i_c rfl rfl lt) rfl (FI h2) (ay (l8 (ad (aj c1 (ad (ag rfl) (ad (ag rfl) aq)) rfl rfl rfl) (ad (aj c2 (ad (ag rfl) (ad (ag rfl) aq)) rfl rfl rfl) aq)) rfl (Nat.le_of_ble_eq_true rfl)) (aC (ad (ag rfl) aq) rfl B) rfl rfl v)) rfl
 .rfl
end
def abt (n:Nat) (r:List Nat):List Nat:=r.reverse.map λx=>n - 1 - x
theorem iK {n:Nat} {r:List Nat}:(abt n r).length=r.length:=by simp[abt]
theorem sM {n:Nat} {r:List Nat} {i:Nat} (h:i < r.length):el (abt n r) i=n - 1 - el r (r.length - 1 - i):=by
 have e:=fg (L:=abt n r) (i:=i) (by rw[iK];exact h)
 unfold abt at e
 rw[Fz,List.getElem?_reverse h,fg (by omega)] at e
 exact (F6 e).symm
theorem uD {n:Nat} {r:List Nat} (h:Ris n r):Ris n (abt n r):=by
 refine #[?_,λx f=>?_]
 .unfold abt
  rw[List.pairwise_map,List.pairwise_reverse]
  have a:=h.lt
  refine h.up.imp_of_mem λd e c=>?_
  have:=a _ d
  have:=a _ e
  lia
 .obtain ⟨y,b,rfl⟩:=Fy.mp f
  have:=h.lt y (List.mem_reverse.mp b)
  lia
theorem E8 {ps:List Pt} {r:List Nat} {w:Int} (h:Ris ps.length r) (c:rb (sgn ps) r w=true):rb (sgn (ps.reverse.map bkP)) (abt ps.length r) w=true:=by
 refine List.all_eq_true.mpr λa b=>FH ?_
 have b:=List.mem_range.mp b
 rw[iK] at b
 have R:=uD h
 have q:=of_decide_eq_true (List.all_eq_true.mp c (r.length - 3 - a) (List.mem_range.mpr (by omega)))
 have lt:∀ i,i < r.length->el r i < ps.length:=λi hi=>h.lt _ (ff hi)
 have f:=lt (r.length - 1 - a) (by omega)
 have d:=lt (r.length - 1 - (a+1)) (by omega)
 have e:=lt (r.length - 1 - (a+2)) (by omega)
 rw[bk_f (R.at (by omega) (by rw[iK];omega)) (R.at (by omega) (by rw[iK];omega)) (R.lt _ (ff (by rw[iK];omega))),sM (by omega),sM (by omega),sM (by omega)]
 rw[show ps.length - 1 - (ps.length - 1 - el r (r.length - 1 - (a+2)))=el r (r.length - 3 - a) by rw[show r.length - 3 - a=r.length - 1 - (a+2) by omega];omega]
 rw[show ps.length - 1 - (ps.length - 1 - el r (r.length - 1 - (a+1)))=el r (r.length - 3 - a+1) by rw[show r.length - 3 - a+1=r.length - 1 - (a+1) by omega];omega]
 rw[show ps.length - 1 - (ps.length - 1 - el r (r.length - 1 - a))=el r (r.length - 3 - a+2) by rw[show r.length - 3 - a+2=r.length - 1 - a by omega];omega]
 exact q
theorem ng_rb {ps:List Pt} {r:List Nat} (g:GoodSh ps) (h:Ris ps.length r) (c:rb (sgn ps) r (way true)=true):rb (sgn (ps.map ngP)) r (way false)=true:=by
 refine List.all_eq_true.mpr λa b=>?_
 have q:=List.all_eq_true.mp c a b
 have b:=List.mem_range.mp b
 have:=Cf g (i:=el r a) (j:=el r (a+1)) (k:=el r (a+2)) (h.at (by omega) (by omega)) (h.at (by omega) (by omega)) (h.lt _ (ff (by omega)))
 exact this.trans q
theorem Er (f:Nat->Nat->Int) (l:List (Nat×Nat)):Bj (.dt (tbl f l)) (.dt (tbl f l))=#v[.bl false]:=by
 have e:∀ l:List (Nat×Nat),kvI (tbl f l)=some (l.map λp=>(k2 p.1 p.2,f p.1 p.2)):=λl=>by
  induction l with
  | nil=>rfl
  | cons p l ih =>
   show (kvI (tbl f l)).map ((k2 p.1 p.2,f p.1 p.2)::·)=_
   rw[ih];rfl
 show (match kvI (tbl f l),kvI (tbl f l) with | some p,some q=>if p=q then some (L3.D.bl false,Fl.z) else none | _,_=>none)=_
 rw[e]
 exact if_pos rfl
section
variable {ps:List Pt} {r:List Nat} {c0 c1 c2 c5 c6 c7 c8 c10 c11:Option (L3.D×Fl)}
theorem law_c (h:Ris ps.length r) (g:ps.length<=24) {H:L3.D}:qa [c0,c1,c2,#v[H],#v[.tup (Nd r)],c5,c6,c7,c8,#v[.int (ps.length:Int)],c10,c11]=some (.ok (.val (.lst (Nd (abt ps.length r))) .u),[c0,c1,c2,#v[H],#v[.tup (Nd r)],c5,c6,c7,c8,#v[.int (ps.length:Int)],c10,c11]):=by
 have f:=h.len
 obtain ⟨U',e,a,rfl⟩:=bq (bnd:=am 0) (c:=cW) (elt:=jz) (λU=>∃ a,U=[a,#v[.int (ps.length:Int)]]) (λx:Nat=>L3.D.int (x:Int)) (λ_=>true) (λx=>L3.D.int ((ps.length - 1 - x:Nat):Int)) (xs:=r.reverse) (U:=[none,#v[.int (ps.length:Int)]]) #[none,rfl] (by
  rintro x b U ⟨a,rfl⟩
  have b:=h.lt x (List.mem_reverse.mp b)
  have s2:cT (.int ((ps.length:Int) - 1)) (.int (x:Int))=#v[.int ((ps.length - 1 - x:Nat):Int)]:=by
   rw[show ((ps.length - 1 - x:Nat):Int)=(ps.length:Int) - 1 - x by omega];rfl
  have s1:cT (.int (ps.length:Int)) (.int 1)=#v[.int ((ps.length:Int) - 1)]:=rfl
  generalize L3.D.int ((ps.length - 1 - x:Nat):Int)=σ at *
  generalize L3.D.int ((ps.length:Int) - 1)=N1 at *
  generalize L3.D.int (ps.length:Int)=N at *
  generalize L3.D.int (x:Int)=X at *
  refine #[[#v[X],#v[N]],_,rfl,rfl,(λh=>by cases h),λ_=>#[.val σ .z,[#v[X],#v[N]],(σ,.z),_,?_,rfl,rfl,_,rfl]]
  unfold jz
  exact ay (ay (ag rfl) i_c rfl rfl s1) (ag rfl) rfl rfl s2)
 rw[F2.mpr (λ_ _=>rfl)] at e
 rw[show (r.reverse.map λx=>L3.D.int ((ps.length - 1 - x:Nat):Int))=Nd (abt ps.length r) by unfold abt Nd;rw[F4];rfl,List.map_reverse] at e
 have d:(Nd r).reverse.length < 16777216:=by rw[List.length_reverse,Ft];omega
 generalize Nd (abt ps.length r)=A at *
 have e:bC (am 0) cW jz (Nd r).reverse [none,#v[.int (ps.length:Int)]]=_:=e
 generalize Nd r=R at *
 generalize L3.D.int (ps.length:Int)=N at *
 have im:cP (tV (ab 4) (iQ (mUn lT (mC (.int 1))))) [c0,c1,c2,#v[H],#v[.tup R],c5,c6,c7,c8,#v[N],c10,c11]=some (.ok ([.val (.tup R.reverse) .z],R.reverse),[c0,c1,c2,#v[H],#v[.tup R],c5,c6,c7,c8,#v[N],c10,c11]):=rfl
 exact aW (rs:=[.val (.tup R.reverse) .z]) im e d rfl
end
theorem EF {i j:Nat} {ms:M3 (List R3)} {a b:L3.D} {f c:Fl} {Z Z1 Z3:Sto} (h1:ms Z=some (.ok [.val a f,.val b c],Z1)) (hi:(i < Z1.length/\j < Z1.length)/\f≠.l/\c≠.l) (h3:(Z1.set i (some (a,f))).set j (some (b,c))=Z3):pC i j ms Z=some (.ok .nx,Z3):=by
 simp only[pC,ac,h1]
 rw[if_pos hi,h3]
theorem yz {ns:List Int} (i:Nat) (v2 L v4 q v6 v7 v8 v9 v10 v11:Option (L3.D×Fl)):∃ w2 w3 w4 w5 w6 w7 p w9 J d,hE [#v[.fls (ns.map .int)],#v[.int (i:Int)],v2,L,v4,q,v6,v7,v8,v9,v10,v11]=some (.ok .nx,[#v[.fls (ns.map .int)],#v[.int (i:Int)],w2,w3,w4,w5,w6,w7,p,w9,J,d]):=by
 obtain ⟨E,V⟩:=Ab ns i
 obtain ⟨s,ps,es,g,hl,bd⟩:=uR E 9 (by decide) (by decide)
 have f:ps.length<=9:=by omega
 have es:fF [(.lst [.int E],.u),(.int 9,.z)]=some (.ok (Shd ps,.z),[(.lst [.int s],.u),(.int 9,.z)]):=es
 have O:=hV ps
 have C:gtI (.int (ps.length:Int)) (.int 1)=#v[.bl (decide ((ps.length:Int) > 1))]:=rfl
 generalize L3.D.fls (ns.map .int)=S at *
 generalize L3.D.int (i:Int)=I at *
 by_cases h2:¬ (ps.length:Int) > 1
 .refine #[some (.lst [.int s],.u),#v[Shd ps],v4,q,v6,v7,v8,v9,v10,v11,?_]
  generalize L3.D.int (ps.length:Int)=N at *
  generalize Shd ps=H at *
  unfold hE
  apply ai (Z1:=[#v[S],#v[I],some (.lst [.int E],.u),L,v4,q,v6,v7,v8,v9,v10,v11])
  .nomatch [V]
  apply ai (Z1:=[#v[S],#v[I],some (.lst [.int s],.u),#v[H],v4,q,v6,v7,v8,v9,v10,v11])
  .nomatch [es]
  exact bB (b:=decide ((ps.length:Int) > 1)) (bS (ay (aC (ad (ag rfl) aq) rfl O) i_c rfl rfl C) rfl) (FI h2) rfl
 .have h2:(ps.length:Int) > 1:=by omega
  obtain ⟨B1,M,x1⟩:=tM (w:=wv (sgn ps) (way true)) (n:=ps.length) (by omega)
  obtain ⟨B2,K,x2⟩:=tM (w:=wv (sgn ps) (way false)) (n:=ps.length) (by omega)
  have two:∀ {w:Nat->Nat->Nat->Bool} {B:Int},Mst w ps.length B->B≠1:=λ{w B} m e=>by
   have:=m.all 0 1 (by omega) (by omega)
   have:=jI w 0 1
   lia
  obtain ⟨l,cu,t⟩:=z9 g f M
  obtain ⟨R2,ca,v⟩:=Aa g f K
  obtain ⟨j,rfl,y,l1⟩:=t.resolve_left λz=>two M z.2
  obtain ⟨A,rfl,x,l2⟩:=v.resolve_left λz=>two K z.2
  obtain ⟨o,F⟩:=rw_iff.mp y
  obtain ⟨r2,q2⟩:=rw_iff.mp x
  have b1:=(Bool.and_eq_true_iff.mp F).2
  have b2:=(Bool.and_eq_true_iff.mp q2).2
  obtain ⟨Q,f1⟩:=ng (n:=s) (b:=true) g f o b1
  obtain ⟨k,f2⟩:=ng (n:=Q) (b:=false) g f r2 b2
  have t1:=wW g f
  have t2:=wU g f
  have p1:=pE (aF (wv (sgn ps) (way true))) g f
  have p2:=wV (aF (wv (sgn ps) (way false))) g f
  rw[AZ] at p1 p2
  have e1:=ja j
  have P:=ja A
  rw[l1] at e1
  rw[l2] at P
  have ne1:neX (.int B1) (.int B1)=#v[.bl false]:=by rw[k9];simp
  have ne2:neX (.int B2) (.int B2)=#v[.bl false]:=by rw[k9];simp
  obtain ⟨p,d,lo⟩:=yt g f (c0:=#v[S]) (c1:=#v[I]) (c2:=some (.lst [.int k],.u)) (c4:=#v[.tup (Nd j)]) (c5:=#v[.tup (Nd A)]) (c7:=some (.dt (tbl (aF (wv (sgn ps) (way false))) (pI ps.length ps.length)),.u)) (c8:=v8) (c9:=v9) (c10:=v10) (c11:=v11)
  have ov:=wQ g
  have G:=Bg g
  have bv:=qZ g
  have σ:=BR g
  have sv:=uS g (b:=7) (by decide)
  have gs:=zX g bd
  have W:=nM (bx (w:=way false) G (by rw[Ft];exact f) (r:=j) (by rw[Ft];exact o))
  have X:rwB (sgn (ps.map ngP)) (way false) j=true:=by
   unfold rwB
   rw[ng_rb g o b1,Bool.and_true]
   exact (Bool.and_eq_true_iff.mp F).1
  rw[X] at W
  have t3:=wU G (by rw[Ft];exact f)
  rw[Ft,m7 (λa b c h1 h2 h3=>Cf g h1 h2 h3)] at t3
  have lc:=law_c (c0:=#v[S]) (c1:=#v[I]) (c2:=some (.lst [.int k],.u)) (c5:=#v[.tup (Nd A)]) (c6:=some (.dt (tbl (aF (wv (sgn ps) (way true))) (pI ps.length ps.length)),.u)) (c7:=some (.dt (tbl (aF (wv (sgn ps) (way false))) (pI ps.length ps.length)),.u)) (c8:=p) (c10:=v10) (c11:=d) (H:=Shd ps) o g.most
  have iu:=nK (bx (w:=way true) σ (by rw[Ft,List.length_reverse];exact f) (r:=abt ps.length j) (by rw[Ft,List.length_reverse];exact uD o))
  have ρ:rwB (sgn (ps.reverse.map bkP)) (way true) (abt ps.length j)=true:=by
   unfold rwB
   rw[E8 o b1,iK,Bool.and_true]
   exact (Bool.and_eq_true_iff.mp F).1
  rw[ρ] at iu
  have R:=wW gs (by rw[Ft];exact f)
  rw[Ft,m7 (λa b c h1 h2 h3=>sh_wv (b:=true) h1 h2 h3)] at R
  have nt:=Er (aF (wv (sgn ps) (way true))) (pI ps.length ps.length)
  have tp:ly [.lst (Nd (abt ps.length j))]=#v[.tup (Nd (abt ps.length j))]:=rfl
  clear M K two t v y x o r2 F q2 b1 b2 G σ gs X ρ bd hl g
  refine #[some (.lst [.int k],.u),#v[Shd ps],#v[.tup (Nd j)],#v[.tup (Nd A)],some (.dt (tbl (aF (wv (sgn ps) (way true))) (pI ps.length ps.length)),.u),some (.dt (tbl (aF (wv (sgn ps) (way false))) (pI ps.length ps.length)),.u),p,#v[.int (ps.length:Int)],#v[.tup (Nd (abt ps.length j))],d,?_]
  generalize tbl (aF (wv (sgn ps) (way true))) (pI ps.length ps.length)=T at *
  generalize tbl (aF (wv (sgn ps) (way false))) (pI ps.length ps.length)=τ at *
  generalize hN:L3.D.int (ps.length:Int)=N at *
  generalize Shd (ps.map ngP)=H1 at *
  generalize Shd (ps.reverse.map bkP)=H2 at *
  generalize Shd (ps.map (shP 7))=H3 at *
  generalize Nd (abt ps.length j)=AB at *
  generalize L3.D.tup (Nd j)=l at *
  generalize L3.D.tup (Nd A)=R2 at *
  generalize Shd ps=H at *
  unfold hE
  apply ai (Z1:=[#v[S],#v[I],some (.lst [.int E],.u),L,v4,q,v6,v7,v8,v9,v10,v11])
  .nomatch [V]
  apply ai (Z1:=[#v[S],#v[I],some (.lst [.int s],.u),#v[H],v4,q,v6,v7,v8,v9,v10,v11])
  .nomatch [es]
  apply iU (b:=decide ((ps.length:Int) > 1)) (bS (ay (aC (ad (ag rfl) aq) rfl O) i_c rfl rfl C) rfl) (FH h2)
  apply ai (Z1:=[#v[S],#v[I],some (.lst [.int s],.u),#v[H],#v[l],#v[R2],v6,v7,v8,v9,v10,v11])
  .exact i_par (ad (aj cu (ad (ag rfl) aq) rfl rfl rfl) (ad (aj ca (ad (ag rfl) aq) rfl rfl rfl) aq)) rfl (Nat.le_of_ble_eq_true rfl) (Nat.le_of_ble_eq_true rfl) rfl
  apply ai (Z1:=[#v[S],#v[I],some (.lst [.int k],.u),#v[H],#v[l],#v[R2],v6,v7,v8,v9,v10,v11])
  .exact bB (b:=false) (gj (b:=false) (Z1:=[#v[S],#v[I],some (.lst [.int Q],.u),#v[H],#v[l],#v[R2],v6,v7,v8,v9,v10,v11]) (dQ (b:=true) (bS (aj f1 (ad (ag rfl) (ad (ag rfl) (ad (ag rfl) (ad i_c aq)))) rfl rfl rfl) rfl)) rfl (dQ (b:=true) (bS (aj f2 (ad (ag rfl) (ad (ag rfl) (ad (ag rfl) (ad i_c aq)))) rfl rfl rfl) rfl))) rfl rfl
  apply ai (Z1:=[#v[S],#v[I],some (.lst [.int k],.u),#v[H],#v[l],#v[R2],some (.dt T,.u),some (.dt τ,.u),v8,v9,v10,v11])
  .exact EF (ad (aj t1 (ad (ag rfl) aq) rfl rfl rfl) (ad (aj t2 (ad (ag rfl) aq) rfl rfl rfl) aq)) #[#[Nat.le_of_ble_eq_true rfl,Nat.le_of_ble_eq_true rfl],(λh=>by cases h),λh=>by cases h] rfl
  apply ai (Z1:=[#v[S],#v[I],some (.lst [.int k],.u),#v[H],#v[l],#v[R2],some (.dt T,.u),some (.dt τ,.u),v8,v9,v10,v11])
  .exact bB (b:=false) (gj (b:=false) (bS (ay (aC (ad (ag rfl) aq) rfl x1) (aC (ad (ag rfl) aq) rfl e1) rfl rfl ne1) rfl) rfl (bS (ay (aC (ad (ag rfl) aq) rfl x2) (aC (ad (ag rfl) aq) rfl P) rfl rfl ne2) rfl)) rfl rfl
  apply ai (Z1:=[#v[S],#v[I],some (.lst [.int k],.u),#v[H],#v[l],#v[R2],some (.dt T,.u),some (.dt τ,.u),v8,v9,v10,v11])
  .exact bB (b:=false) (gj (b:=false) (bS (ay (aj p1 (ad (ag rfl) (ad (ag rfl) aq)) rfl rfl rfl) i_c rfl rfl rfl) rfl) rfl (bS (ay (aj p2 (ad (ag rfl) (ad (ag rfl) aq)) rfl rfl rfl) i_c rfl rfl rfl) rfl)) rfl rfl
  apply ai lo
  apply ai (Z1:=[#v[S],#v[I],some (.lst [.int k],.u),#v[H],#v[l],#v[R2],some (.dt T,.u),some (.dt τ,.u),p,#v[N],v10,d])
  .exact iT (aC (ad (ag rfl) aq) rfl O) rfl (Nat.le_of_ble_eq_true rfl) rfl
  apply ai (Z1:=[#v[S],#v[I],some (.lst [.int k],.u),#v[H],#v[l],#v[R2],some (.dt T,.u),some (.dt τ,.u),p,#v[N],v10,d])
  .exact bB (b:=false) (gj (b:=false) (bS (ay (aj W (ad (ag rfl) (ad (aj ov (ad (ag rfl) aq) rfl rfl rfl) aq)) rfl rfl rfl) i_c rfl rfl rfl) rfl) rfl (bS (ay (aj t3 (ad (aj ov (ad (ag rfl) aq) rfl rfl rfl) aq) rfl rfl rfl) (ag rfl) rfl rfl nt) rfl)) rfl rfl
  apply ai (Z1:=[#v[S],#v[I],some (.lst [.int k],.u),#v[H],#v[l],#v[R2],some (.dt T,.u),some (.dt τ,.u),p,#v[N],#v[.tup AB],d])
  .exact iT (aC (ad lc aq) rfl tp) rfl (Nat.le_of_ble_eq_true rfl) rfl
  exact bB (b:=false) (gj (b:=false) (bS (ay (aj iu (ad (ag rfl) (ad (aj bv (ad (ag rfl) aq) rfl rfl rfl) aq)) rfl rfl rfl) i_c rfl rfl rfl) rfl) rfl (bS (ay (aj R (ad (aj sv (ad (ag rfl) (ad i_c aq)) rfl rfl rfl) aq) rfl rfl rfl) (ag rfl) rfl rfl nt) rfl)) rfl rfl
theorem z6 (ns:List Int) (n:ns.length<=63):Cz [(.fls (ns.map .int),.z)]=some (.ok (.bl true,.z),[(.fls (ns.map .int),.z)]):=by
 have l:∃ m:Nat,(if (if ((3:Int) < ((ns.map L3.D.int).length:Int)) then (3:Int) else ((ns.map L3.D.int).length:Int)) > 1 then (if ((3:Int) < ((ns.map L3.D.int).length:Int)) then (3:Int) else ((ns.map L3.D.int).length:Int)) else (1:Int))=(m:Int)/\m<=3:=by
  refine #[max 1 (min ns.length 3),?_,by lia]
  simp only[Ft]
  split <;> split <;> lia
 obtain ⟨m,hm,f⟩:=l
 obtain ⟨Z',e,v1,v2,a,v4,c,v6,v7,v8,v9,v10,v11,rfl⟩:=a9 (bnd:=am 1) (b:=hE) (λ_ Z=>∃ v1 v2 a v4 c v6 v7 v8 v9 v10 v11,Z=[#v[.fls (ns.map .int)],v1,v2,a,v4,c,v6,v7,v8,v9,v10,v11]) (ds:=aS 0 m) (Z:=[#v[.fls (ns.map .int)],none,none,none,none,none,none,none,none,none,none,none]) (k:=0) #[_,_,_,_,_,_,_,_,_,_,_,rfl] (by
  rintro i d Z hd ⟨v1,v2,a,v4,c,v6,v7,v8,v9,v10,v11,rfl⟩
  obtain ⟨hi,rfl⟩:=bG hd
  rw[Int.zero_add]
  obtain ⟨r,v,o,q,u,s,t,p,j,h,e⟩:=yz (ns:=ns) i v2 a v4 c v6 v7 v8 v9 v10 v11
  exact #[_,_,rfl,.inl e,_,_,_,_,_,_,_,_,_,_,_,rfl])
 have g:dO [.int (if (if ((3:Int) < ((ns.map L3.D.int).length:Int)) then (3:Int) else ((ns.map L3.D.int).length:Int)) > 1 then (if ((3:Int) < ((ns.map L3.D.int).length:Int)) then (3:Int) else ((ns.map L3.D.int).length:Int)) else (1:Int))]=some (aS 0 m):=by
  rw[hm]
  exact dz (by lia) (by lia)
 apply aI (Z:=[#v[.fls (ns.map .int)],none,none,none,none,none,none,none,none,none,none,none]) rfl rfl
 .apply ai
  .apply dH
   ·(repeat' (first | with_reducible apply cn (h3:=g) | infer_instance | eq_refl))
   .rfl
   .exact e
  .nofun
 .rfl
end Bn
end
namespace Bn
open PySem L2 L3
theorem E6 {l:PySem.W.OpenLaw} {w:World} {K:FG} {h:Heap} {mg:Str -> Option Value} {fa:Addr} (X:K.In h) (G:h.Ns mainGlobals mg) (cm:mg "law"=some (.ref fa)) (e:zZ K=t7) :
  ∃ fd:FuncData,(∀ (s:Shared) (v:Value),BindsTo s fd #[[v],[]] [("_law_script",v)]) /\ ∀ base:Heap,K.In base -> base.Ns mainGlobals mg -> FnOk l.prog w K mg base CX0 10 fa fd ["_law_script"] (wE K):=by
 have g:dsL.map (λp=>qr K p.1)=dsL.map (λp=>mh p.1 p.2):=congrArg (λx=>x.1) e
 have e1:blL.map (PySem.W.nsIn K mainGlobals)=blL.map (λ_=>some none):=congrArg (λx=>x.2.1) e
 have e2:ciL.map (λp=>oQ K p.1)=ciL.map (λp=>some p.2):=congrArg (λx=>x.2.2.1) e
 have e3:csL.map (λp=>wD K p.1)=csL.map (λp=>some p.2):=congrArg (λx=>x.2.2.2) e
 have B:Bl mg:=#[ci X G e1 0 rfl,ci X G e1 1 rfl,ci X G e1 2 rfl,ci X G e1 3 rfl,ci X G e1 4 rfl,ci X G e1 5 rfl,ci X G e1 6 rfl,ci X G e1 7 rfl,ci X G e1 8 rfl,ci X G e1 9 rfl,ci X G e1 10 rfl,ci X G e1 11 rfl,ci X G e1 12 rfl,ci X G e1 13 rfl,ci X G e1 14 rfl,ci X G e1 15 rfl,ci X G e1 16 rfl,ci X G e1 17 rfl,ci X G e1 18 rfl,ci X G e1 19 rfl]
 have D0:Def K mg "is_whole" fL:=aB X G g 0 rfl
 have D1:Def K mg "is_point" fN:=aB X G g 1 rfl
 have D2:Def K mg "is_place" fO:=aB X G g 2 rfl
 have D3:Def K mg "are_rising_places" bu:=aB X G g 3 rfl
 have D4:Def K mg "check_whole" dw:=aB X G g 4 rfl
 have D5:Def K mg "are_points" dU:=aB X G g 5 rfl
 have D6:Def K mg "has_rising_x" cx:=aB X G g 6 rfl
 have D7:Def K mg "bend" og:=aB X G g 7 rfl
 have D8:Def K mg "threes" jj:=aB X G g 8 rfl
 have D9:Def K mg "first_on_line" cb:=aB X G g 9 rfl
 have d1:Def K mg "is_sheet" fM:=aB X G g 10 rfl
 have eN:Def K mg "check_sheet" dy:=aB X G g 11 rfl
 have ea:Def K mg "turn_at" iw:=aB X G g 12 rfl
 have cu:Def K mg "turn" oe:=aB X G g 13 rfl
 have dd:Def K mg "all_turns" eK:=aB X G g 14 rfl
 have eu:Def K mg "turned_over" dl:=aB X G g 15 rfl
 have ey:Def K mg "from_behind" du:=aB X G g 16 rfl
 have et:Def K mg "sheared" iz:=aB X G g 17 rfl
 have dr:Def K mg "row_bends" eG:=aB X G g 18 rfl
 have d0:Def K mg "bends" k4:=aB X G g 19 rfl
 have ew:Def K mg "is_cup" jp:=aB X G g 20 rfl
 have ej:Def K mg "is_cap" jq:=aB X G g 21 rfl
 have c3:Def K mg "row_table" eF:=aB X G g 22 rfl
 have ei:Def K mg "cup_table" eI:=aB X G g 23 rfl
 have eo:Def K mg "cap_table" eJ:=aB X G g 24 rfl
 have eH:Def K mg "onward_table" cq:=aB X G g 25 rfl
 have ek:Def K mg "longest_row" dm:=aB X G g 26 rfl
 have dV:Def K mg "longest_cup" dn:=aB X G g 27 rfl
 have eT:Def K mg "longest_cap" dq:=aB X G g 28 rfl
 have cw:Def K mg "has_paper_form" bV:=aB X G g 29 rfl
 have ec:Def K mg "is_paper" fP:=aB X G g 30 rfl
 have ed:Def K mg "is_cup_paper" cr:=aB X G g 31 rfl
 have d4:Def K mg "is_cap_paper" cv:=aB X G g 32 rfl
 have eb:Def K mg "_law_cell" jn:=aB X G g 33 rfl
 have er:Def K mg "_law_mix" kY:=aB X G g 34 rfl
 have dc:Def K mg "_law_box" kZ:=aB X G g 35 rfl
 have cp:Def K mg "_law_take" jl:=aB X G g 36 rfl
 have d2:Def K mg "_law_bend" jo:=aB X G g 37 rfl
 have ez:Def K mg "_law_free" jm:=aB X G g 38 rfl
 have dx:Def K mg "_law_sheet" iA:=aB X G g 39 rfl
 have e4:Def K mg "_law_right" iB:=aB X G g 40 rfl
 obtain ⟨f,fd,F0,hf⟩:Def K mg "law" gr:=aB X G g 41 rfl
 cases cm.symm.trans hf
 have F:=F0
 obtain ⟨oc,od,kV,doc,pm,an,d3,ct,e6,ef,lk,e8⟩:=F0.ex
 subst ef
 obtain ⟨e9,Q0⟩:=rW X G e2 0 (n:="MOST_POINTS") (v:=24) rfl
 obtain ⟨e7,Q1⟩:=rW X G e2 1 (n:="UP") (v:=1) rfl
 obtain ⟨e5,Q2⟩:=rW X G e2 2 (n:="DOWN") (v := -1) rfl
 refine #[PySem.W.fnOf "law" "law" (aV gr) (aO gr) (ae gr) .none kV doc pm an d3 ct,λs v=>.of_eq rfl,λbase _ _=>?_]
 have d:=o0 (P:=l.prog) (w:=w) (base:=base) B D0
 have bb:=o4 (P:=l.prog) (w:=w) (base:=base) B D1 d
 have be:=o5 (P:=l.prog) (w:=w) (base:=base) B D2 d
 have a:=gk (P:=l.prog) (w:=w) (base:=base) B D3 be
 have D:=kT (P:=l.prog) (w:=w) (base:=base) B D4 d
 have L:=mw (P:=l.prog) (w:=w) (base:=base) B D5 bb Q0
 have u:=kh (P:=l.prog) (w:=w) (base:=base) B D6
 have b4:=zh (P:=l.prog) (w:=w) (base:=base) B D7
 have R:=su (P:=l.prog) (w:=w) (base:=base) B D8
 have o:=jK (P:=l.prog) (w:=w) (base:=base) B D9 b4 R
 have az:=o3 (P:=l.prog) (w:=w) (base:=base) B d1 L o u
 have b:=kU (P:=l.prog) (w:=w) (base:=base) B eN az
 have J:=qD (P:=l.prog) (w:=w) (base:=base) B ea b4
 have ck:=zg (P:=l.prog) (w:=w) (base:=base) B cu a b J
 have c:=mW (P:=l.prog) (w:=w) (base:=base) B dd b R J
 have C:=kO (P:=l.prog) (w:=w) (base:=base) B eu b
 have z:=kS (P:=l.prog) (w:=w) (base:=base) B ey b
 have b3:=qE (P:=l.prog) (w:=w) (base:=base) B et b D
 have ar:=mT (P:=l.prog) (w:=w) (base:=base) B dr
 have a0:=vZ (P:=l.prog) (w:=w) (base:=base) B d0 c a ar
 have S:=sE (P:=l.prog) (w:=w) (base:=base) B ew a0 Q1
 have O:=sF (P:=l.prog) (w:=w) (base:=base) B ej a0 Q2
 have k:=mS (P:=l.prog) (w:=w) (base:=base) B c3 c
 have τ:=mU (P:=l.prog) (w:=w) (base:=base) B ei k Q1
 have T:=mV (P:=l.prog) (w:=w) (base:=base) B eo k Q2
 have r:=kc (P:=l.prog) (w:=w) (base:=base) B eH
 have i:=kP (P:=l.prog) (w:=w) (base:=base) B ek r
 have I:=kQ (P:=l.prog) (w:=w) (base:=base) B dV c i Q1
 have A:=kR (P:=l.prog) (w:=w) (base:=base) B eT c i Q2
 have j:=jc (P:=l.prog) (w:=w) (base:=base) B cw a d
 have q:=o6 (P:=l.prog) (w:=w) (base:=base) B ec c j
 have y:=ke (P:=l.prog) (w:=w) (base:=base) B ed q Q1
 have t:=kg (P:=l.prog) (w:=w) (base:=base) B d4 q Q2
 have V:=sC (P:=l.prog) (w:=w) (base:=base) B eb
 have a3:=vX (P:=l.prog) (w:=w) (base:=base) B er
 have b0:=vY (P:=l.prog) (w:=w) (base:=base) B dc V a3
 have m:=sA (P:=l.prog) (w:=w) (base:=base) B cp
 have σ:=sD (P:=l.prog) (w:=w) (base:=base) B d2
 have ρ:=sB (P:=l.prog) (w:=w) (base:=base) B ez σ
 have M:=qF (P:=l.prog) (w:=w) (base:=base) B dx ρ m
 have N:=qG (P:=l.prog) (w:=w) (base:=base) B e4 m O S ck
 exact FnOk.imp (BD (P:=l.prog) (w:=w) (base:=base) B F b0 N M T τ z O t S y A I b3 C) λvs H Q E h=>Bz (λns hn=>#[_,z6 ns hn]) h
theorem walkL:PySem.W.WalkO viL loL (λ_ _=>True) (λ_ h=>∃ K:FG,K.In h /\ zZ K=t7) PySem.Challenge.rw_bentrows_k12_whole_threes_of_rows.row.toRowW ⟨"law",aV gr,aO gr,ae gr,stPos gr⟩ [] (λf d=>PySem.call f d) :=
 L2.walk_ofS (l:=PySem.Challenge.rw_bentrows_k12_whole_threes_of_rows) (n:=63) (k:=10) (x:="_law_script") (S:=λK=>zZ K=t7) (CX:=CX0) (sp:=wE) rfl (by decide) rfl ⟨rfl,by decide,by decide,rfl⟩ (λ_ _ z=>z) (λ_ _ _ _ _ e X G hm=>E6 X G hm e) (λ_ _ a ns c b g=>⟨a,ns,rfl,g,b,c,λ_=>rfl⟩) λ_ _ _ _ z=>z
end Bn
open PySem PySem.W PyProof.Rows
set_option maxRecDepth 100000 in
set_option maxHeartbeats 0 in
theorem PySem.Challenge.cw_bentrows_k12_whole_threes_of_rows_holds : PySem.Challenge.rw_bentrows_k12_whole_threes_of_rows.Holds :=
 holds_law Bn.okL λsaid=>holds_open (r:=PySem.Challenge.rw_bentrows_k12_whole_threes_of_rows.row) Bn.leftL (λ_ _ e=>⟨_,L2.fragAt_in _,e⟩) (λ_ _ _ ⟨K,X,e⟩ k=>⟨K,X.keeps k,e⟩) (λ_ _=>trivial) (λ_ _ _ _ _=>trivial) (by kernel_rfl) (by kernel_rfl) (by kernel_rfl) (λs e=>recFacts_of e) (by rfl) said (by kernel_rfl) ⟨rfl,rfl,rfl,rfl,rfl,by decide +kernel⟩ ⟨[.list []],by decide +kernel,by decide +kernel⟩ Bn.walkL
