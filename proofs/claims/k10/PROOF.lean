import PyProof.Rows.All
import Wide.All
import OpenK.AllK
import Wide.FinOn
import Lean
import PyProof.EqAt
import PyProof.EqKinds
import PyProof.TupleCall
import PyProof.P3Eq
import PyProof.NeData
import PyProof.ListRange
import PyProof.Rows.CallKwBuiltin
import PyProof.Rows.Range3
import PyProof.DictWalks
import PyProof.MinMaxWalk
import PyProof.WalkInts
import PyProof.Walk
import PyProof.WalkLemmas
import PyProof.RulesTry
import PyProof.Rows.SortShell
import PyProof.Rows.SortWalk
import PyProof.Rows.SortRuns
import PyProof.Rows.SetFrom
import PyProof.SetKind
import PyProof.SetScanFacts
import PyProof.FactsAll.subtypes_4
import PyProof.FactsAll.set_1
import PyProof.DictDisplay
import PySem.Challenge.RW_bentrows_k10_the_longest_rows
set_option tactic.hygienic false
set_option genSizeOf false
set_option Elab.async false
noncomputable section
set_option linter.all false
set_option maxRecDepth 100000
set_option maxHeartbeats 4000000
section
abbrev FG:=PySem.W.Frag
open PySem PySem.Spec PyProof.Rows
abbrev E3:=@wpAny_bind
abbrev E4:=@wpAny_pure
abbrev E5:=@wpAny_holding
abbrev E6:=@List.mem_cons_self
abbrev E7:=@List.mem_cons_of_mem
abbrev E8:=@Heap.get?_push_of_some
abbrev E9:=@Option.map_eq_some_iff
abbrev Fa:=@List.mem_append_left
abbrev Fb:=@List.mem_append_right
abbrev Fc:=@List.mem_cons
abbrev Fd:=@List.getElem?_eq_getElem
abbrev Fe:=@Heap.lt_size
abbrev Ff:=@List.mem_append
abbrev Fg:=@Heap.get?_push_size
abbrev Fh:=@List.length_map
abbrev Fi:=@List.getElem?_eq_some_iff
abbrev Fj:=@List.mem_of_getElem?
abbrev Fm:=@List.sublist_append_right
abbrev Fo:=@List.mem_map
abbrev Fp:=@List.getElem?_map
abbrev Fq:=@Nat.le_refl
abbrev Fr:=@Bool.false_ne_true
abbrev Fs:=@Nat.ne_of_lt
abbrev Ft:=@List.size_toArray
abbrev Fu:=@List.map_cons
abbrev Fv:=@decide_eq_true
abbrev Fw:=@decide_eq_false
abbrev Fy:=@Nat.lt_of_lt_of_le
abbrev Fz:=@Nat.zero_add
abbrev FA:=@Heap.get?_update_self
abbrev FB:=@List.length_append
abbrev FC:=@List.length_cons
abbrev FD:=@List.length_take
abbrev FE:=@Option.map_some
abbrev FF:=@Option.bind_eq_some_iff
abbrev FH:=@List.mem_singleton
abbrev FI:=@Bool.false_eq_true
abbrev FJ:=@List.mem_filter
abbrev FK:=@Heap.get?_update_other
abbrev FL:=@Heap.size_push
abbrev FM:=@wpAny_truthy_bool
abbrev FN:=@Nat.le_trans
abbrev FO:=@List.filter_eq_self
abbrev FP:=@List.mem_flatMap
abbrev FQ:=@List.map_map
abbrev FR:=@List.map_congr_left
abbrev FS:=@Option.some.inj
abbrev FT:=@List.length_eq_zero_iff
end
section
namespace L2
open PySem
def aQ (s : Stmt) : Arguments := match s with
 | .FunctionDef _ a _ _ _ _ _ _ _ _ => a
 | _ => { posonlyargs := [], args := [], vararg := none, kwonlyargs := [], kw_defaults := [], kwarg := none, defaults := [] }
def aJ (s : Stmt) : List Stmt := match s with
 | .FunctionDef _ _ b _ _ _ _ _ _ _ => b
 | _ => []
def ag (s : Stmt) : Scope := match s with
 | .FunctionDef _ _ _ _ _ _ sc _ _ _ => sc
 | _ => { kind := .function, names := [], isGenerator := false, isCoroutine := false }
def yX (h : Heap) : FG := (List.range h.objs.size).filterMap fun a => (h.get? a).map fun o => (a, o)
def refIn (K : FG) (n : Str) : Addr := match PySem.W.nsIn K mainGlobals n with
 | some (some (.ref f)) => f
 | _ => 0
abbrev oH := Str × Str × Arguments × FuncBody × Scope × Addr × List (Str × Addr) × Value × Addr × Bool
def qe (K : FG) (n : Str) : Option oH := match PySem.W.nsIn K mainGlobals n with
 | some (some (.ref f)) => (match K.lookup f with
  | some ⟨_, _, .func fd, _⟩ => some (fd.name, fd.qualname, fd.params, fd.body, fd.scope, fd.globals, fd.closure, fd.defaults, fd.builtins, PySem.W.codeIn K fd.code n)
  | _ => none)
 | _ => none
def lA (n : Str) (st : Stmt) : Option oH := some (n, n, aQ st, .stmts (aJ st), ag st, mainGlobals, [], .none, builtinsNs, true)
def n4 (K : FG) (n : Str) : Option Int := match PySem.W.nsIn K mainGlobals n with
 | some (some (.int v _)) => some v
 | _ => none
def wD (K : FG) (n : Str) : Option Str := match PySem.W.nsIn K mainGlobals n with
 | some (some (.str v _)) => some v
 | _ => none
open PySem.W PyProof.Rows in
theorem vq {p q : Program} {loose : List Str} {d : Shared → Bool} {α : Type} {c : Shared → α} {g : World → α} {N m : Nat} {ann : Option Value}
  (e : opening p = plainProg p.main.scope.names) (k : Nat.ble 600 N = true) (f : ∀ s, fenceModules? p s = some s)
  (sz : ∀ w : World, ((boot_heap w.params).isNs mainGlobals && (Array.mk [] : Array GenState).size == 0, (boot_heap w.params).objs.size, (boot_heap w.params).nsMap mainGlobals "__annotations__") = (true, m, ann))
  (go : ∀ (w : World) (os : OsState), (PySem.W.Fast.tw14082659384304107361 PySem.W.Fast.tw14364793385576792824 p w m ann N ⟨boot_heap w.params, Array.mk [], boot_drawn, boot_toks, os⟩ (topStub p)).map (fun s => ((staticsOk (importedModules p.main.body) (boot_heap w.params) s.heap && namesBound p s.heap && gensDone s && laidKept (boot_heap w.params) s.heap), PySem.W.Fast.tw4187177175401517315 q loose (importedModules p.main.body) d true s, c s)) = some (true, openGood q loose, g w)) : LeftO p q loose d c g N := fun w => by
 obtain ⟨⟨h, i, l, tk, os⟩, o, j⟩ := E9.mp (boot_open e k f w)
 obtain ⟨rfl, rfl, rfl, rfl⟩ : h = boot_heap w.params ∧ i = Array.mk [] ∧ l = boot_drawn ∧ tk = boot_toks := by simpa using j
 have sw := sz w
 have a := go w os
 rw [← PySem.W.Fast.te14082659384304107361, ← PySem.W.Fast.te14364793385576792824, ← PySem.W.Fast.te4187177175401517315] at a
 simp only [Prod.mk.injEq] at sw
 obtain ⟨s, n, b⟩ := E9.mp a
 simp only [Prod.mk.injEq] at b
 have tt : topFrom treeTable p w N ⟨boot_heap w.params, Array.mk [], boot_drawn, boot_toks, os⟩ = some s := by
  unfold topFrom
  dsimp only
  rw [sw.1, sw.2.1, sw.2.2, n]
  change (match staticsOk (importedModules p.main.body) (boot_heap w.params) s.heap && namesBound p s.heap && gensDone s && laidKept (boot_heap w.params) s.heap with | true => some s | false => none) = some s
  rw [b.1]
 unfold openEnds
 rw [o]
 change Option.map _ (topFrom treeTable p w N _) = _
 rw [tt]
 exact congrArg some (Prod.ext b.2.1 b.2.2)
theorem uL (h : PySem.W.Fast.tw9446332074065402090 l = true) : l.wellSaid = true := by rw [← PySem.W.Fast.te9446332074065402090] at h; exact h
end L2
namespace Bn
open PySem L2
def top (i : Nat) : Stmt := PySem.Challenge.pw_bentrows_k10_the_longest_rows.main.body.getD i (.Pass ⟨0, 0, 0, 0⟩)
abbrev eW : Stmt := top 4
abbrev eY : Stmt := top 5
abbrev c8 : Stmt := top 8
abbrev cf : Stmt := top 9
abbrev nC : Stmt := top 10
abbrev iO : Stmt := top 11
abbrev bU : Stmt := top 12
abbrev eX : Stmt := top 13
abbrev cK : Stmt := top 14
abbrev gv : Stmt := top 15
abbrev dE : Stmt := top 16
abbrev ce : Stmt := top 20
abbrev cH : Stmt := top 21
abbrev cI : Stmt := top 22
abbrev cJ : Stmt := top 23
abbrev iS : Stmt := top 25
abbrev ky : Stmt := top 26
abbrev kz : Stmt := top 27
abbrev iP : Stmt := top 28
abbrev gw : Stmt := top 29
abbrev iT : Stmt := top 30
abbrev iR : Stmt := top 31
abbrev gx : Stmt := top 32
abbrev nB : Stmt := top 33
abbrev eV : Stmt := top 34
abbrev gJ : Stmt := top 35
abbrev gz : Stmt := top 36
abbrev iQ : Stmt := top 37
abbrev fU : Stmt := top 38
abbrev dsL : List (Str × Stmt) := [(("is_whole" : Str), eW), (("is_point" : Str), eY), (("are_points" : Str), c8), (("has_rising_x" : Str), cf), (("bend" : Str), nC), (("threes" : Str), iO), (("first_on_line" : Str), bU), (("is_sheet" : Str), eX), (("check_sheet" : Str), cK), (("turn_at" : Str), gv), (("all_turns" : Str), dE), (("onward_table" : Str), ce), (("longest_row" : Str), cH), (("longest_cup" : Str), cI), (("longest_cap" : Str), cJ), (("_law_cell" : Str), iS), (("_law_mix" : Str), ky), (("_law_box" : Str), kz), (("_law_take" : Str), iP), (("_law_whole" : Str), gw), (("_law_bend" : Str), iT), (("_law_free" : Str), iR), (("_law_sheet" : Str), gx), (("_law_up" : Str), nB), (("_law_rising" : Str), eV), (("_law_bends" : Str), gJ), (("_law_parts" : Str), gz), (("_law_rows" : Str), iQ), (("law" : Str), fU)]
abbrev blL : List Str := [("len" : Str), ("range" : Str), ("abs" : Str), ("divmod" : Str), ("enumerate" : Str), ("tuple" : Str), ("isinstance" : Str), ("int" : Str), ("bool" : Str), ("all" : Str), ("str" : Str), ("max" : Str), ("min" : Str), ("list" : Str), ("dict" : Str), ("repr" : Str), ("sorted" : Str), ("set" : Str), ("zip" : Str), ("reversed" : Str)]
abbrev ciL : List (Str × Int) := [(("MOST_POINTS" : Str), (24 : Int)), (("UP" : Str), (1 : Int)), (("DOWN" : Str), (-1 : Int))]
abbrev csL : List (Str × Str) := []
def Ae (K : FG) : List (Option oH) × List (Option (Option Value)) × List (Option Int) × List (Option Str) := (dsL.map (fun p => qe K p.1), blL.map (PySem.W.nsIn K mainGlobals), ciL.map (fun p => n4 K p.1), csL.map (fun p => wD K p.1))
def tX : List (Option oH) × List (Option (Option Value)) × List (Option Int) × List (Option Str) := (dsL.map (fun p => lA p.1 p.2), blL.map (fun _ => some none), ciL.map (fun p => some p.2), csL.map (fun p => some p.2))
theorem okL : PySem.Challenge.rw_bentrows_k10_the_longest_rows.wellSaid = true := uL (by kernel_rfl)
abbrev loL : List Str := [("BentError" : Str), ("NoSheet" : Str), ("is_whole" : Str), ("is_point" : Str), ("MOST_POINTS" : Str), ("are_points" : Str), ("has_rising_x" : Str), ("bend" : Str), ("threes" : Str), ("first_on_line" : Str), ("is_sheet" : Str), ("check_sheet" : Str), ("turn_at" : Str), ("all_turns" : Str), ("UP" : Str), ("DOWN" : Str), ("onward_table" : Str), ("longest_row" : Str), ("longest_cup" : Str), ("longest_cap" : Str), ("_law_cell" : Str), ("_law_mix" : Str), ("_law_box" : Str), ("_law_take" : Str), ("_law_whole" : Str), ("_law_bend" : Str), ("_law_free" : Str), ("_law_sheet" : Str), ("_law_up" : Str), ("_law_rising" : Str), ("_law_bends" : Str), ("_law_parts" : Str), ("_law_rows" : Str)]
abbrev viL : Program := PySem.W.view PySem.Challenge.rw_bentrows_k10_the_longest_rows.row.prog [38]
theorem leftL : PySem.W.LeftO PySem.Challenge.rw_bentrows_k10_the_longest_rows.row.prog viL loL (fun s => PySem.W.recOk (PySem.W.RowW.records PySem.Challenge.rw_bentrows_k10_the_longest_rows.row.toRowW) s) (fun s => Ae (yX s.heap)) (fun _ => tX) 40000 :=
 vq (m := 11) (ann := some (.ref 6)) (by kernel_rfl) rfl (fun _ => rfl) (fun w => by kernel_rfl) (fun w os => by kernel_rfl)
end Bn
end
section
namespace L2
open PySem PySem.Spec PyProof.Rows
abbrev Key:=Sum Int Str
def mY:Key->Value->Bool
 | .inl k,v=>Value.isInt k v
 | .inr x,v=>Value.isStrOf x v
def keyH (w:World):Key->Int
 | .inl k=>hashInt k
 | .inr x=>hashStr w x
theorem aX:∀ {k:Key} {v:Value},mY k v=true->(∃ i t,k=Sum.inl i/\v=Value.int i t)\/(∃ x t,k=Sum.inr x/\v=Value.str x t)
 | .inl i,v,h=>by
  obtain ⟨t,e⟩:=Value.isInt_shape (k:=i) (v:=v) h
  exact .inl ⟨i,t,rfl,e⟩
 | .inr x,v,h=>by
  obtain ⟨t,e⟩:=Value.isStrOf_shape (x:=x) (v:=v) h
  exact .inr ⟨x,t,rfl,e⟩
theorem vy (i:Int) (t:Tok):mY (.inl i) (.int i t)=true:=by simp [mY,Value.isInt]
theorem vx (x:Str) (t:Tok):mY (.inr x) (.str x t)=true:=by simp [mY,Value.isStrOf]
theorem Eu (a b:Int):decide ((Sum.inl a:Key)=Sum.inl b)=(a == b):=by
 by_cases e:a=b
 ·subst e;simp
 ·have h:¬ (Sum.inl a:Key)=Sum.inl b:=fun q=>e (Sum.inl.inj q)
  rw [Fw h]
  exact (beq_eq_false_iff_ne.mpr e).symm
theorem Er (a b:Str):decide ((Sum.inr a:Key)=Sum.inr b)=decide (a=b):=by
 by_cases e:a=b
 ·subst e;simp
 ·have h:¬ (Sum.inr a:Key)=Sum.inr b:=fun q=>e (Sum.inr.inj q)
  rw [Fw h,Fw e]
theorem Et (a:Int) (b:Str):decide ((Sum.inl a:Key)=Sum.inr b)=false:=Fw (fun q=>nomatch q)
theorem Es (a:Str) (b:Int):decide ((Sum.inr a:Key)=Sum.inl b)=false:=Fw (fun q=>nomatch q)
def bt (prog:Program) (w:World):PySem.KeyKind prog w Key where
 is:=mY
 hash:=keyH w
 inj:=fun v a b f d=>by
  rcases aX f with ⟨i,t,rfl,rfl⟩ | ⟨x,t,rfl,rfl⟩
  ·rcases aX d with ⟨j,u,rfl,e⟩ | ⟨y,u,rfl,e⟩
   ·injection e with e1 _;rw [e1]
   ·exact nomatch e
  ·rcases aX d with ⟨j,u,rfl,e⟩ | ⟨y,u,rfl,e⟩
   ·exact nomatch e
   ·injection e with e1 _;rw [e1]
 byValue:=fun k v h=>by
  rcases aX h with ⟨i,t,rfl,rfl⟩ | ⟨x,t,rfl,rfl⟩ <;> rfl
 pyHash:=fun c h=>by
  rcases aX c with ⟨i,t,rfl,rfl⟩ | ⟨x,t,rfl,rfl⟩
  ·exact wpAny_pyHash_int h
  ·exact wpAny_pyHash_str h
 eqBool:=fun hu c h=>by
  rcases aX hu with ⟨i,t,rfl,rfl⟩ | ⟨x,t,rfl,rfl⟩
  ·rcases aX c with ⟨j,u,rfl,rfl⟩ | ⟨y,u,rfl,rfl⟩
   ·rw [Eu] at h;exact wpAny_eqBool_int h
   ·rw [Et] at h;exact SeqAt.EqAt.int_str i t y u _ _ _ _ h
  ·rcases aX c with ⟨j,u,rfl,rfl⟩ | ⟨y,u,rfl,rfl⟩
   ·rw [Es] at h;exact SeqAt.EqAt.str_int x t j u _ _ _ _ h
   ·rw [Er] at h;exact wpAny_eqBool_str h
 «strs»:=fun k x t v h=>by
  rcases aX h with ⟨i,u,rfl,e⟩ | ⟨y,u,rfl,e⟩
  ·exact nomatch e
  ·injection e with e1 _
   subst e1
   cases v <;> rfl
theorem pM (prog:Program) (w:World) (i:Int) (t:Tok):(bt prog w).is (.inl i) (.int i t)=true:=vy i t
theorem pL (prog:Program) (w:World) (x:Str) (t:Tok):(bt prog w).is (.inr x) (.str x t)=true:=vx x t
end L2
namespace L2
open PySem PySem.Spec PyProof.Rows
inductive V where
 | non | bl (b:Bool) | int (i:Int) | str (x:Str) | byt (b:Array UInt8) | flt (b:UInt64) | ref (a:Addr) | ty (n:String)
 deriving DecidableEq
def RelV:V->Value->Prop
 | .non,u=>u=Value.none
 | .bl b,u=>u=Value.bool b
 | .int i,u=>∃ t,u=Value.int i t
 | .str x,u=>∃ t,u=Value.str x t
 | .byt b,u=>∃ t,u=Value.bytes b t
 | .flt b,u=>∃ t,u=Value.float b t
 | .ref a,u=>u=Value.ref a
 | .ty n,u=>u=Value.type n
abbrev Vals:List V->List Value->Prop:=Paired RelV
theorem Vals.length (r:Vals xs us):xs.length=us.length:=Paired.length r
theorem Vals.get:∀ {xs:List V} {us:List Value} {i:Nat} {x:V},Vals xs us->xs[i]?=some x->∃ u,us[i]?=some u/\RelV x u
 | _,_,_,_,.nil,e=>by simp at e
 | _,_,0,_,.cons r _,e=>by simp at e;subst e;exact ⟨_,rfl,r⟩
 | _,_,i+1,x,.cons _ t,e=>by
  obtain ⟨u,h1,h2⟩:=Vals.get (i:=i) (x:=x) t (by simpa using e)
  exact ⟨u,by simpa using h1,h2⟩
theorem Vals.set (r:RelV x u):∀ {xs:List V} {us:List Value} (i:Nat),Vals xs us->Vals (xs.set i x) (us.set i u)
 | _,_,_,.nil=>.nil
 | _,_,0,.cons _ t=>.cons r t
 | _,_,i+1,.cons q t=>.cons q (Vals.set r i t)
theorem Vals.append:∀ {xs ys:List V} {us ws:List Value},Vals xs us->Vals ys ws->Vals (xs ++ ys) (us ++ ws)
 | _,_,_,_,.nil,s=>s
 | _,_,_,_,.cons r t,s=>.cons r (Vals.append t s)
theorem Vals.take:∀ {xs:List V} {us:List Value} (n:Nat),Vals xs us->Vals (xs.take n) (us.take n)
 | _,_,0,_=>.nil
 | _,_,_+1,.nil=>.nil
 | _,_,n+1,.cons r t=>.cons r (Vals.take n t)
theorem Vals.drop:∀ {xs:List V} {us:List Value} (n:Nat),Vals xs us->Vals (xs.drop n) (us.drop n)
 | _,_,0,r=>r
 | _,_,_+1,.nil=>.nil
 | _,_,n+1,.cons _ t=>Vals.drop n t
def RelO:Option V->Option Value->Prop
 | some v,some u=>RelV v u
 | none,none=>True
 | _,_=>False
def KV {κ:Type}:List (κ × V)->List (κ × Value)->Prop:=Paired fun (p:κ × V) (q:κ × Value)=>p.1=q.1/\RelV p.2 q.2
def kV:Key->V
 | .inl i=>.int i
 | .inr x=>.str x
inductive HO where
 | lst (xs:List V)
 | tup (xs:List V)
 | dK (kvs:List (Key × V)) | dT (kvs:List (List Key × V))
 | set (S:Int->Bool) (n:Nat)
 | ins (C dx:Addr) (fs:List (Str × V))
 | own (x:Addr)
 | xd (fs:List (Str × V))
 | met (f x:Addr)
 | rng (lo hi:Int)
 | frz (o:Obj) (u:HO)
 | tbl (ps:Array Value)
 | ext (φ:Heap->Prop)
abbrev Hp:=Addr->Option HO
def upd (H:Hp) (a:Addr) (o:HO):Hp:=fun b=>if b=a then some o else H b
theorem aT:upd H a o a=some o:=by unfold upd;rw [if_pos rfl]
theorem au (h:b ≠ a):upd H a o b=H b:=by unfold upd;rw [if_neg h]
theorem ne_of {H:Hp} (h:H a=some o) (h':H b=some u) (d:o ≠ u):a ≠ b:=by
 intro e;subst e;rw [h] at h';exact d (FS h')
theorem aL {H:Hp} (h:H a=some o) (h':H b=none):a ≠ b:=by
 intro e;subst e;rw [h] at h';cases h'
def DictOfE {prog:Program} {w:World} {κ:Type} [DecidableEq κ] (knd:KeyKind prog w κ) (h:Heap) (a:Addr) (kvs:List (κ × Value)):Prop :=
 ∃ o es b,h.get? a=some o/\o.ExactDict/\o.data=.dict es b/\KeysOf knd es/\Pairs knd es.toList kvs/\(kvs.map (·.1)).Nodup/\b=es.size
theorem DictOfE.of [DecidableEq κ] {knd:KeyKind prog w κ} {kvs:List (κ × Value)} (x:DictOfE knd h a kvs):h.DictOf knd a kvs:=let ⟨o,es,b,h1,h2,h3,e,c,d,_⟩:=x;⟨o,es,b,h1,h2,h3,e,c,d⟩
def IsTupD (h:Heap) (a:Addr) (items:Array Value):Prop:=∃ o,h.get? a=some o/\o.cls=.type "tuple"/\∃ n,(o.data,o.dict)=(Data.seq items n,none)
theorem IsTupD.tup {h:Heap} {a:Addr} {items:Array Value} (x:IsTupD h a items):IsTup h a items:=let ⟨o,e,c,n,d⟩:=x;⟨o,e,c,n,congrArg Prod.fst d⟩
theorem IsTupD.lt (x:IsTupD h a items):a < h.objs.size:=x.tup.lt
theorem IsTupD.new (h:Heap) (items:Array Value):IsTupD (h.push { cls:=.type "tuple",data:=.seq items }) h.objs.size items:=⟨_,Fg h rfl,rfl,_,rfl⟩
section
variable (P:Program) (w:World)
def ObjOk (H:Hp) (h:Heap) (a:Addr):HO->Prop
 | .lst xs=>xs.length<=sizeLine/\∃ (its:List Value) (n:Nat),Vals xs its/\h.get? a=some { cls:=.type "list",data:=.seq its.toArray n }
 | .tup xs=>xs.length<=sizeLine/\∃ its:List Value,Vals xs its/\IsTupD h a its.toArray
 | .dK kvs=>kvs.length<=sizeLine/\(a == sysModules)=false/\∃ d,KV kvs d/\DictOfE (bt P w) h a d
 | .dT kvs=>kvs.length<=sizeLine/\(a == sysModules)=false/\∃ xs:List (List Key × Addr × Value),
   Paired (fun (p:List Key × V) (q:List Key × Addr × Value)=>p.1=q.1/\H q.2.1=some (.tup (p.1.map kV))/\RelV p.2 q.2.2) kvs xs /\
   ∃ o es c,h.get? a=some o/\o.ExactDict/\o.data=.dict es c/\es.toList=xs.map (entryOfKey (tupleKind (bt P w)))/\(xs.map (·.1)).Nodup/\c=es.size
 | .set S n=>h.SetOf (intKind P w) a S n
 | .ins C dx fs=>H dx=some (.own a)/\fs.length<=1000/\dx ≠ a/\h.get? a=some (PySem.W.instObj C dx) /\
   ∃ b,h.Ns1 dx b/\(∀ f,RelO (fs.lookup f) (b f))/\PySem.Within b (fs.map (·.1))
 | .own _=>∃ o,h.get? a=some o
 | .xd fs=>∃ b,h.Ns1 a b/\∀ f,RelO (fs.lookup f) (b f)
 | .rng lo hi=>∃ t u v,h.get? a=some { cls:=.type "range",data:=.fields #[.int lo t,.int hi u,.int 1 v] }
 | .frz o u=>h.get? a=some o/\ObjOk H h a u
 | .tbl ps=>h.get? a=some { cls:=.none,data:=.fields ps }
 | .met f x=>h.get? a=some (PySem.W.methodObj (.ref f) (.ref x))
 | .ext φ=>φ h/\(∃ o,h.get? a=some o)/\∀ h1 h2:Heap,φ h1->(∀ o,h1.get? a=some o->h2.get? a=some o)->φ h2
def HOk (H:Hp) (h:Heap):Prop:=∀ a o,H a=some o->ObjOk P w H h a o
end
section
variable {P:Program} {w:World} {H H':Hp} {h h':Heap} {a:Addr} {o:HO}
theorem ObjOk.lt (x:ObjOk P w H h a o):a < h.objs.size:=by
 cases o with
 | lst xs=>obtain ⟨_,_,_,_,e⟩:=x;exact Fe e
 | tup xs=>obtain ⟨_,_,_,p⟩:=x;exact p.lt
 | dK kvs=>obtain ⟨_,_,_,_,o,_,_,e,_⟩:=x;exact Fe e
 | dT kvs=>obtain ⟨_,_,_,_,o,_,_,e,_⟩:=x;exact Fe e
 | set S n=>obtain ⟨o,_,_,_,e,_⟩:=x;exact Fe e
 | ins C dx fs=>obtain ⟨_,_,_,e,_⟩:=x;exact Fe e
 | own y=>obtain ⟨_,e⟩:=x;exact Fe e
 | xd fs=>obtain ⟨_,⟨_,_,_,e,_⟩,_⟩:=x;exact Fe e
 | rng lo hi=>obtain ⟨_,_,_,e⟩:=x;exact Fe e
 | frz ob u=>obtain ⟨e,_⟩:=x;exact Fe e
 | tbl ps=>exact Fe (show h.get? a=some _ from x)
 | met f y=>exact Fe (show h.get? a=some _ from x)
 | ext φ=>obtain ⟨_,⟨_,e⟩,_⟩:=x;exact Fe e
theorem Paired.mapP:∀ {d:List α} {c:List β},Paired F d c->(∀ a b,F a b->G a b)->Paired G d c
 | _,_,.nil,_=>.nil
 | _,_,.cons r t,f=>.cons (f _ _ r) (Paired.mapP t f)
theorem ObjOk.stay (x:ObjOk P w H h a o) (k:∀ b u,(b=a\/H b=some (.own a))->h.get? b=some u->h'.get? b=some u)
  (s:∀ b,H b=some (.own a)->H' b=some (.own a)) (A:∀ b xs,H b=some (.tup xs)->H' b=some (.tup xs)):ObjOk P w H' h' a o:=by
 induction o with
 | lst xs=>obtain ⟨z,its,n,r,e⟩:=x;exact ⟨z,its,n,r,k _ _ (.inl rfl) e⟩
 | tup xs=>obtain ⟨z,its,r,ob,e,c⟩:=x;exact ⟨z,its,r,ob,k _ _ (.inl rfl) e,c⟩
 | dK kvs=>obtain ⟨z,y,m,r,ob,es,g,e,c⟩:=x;exact ⟨z,y,m,r,ob,es,g,k _ _ (.inl rfl) e,c⟩
 | dT kvs =>
  obtain ⟨z,y,xs,r,ob,es,g,e,c⟩:=x
  exact ⟨z,y,xs,Paired.mapP r fun p q z=>⟨z.1,A _ _ z.2.1,z.2.2⟩,ob,es,g,k _ _ (.inl rfl) e,c⟩
 | set S n=>obtain ⟨ob,es,g,t,e,c⟩:=x;exact ⟨ob,es,g,t,k _ _ (.inl rfl) e,c⟩
 | ins C dx fs =>
  obtain ⟨d,z,ne,e,i,⟨j,es,g,l,c⟩,r⟩:=x
  exact ⟨s _ d,z,ne,k _ _ (.inl rfl) e,i,⟨j,es,g,k _ _ (.inr d) l,c⟩,r⟩
 | own y=>obtain ⟨ob,e⟩:=x;exact ⟨ob,k _ _ (.inl rfl) e⟩
 | xd fs=>obtain ⟨i,⟨j,es,g,e,c⟩,r⟩:=x;exact ⟨i,⟨j,es,g,k _ _ (.inl rfl) e,c⟩,r⟩
 | rng lo hi=>obtain ⟨t,u,v,e⟩:=x;exact ⟨t,u,v,k _ _ (.inl rfl) e⟩
 | frz ob u ih=>obtain ⟨e,q⟩:=x;exact ⟨k _ _ (.inl rfl) e,ih q⟩
 | tbl ps =>
  have e:h.get? a=some { cls:=.none,data:=.fields ps }:=x
  show h'.get? a=some { cls:=.none,data:=.fields ps }
  exact k a _ (.inl rfl) e
 | met f y =>
  have e:h.get? a=some (PySem.W.methodObj (.ref f) (.ref y)):=x
  show h'.get? a=some (PySem.W.methodObj (.ref f) (.ref y))
  exact k a _ (.inl rfl) e
 | ext φ=>obtain ⟨p,⟨o,e⟩,st⟩:=x;exact ⟨st _ _ p fun o q=>k _ _ (.inl rfl) q,⟨o,k _ _ (.inl rfl) e⟩,st⟩
theorem HOk.lt (x:HOk P w H h) (e:H a=some o):a < h.objs.size:=(x a o e).lt
theorem HOk.fresh (x:HOk P w H h) (e:h.objs.size<=a):H a=none:=by
 cases q:H a with
 | none=>rfl
 | some u=>exact absurd (Fy (x.lt q) e) (Nat.lt_irrefl _)
theorem HOk.kept (x:HOk P w H h) (k:∀ b u,h.get? b=some u->h'.get? b=some u):HOk P w H h':=fun a o e =>
 (x a o e).stay (fun b u _ q=>k b u q) (fun _ q=>q) fun _ _ q=>q
theorem HOk.laid (x:HOk P w H h) (k:∀ b u,h.get? b=some u->h'.get? b=some u) (g:h.objs.size<=a) (new:ObjOk P w (upd H a o) h' a o):HOk P w (upd H a o) h':=fun b u e=>by
 have f:=x.fresh g
 by_cases d:b=a
 ·subst d;rw [aT] at e;cases e;exact new
 ·rw [au d] at e
  exact (x b u e).stay (fun c v _ q=>k c v q) (fun c q=>by rw [au (aL q f)];exact q) fun c xs q=>by rw [au (aL q f)];exact q
end
def Rd (H:Hp) (a:Addr) (u:HO):Prop:=H a=some u\/∃ o,H a=some (.frz o u)
theorem Rd.ok (r:Rd H a u) (x:HOk P w H h):ObjOk P w H h a u:=by
 rcases r with r | ⟨o,r⟩
 ·exact x a u r
 ·obtain ⟨_,q⟩:=x a _ r
  exact q
def Mut:Option HO->Prop
 | some (.lst _)=>True
 | some (.dK _)=>True
 | some (.dT _)=>True
 | some (.set _ _)=>True
 | some (.ins _ _ _)=>True
 | some (.ext _)=>True
 | _=>False
section
variable {P:Program} {w:World} {H:Hp} {h h':Heap} {x e:Addr} {o':HO}
theorem HOk.write (ok:HOk P w H h) (i:Mut (H x)) (he:e=x\/H e=some (.own x)) (k:∀ b u,b ≠ e->h.get? b=some u->h'.get? b=some u) (l:∃ u,h'.get? e=some u)
  (new:ObjOk P w (upd H x o') h' x o'):HOk P w (upd H x o') h':=fun b u q=>by
 have d:∀ c y,H c=some (.own y)->c ≠ x:=fun c y r z=>by subst z;rw [r] at i;exact i
 have f:∀ c xs,H c=some (.tup xs)->c ≠ x:=fun c xs r z=>by subst z;rw [r] at i;exact i
 by_cases g:b=x
 ·subst g;rw [aT] at q;cases q;exact new
 ·rw [au g] at q
  by_cases a:b=e
  ·have m:H b=some (.own x):=by
    rcases he with z | z
    ·exact absurd (a.trans z) g
    ·rw [a];exact z
   rw [q] at m;cases m
   obtain ⟨v,n⟩:=l
   exact ⟨v,by rw [a];exact n⟩
  ·refine (ok b u q).stay (fun c v j r=>k c v ?_ r) (fun c r=>by rw [au (d c b r)];exact r) fun c xs r=>by rw [au (f c xs r)];exact r
   rcases j with rfl | j
   ·exact a
   ·rintro rfl
    rcases he with z | z
    ·exact d c b j z
    ·rw [j] at z;cases z;exact g rfl
end
structure Un (fs ex:List Addr) (H H':Hp) (h h':Heap):Prop where
 keep:∀ b o,h.get? b=some o->H b=none->b ∉ fs->b ∉ ex->h'.get? b=some o
 slot:∀ b o,h.get? b=some o->H b=none->b ∈ fs->b ∉ ex->∃ sl,h'.get? b=some { o with slots:=sl }
 free:∀ b o,h.get? b=some o->H b=none->b ∉ ex->H' b=none
 there:∀ b o,h.get? b=some o->b ∉ ex->∃ o',h'.get? b=some o'
 tups:∀ b xs,H b=some (.tup xs)->H' b=some (.tup xs)
 frzs:∀ b o u,H b=some (.frz o u)->H' b=some (.frz o u)
 tbls:∀ b ps,H b=some (.tbl ps)->∃ more,H' b=some (.tbl (ps ++ more))
section
variable {fs fs' ex ex':List Addr} {H H1 H2:Hp} {h h1 h2 h':Heap} {a x e:Addr} {o:HO}
theorem Un.any (u:Un fs ex H H1 h h1) (q:h.get? b=some ob) (n:H b=none) (a:b ∉ ex):∃ sl,h1.get? b=some { ob with slots:=sl }:=by
 by_cases c:b ∈ fs
 ·exact u.slot b ob q n c a
 ·exact ⟨ob.slots,u.keep b ob q n c a⟩
theorem Un.trans (a:Un fs ex H H1 h h1) (b:Un fs ex H1 H2 h1 h2):Un fs ex H H2 h h2 where
 keep:=fun c ob q n e d=>b.keep c ob (a.keep c ob q n e d) (a.free c ob q n d) e d
 slot:=fun c ob q n e d=>by
  obtain ⟨sl,e1⟩:=a.slot c ob q n e d
  obtain ⟨f,g⟩:=b.slot c _ e1 (a.free c ob q n d) e d
  exact ⟨f,g⟩
 free:=fun c ob q n d=>by
  obtain ⟨o',e1⟩:=a.there c ob q d
  exact b.free c o' e1 (a.free c ob q n d) d
 there:=fun c ob q d=>by
  obtain ⟨o',e1⟩:=a.there c ob q d
  exact b.there c o' e1 d
 tups:=fun c xs q=>b.tups c xs (a.tups c xs q)
 frzs:=fun c ob xs q=>b.frzs c ob xs (a.frzs c ob xs q)
 tbls:=fun c ps q=>by
  obtain ⟨j,e1⟩:=a.tbls c ps q
  obtain ⟨i,g⟩:=b.tbls c _ e1
  exact ⟨j ++ i,by rw [g,Array.append_assoc]⟩
theorem Un.kept (k:∀ b u,h.get? b=some u->h'.get? b=some u):Un fs ex H H h h' :=
 ⟨fun b ob q _ _ _=>k b ob q,fun b ob q _ _ _=>⟨ob.slots,k b ob q⟩,fun _ _ _ n _=>n,fun b ob q _=>⟨ob,k b ob q⟩,fun _ _ q=>q,fun _ _ _ q=>q,fun _ ps q=>⟨#[],by rw [q];simp⟩⟩
theorem Un.refl:Un fs ex H H h h:=Un.kept fun _ _ q=>q
theorem Un.laid (k:∀ b u,h.get? b=some u->h'.get? b=some u) (d:h.objs.size<=a) (c:H a=none):Un fs ex H (upd H a o) h h' where
 keep:=fun b u q _ _ _=>k b u q
 slot:=fun b u q _ _ _=>⟨u.slots,k b u q⟩
 free:=fun b u q n _=>by rw [au (Fs (Fy (Fe q) d))];exact n
 there:=fun b u q _=>⟨u,k b u q⟩
 tups:=fun b xs q=>by rw [au (aL q c)];exact q
 frzs:=fun b u xs q=>by rw [au (aL q c)];exact q
 tbls:=fun b ps q=>⟨#[],by rw [au (aL q c),q];simp⟩
theorem Un.write (c:Mut (H x)) (he:e=x\/H e=some (.own x)) (k:∀ b u,b ≠ e->h.get? b=some u->h'.get? b=some u) (d:∃ u,h'.get? e=some u):Un fs ex H (upd H x o) h h':=by
 have f:∀ b,H b=none->b ≠ x:=fun b n z=>by subst z;rw [n] at c;exact c
 have g:∀ b,H b=none->b ≠ e:=fun b n z=>by
  subst z
  rcases he with r | r
  ·exact f b n r
  ·rw [n] at r;cases r
 have hm:∀ b u,H b=some u->¬ Mut (some u)->b ≠ x:=fun b u q nm z=>by subst z;rw [q] at c;exact nm c
 refine ⟨fun b u q n _ _=>k b u (g b n) q,fun b u q n _ _=>⟨u.slots,k b u (g b n) q⟩,fun b u q n _=>by rw [au (f b n)];exact n,fun b u q _=>?_,
  fun b xs q=>by rw [au (hm b _ q fun z=>z)];exact q,fun b u xs q=>by rw [au (hm b _ q fun z=>z)];exact q,fun b ps q=>⟨#[],by rw [au (hm b _ q fun z=>z),q];simp⟩⟩
 by_cases a:b=e
 ·subst a;exact d
 ·exact ⟨u,k b u a q⟩
end
def trk (h:Heap) (H:Hp):List Addr:=(List.range h.objs.size).filter fun a=>(H a).isSome
def n6 (h:Heap) (H:Hp):Heap:=PySem.W.hideAll h (trk h H)
theorem vA (h:Heap) (H:Hp):(n6 h H).objs.size=h.objs.size:=PySem.W.hideAll_size _ _
theorem yT (e:h.get? b=some o) (n:H b=none):(n6 h H).get? b=some o :=
 PySem.W.hideAll_get _ e fun hm=>by
  have q:(H b).isSome=true:=(FJ.mp hm).2
  rw [n] at q;simp at q
theorem A4 (e:(n6 h H).get? b=some o):h.get? b=some o/\H b=none:=by
 have a:h.get? b=some o:=PySem.W.of_hideAll (trk h H) e
 refine ⟨a,?_⟩
 cases q:H b with
 | none=>rfl
 | some x =>
  have hm:b ∈ trk h H:=FJ.mpr ⟨List.mem_range.mpr (Fe a),by simp [q]⟩
  have z:(n6 h H).get? b=none:=PySem.W.hideAll_none (trk h H) hm
  rw [z] at e;cases e
def BZ (g h:Heap) (L:Addr):List (Addr × Obj):=(List.range h.objs.size).filterMap fun a=>if a=L\/(g.get? a).isSome=true then none else (h.get? a).map fun o=>(a,o)
def cQ (g h:Heap) (L d:Addr):List (Addr × Obj):=(BZ g h L).filter fun p=>decide (p.1 ≠ d)
end L2
namespace L2
open PySem PySem.Spec PyProof.Rows
structure Mod (K:FG) (mg:Str->Option Value) (base:Heap):Prop where
 kin:K.In base
 glob:base.Ns mainGlobals mg
 blt:∃ mb,base.Ns builtinsNs mb/\∀ x:Str,x ≠ "__name__"->mb x=bootBuiltins x
 nolimit:base.NoLimit
structure Cx where
 prog:Program
 w:World
 K:FG
 mg:Str->Option Value
 base:Heap
 A:Around
 N:List Str
 s₀:Shared
 H₀:Hp
 env:Env
 outer:List Env
 stack:List Env
 ex:List Addr
 fn:Str->Bool
 calm:Bool
 pn:List (Addr × Obj)
 xe:Value->Shared->Prop
def frs (l:List Env):List Addr:=l.filterMap (·.frame)
abbrev Cx.fs (X:Cx):List Addr:=frs X.outer
def Vis (sc:Scope) (x:Str):Prop:=sc.names.lookup x=some .local\/sc.names.lookup x=some .cell\/sc.names.lookup x=some .free
def Loc (sc:Scope) (x:Str):Prop:=sc.names.lookup x=some .local\/sc.names.lookup x=some .cell
def Look (env:Env) (h:Heap) (m:Str->Option Value) (x:Str) (u:Value):Prop :=
 (env.kindOf x=some .local/\m x=some u)\/((env.kindOf x=some .cell\/env.kindOf x=some .free)/\∃ c,env.cells.lookup x=some c/\h.IsCell c (some u))
structure Cx.Ok (X:Cx):Prop where
 mod:Mod X.K X.mg X.base
 kind:X.env.scope.kind=.function
 glob:X.env.globals=mainGlobals
 blt:X.env.builtins=builtinsNs
 above:X.s₀.heap.objs.size<=X.env.locals
 inj:∀ x y c,X.env.cells.lookup x=some c->X.env.cells.lookup y=some c->x=y
 has:∀ x,(X.env.kindOf x=some .cell\/X.env.kindOf x=some .free)->∃ c,X.env.cells.lookup x=some c
 cab:∀ x c,X.fn x=true->X.env.cells.lookup x=some c->X.s₀.heap.objs.size<=c
 hd:X.calm=true->X.A.handled=none
 frames:X.A.frames=some X.stack
 stk:X.stack=X.outer\/(X.stack=X.env :: X.outer/\X.env.frame=some X.env.locals)
 exf:∀ b ∈ X.ex,b ≠ X.env.locals/\∀ x c,X.env.cells.lookup x=some c->c ≠ b
 bs:∀ b o,X.base.get? b=some o->X.s₀.heap.get? b=some o/\X.H₀ b=none
 bsz:X.base.objs.size<=X.s₀.heap.objs.size
 noex:∀ b o,X.base.get? b=some o->b ∉ X.ex
 exfs:∀ b ∈ X.ex,b ∉ X.fs
 funs:X.s₀.heap.FunFrames X.base X.outer
 frf:∀ b ∈ X.fs,X.H₀ b=none
structure Inv (X:Cx) (pins:List (Addr × Obj)) (σ:List (Option V)) (H:Hp) (s:Shared):Prop where
 ok:X.Ok
 os:s.os=X.s₀.os
 bare:AllBare s.gens
 base:Un X.fs X.ex X.H₀ H X.s₀.heap s.heap
 loc:∃ m,s.heap.Ns X.env.locals m/\∀ (i:Nat) (x:Str) (v:V),X.N[i]?=some x->σ[i]?=some (some v)->Vis X.env.scope x->∃ u,RelV v u/\Look X.env s.heap m x u
 cell:∀ x c,X.env.cells.lookup x=some c->∃ v,s.heap.IsCell c v
 free:H X.env.locals=none
 freeC:∀ x c,X.env.cells.lookup x=some c->H c=none
 pin:∀ p ∈ X.pn ++ pins,s.heap.get? p.1=some p.2/\H p.1=none/\p.1 ≠ X.env.locals/\p.1 ∉ X.fs/\∀ v,p.2.data ≠ .cell v
 hok:HOk X.prog X.w H s.heap
 len:σ.length=X.N.length
section
variable {X:Cx} {pins:List (Addr × Obj)} {σ:List (Option V)} {H H':Hp} {s:Shared} {h':Heap}
theorem Cx.Ok.nofr (ok:X.Ok) (e:X.base.get? b=some o):b ∉ X.fs:=fun a=>by
 have:=(ok.funs.mem a).1
 rw [e] at this;cases this
theorem Inv.bs (I:Inv X pins σ H s):∀ b o,X.base.get? b=some o->s.heap.get? b=some o/\H b=none:=fun b o e =>
 ⟨I.base.keep b o (I.ok.bs b o e).1 (I.ok.bs b o e).2 (I.ok.nofr e) (I.ok.noex b o e),I.base.free b o (I.ok.bs b o e).1 (I.ok.bs b o e).2 (I.ok.noex b o e)⟩
theorem Inv.bk (I:Inv X pins σ H s):∀ b o,X.base.get? b=some o->s.heap.get? b=some o:=fun b o e=>(I.bs b o e).1
theorem Inv.mod (I:Inv X pins σ H s):Mod X.K X.mg X.base:=I.ok.mod
theorem Inv.kIn (I:Inv X pins σ H s):X.K.In s.heap:=I.ok.mod.kin.keeps I.bk
theorem Inv.lt (I:Inv X pins σ H s):X.env.locals < s.heap.objs.size:=let ⟨_,a,_⟩:=I.loc;a.lt
theorem Inv.sz (I:Inv X pins σ H s):X.s₀.heap.objs.size<=s.heap.objs.size:=FN I.ok.above (Nat.le_of_lt I.lt)
theorem Inv.nofs (I:Inv X pins σ H s) (h:s.heap.objs.size<=a):a ∉ X.fs:=fun c=>by
 obtain ⟨_,o,b,_⟩:=I.ok.funs.mem c
 exact absurd (Fy (Fe b) (FN I.sz h)) (Nat.lt_irrefl _)
theorem Inv.cne (I:Inv X pins σ H s):∀ x c,X.env.cells.lookup x=some c->c ≠ X.env.locals:=fun x c e z=>by
 obtain ⟨v,o,d,hd⟩:=I.cell x c e
 obtain ⟨m,⟨o',es,f,a,b,_⟩,_⟩:=I.loc
 rw [z,a] at d;cases d;rw [b] at hd;cases hd
theorem Inv.funs (I:Inv X pins σ H s):s.heap.FunFrames X.base X.outer:=by
 have all:∀ (l:List Env),(∀ b ∈ frs l,b ∈ X.fs)->X.s₀.heap.FunFrames X.base l->s.heap.FunFrames X.base l:=by
  intro l
  induction l with
  | nil=>intro _ _;trivial
  | cons env r ih =>
   intro d i
   obtain ⟨g,⟨L,o,hf,j,h,hd⟩,f⟩:=i
   have c:L ∈ X.fs:=d L (by unfold frs;rw [List.filterMap_cons,hf];exact E6)
   obtain ⟨sl,e⟩:=I.base.slot L o h (I.ok.frf L c) c fun z=>I.ok.exfs L z c
   exact ⟨g,⟨L,_,hf,j,e,hd⟩,ih (fun b a=>d b (by unfold frs;rw [List.filterMap_cons,hf];exact E7 _ a)) f⟩
 exact all X.outer (fun _ a=>a) I.ok.funs
theorem Inv.stack (I:Inv X pins σ H s):s.heap.FunFrames X.base X.stack:=by
 rcases I.ok.stk with e | ⟨e,hf⟩
 ·rw [e];exact I.funs
 ·rw [e]
  obtain ⟨m,a,_⟩:=I.loc
  refine .cons (by rw [I.ok.kind];decide) hf a ?_ I.funs
  exact Heap.get?_none_of_le (FN I.ok.bsz I.ok.above)
theorem Inv.stkSub (I:Inv X pins σ H s):∀ b ∈ frs X.stack,b ∈ X.env.locals :: X.fs:=fun b a=>by
 rcases I.ok.stk with e | ⟨e,hf⟩
 ·rw [e] at a;exact E7 _ a
 ·rw [e] at a
  unfold frs at a
  rw [List.filterMap_cons,hf] at a
  exact a
theorem Inv.stkFree (I:Inv X pins σ H s):∀ b ∈ frs X.stack,H b=none:=fun b a=>by
 rcases Fc.mp (I.stkSub b a) with e | a
 ·rw [e];exact I.free
 ·obtain ⟨_,o,c,_⟩:=I.ok.funs.mem a
  exact I.base.free b o c (I.ok.frf b a) fun z=>I.ok.exfs b z a
theorem Inv.step {t':Nat} {ch:List Addr} (I:Inv X pins σ H s) (f:∀ b ∈ ch,(b ∈ X.ex\/X.s₀.heap.objs.size<=b)/\b ≠ X.env.locals/\(∀ x c,X.env.cells.lookup x=some c->c ≠ b)/\∀ p ∈ X.pn ++ pins,p.1 ≠ b) (keep:∀ b o,b ≠ X.env.locals->b ∉ X.fs->b ∉ ch->s.heap.get? b=some o->H b=none->h'.get? b=some o) (slot:∀ b o,b ≠ X.env.locals->b ∈ X.fs->b ∉ ch->s.heap.get? b=some o->H b=none->∃ sl,h'.get? b=some { o with slots:=sl }) (free:∀ b o,b ∉ ch->s.heap.get? b=some o->H b=none->H' b=none) (there:∀ b o,b ∉ ch->s.heap.get? b=some o->∃ o',h'.get? b=some o') (tups:∀ b xs,H b=some (.tup xs)->H' b=some (.tup xs)) (frzs:∀ b o u,H b=some (.frz o u)->H' b=some (.frz o u)) (tbls:∀ b ps,H b=some (.tbl ps)->∃ more,H' b=some (.tbl (ps ++ more))) (ns:∀ m,s.heap.Ns X.env.locals m->h'.Ns X.env.locals m) (hok:HOk X.prog X.w H' h') (M:AllBare g') :
  Inv X pins σ H' { s with heap:=h',gens:=g',drawn:=d',toks:=t' }:=by
 have A:∀ b o,X.s₀.heap.get? b=some o->b ≠ X.env.locals:=fun b o e=>Fs (Fy (Fe e) I.ok.above)
 have h:∀ b o,X.s₀.heap.get? b=some o->b ∉ X.ex->b ∉ ch:=fun b o e a j=>by
  rcases (f b j).1 with z | z
  ·exact a z
  ·exact absurd (Fy (Fe e) z) (Nat.lt_irrefl _)
 have cellK:∀ x c,X.env.cells.lookup x=some c->∀ v,s.heap.IsCell c v->h'.IsCell c v:=fun x c e v ⟨o,t,hd⟩=>by
  have g:c ∉ ch:=fun z=>(f c z).2.2.1 x c e rfl
  by_cases D:c ∈ X.fs
  ·obtain ⟨sl,q⟩:=slot c o (I.cne x c e) D g t (I.freeC x c e)
   exact ⟨_,q,hd⟩
  ·exact ⟨o,keep c o (I.cne x c e) D g t (I.freeC x c e),hd⟩
 refine ⟨I.ok,I.os,M,⟨fun b o e n j a=>?_,fun b o e n j a=>?_,fun b o e n a=>?_,fun b o e a=>?_,fun b xs e=>tups b xs (I.base.tups b xs e),fun b o xs e=>frzs b o xs (I.base.frzs b o xs e),fun b ps e=>?_⟩,?_,fun x c e=>?_,?_,fun x c e=>?_,fun p E=>?_,hok,I.len⟩
 ·exact keep b o (A b o e) j (h b o e a) (I.base.keep b o e n j a) (I.base.free b o e n a)
 ·obtain ⟨sl,e1⟩:=I.base.slot b o e n j a
  obtain ⟨B,y⟩:=slot b _ (A b o e) j (h b o e a) e1 (I.base.free b o e n a)
  exact ⟨B,y⟩
 ·obtain ⟨o',e1⟩:=I.base.there b o e a
  exact free b o' (h b o e a) e1 (I.base.free b o e n a)
 ·obtain ⟨o',e1⟩:=I.base.there b o e a
  exact there b o' (h b o e a) e1
 ·obtain ⟨G,e1⟩:=I.base.tbls b ps e
  obtain ⟨F,y⟩:=tbls b _ e1
  exact ⟨G ++ F,by rw [y,Array.append_assoc]⟩
 ·obtain ⟨m,K,J⟩:=I.loc
  refine ⟨m,ns m K,fun i x v e1 y L=>?_⟩
  obtain ⟨u,r,l⟩:=J i x v e1 y L
  refine ⟨u,r,?_⟩
  rcases l with l | ⟨k,c,e,z⟩
  ·exact .inl l
  ·exact .inr ⟨k,c,e,cellK x c e _ z⟩
 ·obtain ⟨v,z⟩:=I.cell x c e
  exact ⟨v,cellK x c e v z⟩
 ·obtain ⟨m,⟨o,_,_,t,_⟩,_⟩:=I.loc
  exact free _ o (fun z=>(f _ z).2.1 rfl) t I.free
 ·obtain ⟨v,o,t,hd⟩:=I.cell x c e
  exact free c o (fun z=>(f c z).2.2.1 x c e rfl) t (I.freeC x c e)
 ·obtain ⟨e,n,ne,C,d⟩:=I.pin p E
  have g:p.1 ∉ ch:=fun z=>(f p.1 z).2.2.2 p E rfl
  exact ⟨keep p.1 p.2 ne C g e n,free p.1 p.2 g e n,ne,C,d⟩
theorem Inv.un {t':Nat} (I:Inv X pins σ H s) (u:Un X.fs [] H H' s.heap h') (hok:HOk X.prog X.w H' h'):Inv X pins σ H' { s with heap:=h',toks:=t' }:=by
 obtain ⟨m,⟨o,es,j,g,r⟩,_⟩:=id I.loc
 obtain ⟨sl,i⟩:=u.any g I.free (by simp)
 exact I.step (g':=s.gens) (d':=s.drawn) (ch:=[]) (fun _ z=>nomatch z) (fun b o _ c _ e n=>u.keep b o e n c (by simp)) (fun b o _ c _ e n=>u.slot b o e n c (by simp)) (fun b o _ e n=>u.free b o e n (by simp)) (fun b o _ e=>u.there b o e (by simp)) u.tups u.frzs u.tbls (fun k hm=>by
  obtain ⟨o',f,d,a,h⟩:=hm
  rw [g] at a;cases a
  exact ⟨_,f,d,i,h⟩) hok I.bare
theorem Inv.call {t':Nat} (I:Inv X pins σ H s) (u:Un (frs X.stack) ch H H' s.heap h') (hok:HOk X.prog X.w H' h') (k:AllBare g') (f:∀ b ∈ ch,(b ∈ X.ex\/X.s₀.heap.objs.size<=b)/\b ≠ X.env.locals/\(∀ x c,X.env.cells.lookup x=some c->c ≠ b)/\∀ p ∈ X.pn ++ pins,p.1 ≠ b) :
  Inv X pins σ H' { s with heap:=h',gens:=g',drawn:=d',toks:=t' }:=by
 obtain ⟨m,⟨o,es,t,j,r⟩,_⟩:=id I.loc
 obtain ⟨sl,h⟩:=u.any j I.free fun z=>(f _ z).2.1 rfl
 exact I.step (ch:=ch) f (fun b o h l a e n=>u.keep b o e n (fun z=>(Fc.mp (I.stkSub b z)).elim h l) a) (fun b o _ _ a e n=>u.any e n a) (fun b o a e n=>u.free b o e n a) (fun b o a e=>u.there b o e a) u.tups u.frzs u.tbls (fun v hm=>by
  obtain ⟨o',i,g,d,q⟩:=hm
  rw [j] at d;cases d
  exact ⟨_,i,g,h,q⟩) hok k
theorem Inv.turned {t':Nat} (I:Inv X pins σ H s) (k:∀ b o,b ≠ it->s.heap.get? b=some o->h'.get? b=some o) (j:H it=none) (f:it ≠ X.env.locals) (h1:it ∈ X.ex\/X.s₀.heap.objs.size<=it) (h2:∀ x c,X.env.cells.lookup x=some c->c ≠ it) (h3:∀ p ∈ X.pn ++ pins,p.1 ≠ it):Inv X pins σ H { s with heap:=h',toks:=t' }:=by
 have d:∀ b u,H b=some u->b ≠ it:=fun b u e z=>by rw [z,j] at e;cases e
 refine I.step (g':=s.gens) (d':=s.drawn) (ch:=[it]) (fun b h=>?_) (fun b o _ _ a e _=>k b o (fun z=>a (by simp [z])) e) (fun b o _ _ a e _=>⟨o.slots,k b o (fun z=>a (by simp [z])) e⟩) (fun _ _ _ _ n=>n)
  (fun b o a e=>⟨o,k b o (fun z=>a (by simp [z])) e⟩) (fun _ _ e=>e) (fun _ _ _ e=>e) (fun b ps e=>⟨#[],by rw [e];simp⟩) (fun m hm=>?_) (fun b u e=>?_) I.bare
 ·have e:b=it:=by simpa using h
  subst e
  exact ⟨h1,f,h2,h3⟩
 ·obtain ⟨o,es,g,i,r⟩:=hm
  exact ⟨o,es,g,k _ o (Ne.symm f) i,r⟩
 ·refine (I.hok b u e).stay (fun c v a q=>k c v ?_ q) (fun _ q=>q) fun _ _ q=>q
  rcases a with z | z
  ·rw [z];exact d b u e
  ·exact d c _ z
theorem Inv.tok (I:Inv X pins σ H s) (t:Nat):Inv X pins σ H { s with toks:=t }:=I.un (h':=s.heap) (t':=t) Un.refl I.hok
theorem Inv.kept {t':Nat} (I:Inv X pins σ H s) (k:∀ b u,s.heap.get? b=some u->h'.get? b=some u):Inv X pins σ H { s with heap:=h',toks:=t' }:=I.un (Un.kept k) (I.hok.kept k)
theorem Inv.laid {t':Nat} (I:Inv X pins σ H s) (k:∀ b u,s.heap.get? b=some u->h'.get? b=some u) (c:s.heap.objs.size<=a) (new:ObjOk X.prog X.w (upd H a o) h' a o) :
  Inv X pins σ (upd H a o) { s with heap:=h',toks:=t' }:=I.un (Un.laid k c (I.hok.fresh c)) (I.hok.laid k c new)
theorem Inv.write {t':Nat} (I:Inv X pins σ H s) (c:Mut (H x)) (he:e=x\/H e=some (.own x)) (k:∀ b u,b ≠ e->s.heap.get? b=some u->h'.get? b=some u) (a:∃ u,h'.get? e=some u) (new:ObjOk X.prog X.w (upd H x o) h' x o):Inv X pins σ (upd H x o) { s with heap:=h',toks:=t' }:=I.un (Un.write c he k a) (I.hok.write c he k a new)
theorem Inv.pins_of (I:Inv X pins σ H s) (h:∀ p ∈ pins',s.heap.get? p.1=some p.2/\H p.1=none/\p.1 ≠ X.env.locals/\p.1 ∉ X.fs/\∀ v,p.2.data ≠ .cell v):Inv X pins' σ H s :=
 ⟨I.ok,I.os,I.bare,I.base,I.loc,I.cell,I.free,I.freeC,fun p a=>(Ff.mp a).elim (fun z=>I.pin p (Fa _ z)) (h p),I.hok,I.len⟩
theorem pI {N:List Str} (d:N.Nodup) {i j:Nat} (a:N[i]?=some x) (b:N[j]?=some x):i=j:=by
 obtain ⟨h1,e1⟩:=Fi.mp a
 obtain ⟨h2,c⟩:=Fi.mp b
 exact (List.getElem_inj d).mp (e1.trans c.symm)
theorem mw {i:Nat} (I:Inv X pins σ H s) (hN:X.N.Nodup) (hi:X.N[i]?=some x) (t:Loc X.env.scope x) (r:RelV v u) (h:∀ s',Inv X pins (σ.set i (some v)) H s'->(∃ a,Heap.SameBut a s.heap s'.heap/\(a=X.env.locals\/X.env.cells.lookup x=some a))->Q () s') (hf:X.fn x=true\/X.env.scope.names.lookup x=some .local:=by first | exact .inl rfl | exact .inr rfl | assumption):wpAny M A (storeName X.env x u) Q E s:=by
 obtain ⟨m,W,hl⟩:=id I.loc
 have O:(X.env.scope.kind == .class || (X.env.scope.kind == .module && X.env.locals != X.env.globals))=false:=by rw [I.ok.kind];rfl
 have hiσ:i < σ.length:=by rw [I.len];exact (Fi.mp hi).1
 have cne:=I.cne
 have g:∀ {a:Addr} {h':Heap},(∃ o,s.heap.get? a=some o/\H a=none)->Heap.SameBut a s.heap h'->HOk X.prog X.w H h':=fun {a h'} ha f b ob e=>by
  obtain ⟨_,_,B⟩:=ha
  refine (I.hok b ob e).stay (fun c S l q=>(f.2 c ?_).trans q) (fun _ q=>q) fun _ _ q=>q
  rintro rfl
  rcases l with rfl | l
  ·rw [B] at e;cases e
  ·rw [B] at l;cases l
 rcases t with D | D
 ·refine wpAny_storeName_local D W (fun h' Y f=>?_) O
  obtain ⟨oL,_,_,U,_⟩:=id W
  refine h _ ⟨I.ok,I.os,I.bare,⟨fun b o e n F t=>?_,fun b o e n F t=>?_,I.base.free,fun b o e t=>?_,I.base.tups,I.base.frzs,I.base.tbls⟩,⟨_,Y,fun j y v' e1 C Z=>?_⟩,fun y c e=>?_,I.free,I.freeC,fun p hp=>?_,g ⟨oL,U,I.free⟩ f,by simpa using I.len⟩ ⟨_,f,.inl rfl⟩
  ·exact (f.2 b (Fs (Fy (Fe e) I.ok.above))).trans (I.base.keep b o e n F t)
  ·obtain ⟨sl,e1⟩:=I.base.slot b o e n F t
   exact ⟨sl,(f.2 b (Fs (Fy (Fe e) I.ok.above))).trans e1⟩
  ·obtain ⟨o',e1⟩:=I.base.there b o e t
   exact ⟨o',(f.2 b (Fs (Fy (Fe e) I.ok.above))).trans e1⟩
  ·by_cases J:j=i
   ·subst J
    rw [hi] at e1;cases e1
    rw [List.getElem?_set_self hiσ] at C
    cases C
    exact ⟨u,r,.inl ⟨D,by simp⟩⟩
   ·rw [List.getElem?_set_ne (Ne.symm J)] at C
    obtain ⟨u',r',q⟩:=hl j y v' e1 C Z
    refine ⟨u',r',?_⟩
    rcases q with ⟨k,e⟩ | ⟨k,c,e,z⟩
    ·refine .inl ⟨k,?_⟩
     have:y ≠ x:=fun e=>J (pI hN e1 (e ▸ hi))
     simp [this,e]
    ·exact .inr ⟨k,c,e,z.sameBut f (cne y c e)⟩
  ·obtain ⟨S,z⟩:=I.cell y c e
   exact ⟨S,z.sameBut f (cne y c e)⟩
  ·obtain ⟨e,n,ne,V,d⟩:=I.pin p hp
   exact ⟨(f.2 p.1 ne).trans e,n,ne,V,d⟩
 ·have G:X.fn x=true:=by
   rcases hf with z | z
   ·exact z
   ·rw [z] at D;cases D
  obtain ⟨c,l⟩:=I.ok.has x (.inl D)
  obtain ⟨S,z⟩:=I.cell x c l
  refine wpAny_storeName_cell I.ok.kind D l z (fun h' L f=>?_)
  obtain ⟨oc,P,K⟩:=id z
  refine h { s with heap:=h' } ⟨I.ok,I.os,I.bare,⟨fun b o e n F t=>?_,fun b o e n F t=>?_,I.base.free,fun b o e t=>?_,I.base.tups,I.base.frzs,I.base.tbls⟩,⟨m,W.sameBut f (Ne.symm (cne x c l)),fun j y v' e1 C Z=>?_⟩,fun y T e=>?_,I.free,I.freeC,fun p hp=>?_,g ⟨oc,P,I.freeC x c l⟩ f,by simpa using I.len⟩ ⟨c,f,.inr l⟩
  ·exact (f.2 b (Fs (Fy (Fe e) (I.ok.cab x c G l)))).trans (I.base.keep b o e n F t)
  ·obtain ⟨sl,e1⟩:=I.base.slot b o e n F t
   exact ⟨sl,(f.2 b (Fs (Fy (Fe e) (I.ok.cab x c G l)))).trans e1⟩
  ·obtain ⟨o',e1⟩:=I.base.there b o e t
   exact ⟨o',(f.2 b (Fs (Fy (Fe e) (I.ok.cab x c G l)))).trans e1⟩
  ·by_cases J:j=i
   ·subst J
    rw [hi] at e1;cases e1
    rw [List.getElem?_set_self hiσ] at C
    cases C
    exact ⟨u,r,.inr ⟨.inl D,c,l,L⟩⟩
   ·rw [List.getElem?_set_ne (Ne.symm J)] at C
    obtain ⟨u',r',q⟩:=hl j y v' e1 C Z
    refine ⟨u',r',?_⟩
    rcases q with q | ⟨k,T,e,z'⟩
    ·exact .inl q
    ·refine .inr ⟨k,T,e,z'.sameBut f ?_⟩
     rintro rfl
     exact J (pI hN e1 (I.ok.inj _ _ _ e l ▸ hi))
  ·by_cases R:T=c
   ·subst R;exact ⟨_,L⟩
   ·obtain ⟨w2,z2⟩:=I.cell y T e
    exact ⟨w2,z2.sameBut f R⟩
  ·obtain ⟨e,n,ne,V,d⟩:=I.pin p hp
   refine ⟨(f.2 p.1 ?_).trans e,n,ne,V,d⟩
   intro q
   rw [q,P] at e
   have q':oc=p.2:=FS e
   exact d S (by rw [<- q'];exact K)
theorem oT {i:Nat} (I:Inv X pins σ H s) (a:X.N.Nodup) (hi:X.N[i]?=some x) (b:Loc X.env.scope x) (r:RelV v u) (h:∀ s',Inv X pins (σ.set i (some v)) H s'->Q () s') (hf:X.fn x=true\/X.env.scope.names.lookup x=some .local:=by first | exact .inl rfl | exact .inr rfl | assumption):wpAny M A (storeName X.env x u) Q E s :=
 mw I a hi b r (fun s' c _=>h s' c) hf
theorem Inv.call' (I:Inv X pins σ H s) (f:s'.os=s.os) (u:Un (frs X.stack) ch H H' s.heap s'.heap) (hok:HOk X.prog X.w H' s'.heap) (d:AllBare s'.gens) (a:∀ b ∈ ch,(b ∈ X.ex\/X.s₀.heap.objs.size<=b)/\b ≠ X.env.locals/\(∀ x c,X.env.cells.lookup x=some c->c ≠ b)/\∀ p ∈ X.pn ++ pins,p.1 ≠ b):Inv X pins σ H' s':=by
 obtain ⟨h',g',d',t',o'⟩:=s'
 have e:o'=s.os:=f
 subst e
 exact I.call (g':=g') (t':=t') (d':=d') u hok d a
end
abbrev XK:=Value->Option Addr->Hp->Prop
abbrev St:=List (Option V)
abbrev VK:=V->Hp->Prop
abbrev TE:=St->Hp->VK->Prop
abbrev TT:=St->Hp->(Bool->Hp->Prop)->Prop
abbrev TA:=St->Hp->(List V->Hp->Prop)->Prop
structure Ends where
 nx:St->Hp->Prop
 rt:VK
 bk:St->Hp->Prop:=fun _ _=>False
 ct:St->Hp->Prop:=fun _ _=>False
abbrev TS:=Ends->St->Hp->Prop
def EP (X:Cx) (pins:List (Addr × Obj)) (σ:St) (Q:VK) (u:Value) (s':Shared):Prop:=∃ v H',Inv X pins σ H' s'/\RelV v u/\Q v H'
def TP (X:Cx) (pins:List (Addr × Obj)) (σ:St) (Q:Bool->Hp->Prop) (b:Bool) (s':Shared):Prop:=∃ H',Inv X pins σ H' s'/\Q b H'
def AP (X:Cx) (pins:List (Addr × Obj)) (σ:St) (Q:List V->Hp->Prop) (us:List Value) (s':Shared):Prop:=∃ a H',Inv X pins σ H' s'/\Vals a us/\Q a H'
set_option tactic.hygienic true in
def SP (X:Cx) (pins:List (Addr × Obj)) (D:Ends) (f:Flow) (s':Shared):Prop :=
 match f with
 | .next=>∃ σ' H',Inv X pins σ' H' s'/\D.nx σ' H'
 | .brk=>∃ σ' H',Inv X pins σ' H' s'/\D.bk σ' H'
 | .cont=>∃ σ' H',Inv X pins σ' H' s'/\D.ct σ' H'
 | .ret u=>∃ v σ' H',Inv X pins σ' H' s'/\RelV v u/\D.rt v H'
def PE (X:Cx) (e:Expr) (t:TE):Prop :=
 ∀ (pins:List (Addr × Obj)) (s:Shared) (σ:St) (H:Hp) (Q:VK),Inv X pins σ H s->t σ H Q->wpAny (model X.prog X.w) X.A (eval e X.env) (EP X pins σ Q) X.xe s
def PT (X:Cx) (e:Expr) (t:TT):Prop :=
 ∀ (pins:List (Addr × Obj)) (s:Shared) (σ:St) (H:Hp) (Q:Bool->Hp->Prop),Inv X pins σ H s->t σ H Q->wpAny (model X.prog X.w) X.A (isTrue e X.env (eval e X.env)) (TP X pins σ Q) X.xe s
def PW (X:Cx) (e:Expr) (t:TT):Prop :=
 ∀ (whole:Sem Value) (pins:List (Addr × Obj)) (s:Shared) (σ:St) (H:Hp) (Q:Bool->Hp->Prop),Inv X pins σ H s->t σ H Q->wpAny (model X.prog X.w) X.A (isTrue e X.env whole) (TP X pins σ Q) X.xe s
theorem PW.pt (h:PW X e t):PT X e t:=h _
def PA (X:Cx) (es:List Expr) (t:TA):Prop :=
 ∀ (pos:Pos) (pins:List (Addr × Obj)) (s:Shared) (σ:St) (H:Hp) (Q:List V->Hp->Prop),Inv X pins σ H s->t σ H Q->wpAny (model X.prog X.w) X.A (spliced (backTo pos (starEach es X.env))) (AP X pins σ Q) X.xe s
def PS (X:Cx) (st:Stmt) (t:TS):Prop :=
 ∀ (pins:List (Addr × Obj)) (s:Shared) (σ:St) (H:Hp) (D:Ends),Inv X pins σ H s->t D σ H->wpAny (model X.prog X.w) X.A (exec st X.env) (SP X pins D) X.xe s
def PSs (X:Cx) (st:List Stmt) (t:TS):Prop :=
 ∀ (pins:List (Addr × Obj)) (s:Shared) (σ:St) (H:Hp) (D:Ends),Inv X pins σ H s->t D σ H->wpAny (model X.prog X.w) X.A (execs st X.env) (SP X pins D) X.xe s
theorem thn (h:wpAny M A t Q E s) (b:∀ a s,Q a s->Q' a s):wpAny M A t Q' E s:=wpAny_mono h b fun _ _ x=>x
end L2
namespace L2
open PySem PySem.Spec PyProof.Rows
section
variable {X:Cx}
theorem bin (j:PE X a ta) (e:PE X b tb) {R:V->V->Hp->Prop} (I:Inv X pins σ H s) (h:ta σ H fun x H1=>tb σ H1 fun y H2=>R x y H2) {Q:α->Shared->Prop} {f:Value->Value->Sem α} (hf:∀ v u s2 x y H2,Inv X pins σ H2 s2->RelV x v->RelV y u->R x y H2->wpAny (model X.prog X.w) X.A (f v u) Q X.xe s2) :
  wpAny (model X.prog X.w) X.A (eval a X.env) (fun v i=>wpAny (model X.prog X.w) X.A (eval b X.env) (fun u m=>wpAny (model X.prog X.w) X.A (f v u) Q X.xe m) X.xe i) X.xe s:=by
 refine thn (j pins s σ H _ I h) fun v s1 ⟨x,H1,n,g,c⟩=>?_
 refine thn (e pins s1 σ H1 _ n c) fun u s2 ⟨y,H2,l,d,k⟩=>?_
 exact hf v u s2 x y H2 l g d k
def uE (i:Nat):TE:=fun σ H Q=>∃ v,σ[i]?=some (some v)/\Q v H
def tC (v:V):TE:=fun _ H Q=>Q v H
theorem k6 {i:Nat} (j:X.N[i]?=some x) (g:Vis X.env.scope x) (hd:(x == ("__debug__":Str))=false:=by decide) (d:(x == ("__classdict__":Str))=false:=by decide):PE X (.Name x pos) (uE i):=by
 intro pins s σ H Q I h
 obtain ⟨v,e,h⟩:=h
 obtain ⟨m,n,k⟩:=I.loc
 obtain ⟨u,r,l⟩:=k i x v j e g
 have fin:EP X pins σ Q u s:=⟨v,H,I,r,h⟩
 rcases l with ⟨b,hm⟩ | ⟨b,c,f,a⟩
 ·exact wpAny_Name (wpAny_loadName_local I.ok.kind b n hm fin) hd
 ·rcases b with b | b
  ·exact wpAny_Name (wpAny_loadName_cell I.ok.kind b f a fin) hd
  ·exact wpAny_Name (wpAny_loadName_free I.ok.kind b f a fin d) hd
theorem DQ:PE X (.Constant (.int i) j pos) (tC (.int i)):=fun _ _ _ H _ I h=>wpAny_Constant_int ⟨.int i,H,I.tok _,⟨_,rfl⟩,h⟩
theorem pe_bl:PE X (.Constant (.bool b) j pos) (tC (.bl b)):=fun _ _ _ H _ I h=>Constant_bool ⟨.bl b,H,I,rfl,h⟩
theorem DN:PE X (.Constant .none j pos) (tC .non):=fun _ _ _ H _ I h=>Constant_none ⟨.non,H,I,rfl,h⟩
def Gl (X:Cx) (x:Str):Prop:=X.env.kindOf x=some .globalImplicit
theorem tR (I:Inv X pins σ H s) (a:Gl X x) (hm:X.mg x=some u) (h:Q u s) (hd:(x == ("__debug__":Str))=false:=by decide):wpAny (model X.prog X.w) X.A (eval (.Name x pos) X.env) Q E s :=
 Calls.Name_function_global I.ok.kind a (Calls.loadGlobal_global (by rw [I.ok.glob];exact I.mod.glob.keeps I.bk) hm h) hd
theorem gg (I:Inv X pins σ H s) (a:Gl X x) (hm:X.mg x=none) (b:bootBuiltins x=some u) (h:Q u s) (c:x ≠ "__name__":=by decide) (hd:(x == ("__debug__":Str))=false:=by decide):wpAny (model X.prog X.w) X.A (eval (.Name x pos) X.env) Q E s:=by
 obtain ⟨mb,h1,h2⟩:=I.mod.blt
 exact Calls.Name_function_global I.ok.kind a (Calls.loadGlobal_builtin (by rw [I.ok.glob];exact I.mod.glob.keeps I.bk) hm (by rw [I.ok.blt];exact h1.keeps I.bk) ((h2 x c).trans b) h) hd
theorem AV (a:Gl X x) (hm:X.mg x=some u) (r:RelV v u) (hd:(x == ("__debug__":Str))=false:=by decide):PE X (.Name x pos) (tC v) :=
 fun _ _ _ H _ I h=>tR I a hm ⟨v,H,I,r,h⟩ hd
theorem nM (a:Gl X x) (hm:X.mg x=none) (b:bootBuiltins x=some u) (r:RelV v u) (c:x ≠ "__name__":=by decide) (hd:(x == ("__debug__":Str))=false:=by decide):PE X (.Name x pos) (tC v) :=
 fun _ _ _ H _ I h=>gg I a hm b ⟨v,H,I,r,h⟩ c hd
variable {a b:Expr} {ta tb:TE} {pos:Pos}
def PC (X:Cx) (op:CmpOp) (a b:Expr) (t:TE):Prop :=
 ∀ (pins:List (Addr × Obj)) (s:Shared) (σ:St) (H:Hp) (Q:VK),Inv X pins σ H s->t σ H Q ->
  wpAny (model X.prog X.w) X.A (eval a X.env) (fun v d=>wpAny (model X.prog X.w) X.A (eval b X.env) (fun u c=>wpAny (model X.prog X.w) X.A (compareOp op v u) (EP X pins σ Q) X.xe c) X.xe d) X.xe s
def tB (t:TE):TT:=fun σ H Q=>t σ H fun x H1=>∃ c,x=.bl c/\Q c H1
theorem DC (h:PE X e t) (he:∀ whole,isTrue e X.env whole=(do let v <- whole;standAt e.pos;holding [v] (truthy v)):=by intro _;rfl):PT X e (tB t):=by
 intro pins s σ H Q I hw
 refine isTrue_plain (thn (h pins s σ H _ I hw) fun v s1 ⟨x,H1,c,b,a⟩=>?_) (he _)
 obtain ⟨d,rfl,q⟩:=a
 cases b
 exact FM ⟨H1,c,q⟩
variable {tA tB':TT} {cQ:List Expr}
def tAnd (t u:TT):TT:=fun σ H Q=>t σ H fun c H1=>if c=true then u σ H1 Q else Q false H1
def tOr (t u:TT):TT:=fun σ H Q=>t σ H fun c H1=>if c=true then Q true H1 else u σ H1 Q
def tNot (t:TT):TT:=fun σ H Q=>t σ H fun c H1=>Q (!c) H1
theorem AE (b:PT X a tA):PW X (.BoolOp .And [a] pos) tA:=by
 intro d pins s σ H Q I h
 refine isTrue_and (thn (b pins s σ H Q I h) fun c s1 e=>?_)
 cases c with
 | true=>exact isTrue_and_nil e
 | false=>exact e
theorem Dz (b:PT X a tA):PW X (.BoolOp .Or [a] pos) tA:=by
 intro d pins s σ H Q I h
 refine isTrue_or (thn (b pins s σ H Q I h) fun c s1 e=>?_)
 cases c with
 | false=>exact isTrue_or_nil e
 | true=>exact e
theorem DA (f:PT X a tA) (g:PW X (.BoolOp .And (b :: cQ) pos) tB'):PW X (.BoolOp .And (a :: b :: cQ) pos) (tAnd tA tB'):=by
 intro i pins s σ H Q I h
 refine isTrue_and (thn (f pins s σ H _ I h) fun c s1 ⟨H1,e,d⟩=>?_)
 cases c with
 | true=>exact g i pins s1 σ H1 Q e d
 | false=>exact ⟨H1,e,d⟩
theorem pw_or (f:PT X a tA) (g:PW X (.BoolOp .Or (b :: cQ) pos) tB'):PW X (.BoolOp .Or (a :: b :: cQ) pos) (tOr tA tB'):=by
 intro i pins s σ H Q I h
 refine isTrue_or (thn (f pins s σ H _ I h) fun c s1 ⟨H1,e,d⟩=>?_)
 cases c with
 | true=>exact ⟨H1,e,d⟩
 | false=>exact g i pins s1 σ H1 Q e d
theorem DD (b:PT X a tA):PT X (.UnaryOp .Not a pos) (tNot tA):=by
 intro pins s σ H Q I h
 exact isTrue_not (b pins s σ H (fun c H1=>Q (!c) H1) I h)
def B6 (ta tb:TE):TE:=fun σ H Q=>ta σ H fun x H1=>∃ c,x=.bl c/\if c=true then tb σ H1 Q else Q (.bl false) H1
def B1 (ta:TE):TE:=fun σ H Q=>ta σ H fun x H1=>∃ c,x=.bl c/\Q (.bl (!c)) H1
theorem DL (h:PE X a t):PE X (.BoolOp op [a] pos) t:=fun pins s σ H Q I hw=>BoolOp_one (h pins s σ H Q I hw)
theorem DS (i:PE X a ta) (f:PE X (.BoolOp .And (b :: cQ) pos) tb):PE X (.BoolOp .And (a :: b :: cQ) pos) (B6 ta tb):=by
 intro pins s σ H Q I h
 refine BoolOp_and (thn (i pins s σ H _ I h) fun v s1 ⟨x,H1,e,g,d⟩=>?_)
 obtain ⟨c,rfl,d⟩:=d
 cases g
 refine FM ?_
 cases c with
 | true=>exact f pins s1 σ H1 Q e d
 | false=>exact ⟨.bl false,H1,e,rfl,d⟩
theorem DM (d:PE X a ta):PE X (.UnaryOp .Not a pos) (B1 ta):=by
 intro pins s σ H Q I h
 refine UnaryOp_ (thn (d pins s σ H _ I h) fun v s1 ⟨x,H1,f,e,b⟩=>?_)
 obtain ⟨c,rfl,b⟩:=b
 cases e
 exact not_of (FM ⟨.bl (!c),H1,f,rfl,b⟩)
def tIf (t:TT) (ta tb:TE):TE:=fun σ H Q=>t σ H fun c H1=>if c=true then ta σ H1 Q else tb σ H1 Q
theorem xP (j:PT X c tA) (g:PE X a ta) (i:PE X b tb):PE X (.IfExp c a b pos) (tIf tA ta tb):=by
 intro pins s σ H Q I h
 refine wpAny_IfExp (thn (j pins s σ H _ I h) fun d s1 ⟨H1,f,e⟩=>?_)
 cases d with
 | true=>exact g pins s1 σ H1 Q f e
 | false=>exact i pins s1 σ H1 Q f e
end
end L2
namespace L2
open PySem PySem.Spec PyProof.Rows
def SqL (K:FG) (H:Hp) (a:Addr) (xs:List V):Prop :=
 Rd H a (.lst xs) \/
  ∃ (o:Obj) (its:Array Value) (n:Nat),K.lookup a=some o/\o.cls=.type "list"/\o.dict=none/\o.data=.seq its n/\its.size<=sizeLine/\Vals xs its.toList
def SqT (K:FG) (H:Hp) (a:Addr) (xs:List V):Prop :=
 Rd H a (.tup xs) \/
  ∃ (o:Obj) (its:Array Value) (n:Nat),K.lookup a=some o/\o.cls=.type "tuple"/\o.data=.seq its n/\its.size<=sizeLine/\Vals xs its.toList
def absV:Value->Option V
 | .none=>some .non
 | .bool b=>some (.bl b)
 | .int i _=>some (.int i)
 | .str x _=>some (.str x)
 | .bytes b _=>some (.byt b)
 | .float b _=>some (.flt b)
 | .ref a=>some (.ref a)
 | .type n=>some (.ty n)
 | _=>none
theorem RelV.abs (r:RelV x u):absV u=some x:=by
 cases x with
 | non=>cases r;rfl
 | bl _=>cases r;rfl
 | int _=>obtain ⟨t,rfl⟩:=r;rfl
 | str _=>obtain ⟨t,rfl⟩:=r;rfl
 | byt _=>obtain ⟨t,rfl⟩:=r;rfl
 | flt _=>obtain ⟨t,rfl⟩:=r;rfl
 | ref _=>cases r;rfl
 | ty _=>cases r;rfl
theorem RelV.inj (r:RelV x u) (q:RelV y u):x=y:=FS (r.abs.symm.trans q.abs)
theorem Vals.inj:∀ {xs ys:List V} {us:List Value},Vals xs us->Vals ys us->xs=ys
 | _,_,_,.nil,.nil=>rfl
 | _,_,_,.cons r t,.cons r' t'=>by rw [r.inj r',Vals.inj t t']
section
variable {X:Cx} {pins:List (Addr × Obj)} {σ:St} {H:Hp} {s:Shared} {a:Addr} {xs ys:List V}
theorem SqL.of {K:FG} (h:H a=some (.lst xs)):SqL K H a xs:=.inl (.inl h)
theorem SqT.of {K:FG} (h:H a=some (.tup xs)):SqT K H a xs:=.inl (.inl h)
theorem Inv.list (I:Inv X pins σ H s) (h:SqL X.K H a xs):∃ its:List Value,Vals xs its/\PlainL s.heap a its.toArray/\xs.length<=sizeLine:=by
 rcases h with h | ⟨o,its,n,b,d,hd,c,hz,r⟩
 ·obtain ⟨z,its,n,r,e⟩:=h.ok I.hok
  exact ⟨its,r,⟨_,n,e,rfl,rfl,rfl⟩,z⟩
 ·refine ⟨its.toList,r,⟨o,n,I.kIn a o b,d,hd,by simpa using c⟩,?_⟩
  have e:=r.length
  simp only [Array.length_toList] at e
  lia
theorem Inv.tuple (I:Inv X pins σ H s) (h:SqT X.K H a xs):∃ its:List Value,Vals xs its/\IsTup s.heap a its.toArray/\xs.length<=sizeLine:=by
 rcases h with h | ⟨o,its,n,b,d,c,hz,r⟩
 ·obtain ⟨z,its,r,p⟩:=h.ok I.hok
  exact ⟨its,r,p.tup,z⟩
 ·refine ⟨its.toList,r,⟨o,I.kIn a o b,d,n,by simpa using c⟩,?_⟩
  have e:=r.length
  simp only [Array.length_toList] at e
  lia
theorem Inv.list_inj (I:Inv X pins σ H s) (h:SqL X.K H a xs) (h':SqL X.K H a ys):xs=ys:=by
 obtain ⟨its,r,⟨o,n,e,_,_,d⟩,_⟩:=I.list h
 obtain ⟨its',c,⟨o',f,b,_,_,d'⟩,_⟩:=I.list h'
 rw [e] at b;cases b
 rw [d] at d'
 injection d' with d1 _
 have:its=its':=by simpa using congrArg Array.toList d1
 subst this
 exact r.inj c
theorem Inv.tuple_inj (I:Inv X pins σ H s) (h:SqT X.K H a xs) (h':SqT X.K H a ys):xs=ys:=by
 obtain ⟨its,r,⟨o,e,_,n,d⟩,_⟩:=I.tuple h
 obtain ⟨its',c,⟨o',b,_,f,d'⟩,_⟩:=I.tuple h'
 rw [e] at b;cases b
 rw [d] at d'
 injection d' with d1 _
 have:its=its':=by simpa using congrArg Array.toList d1
 subst this
 exact r.inj c
end
abbrev Cx.wish (X:Cx) (E:Value->Shared->Prop):Cx:={ X with xe:=E }
abbrev Cx.nox (X:Cx):Cx:=X.wish fun _ _=>False
theorem Cx.Ok.wish {X:Cx} (ok:X.Ok) (E:Value->Shared->Prop):(X.wish E).Ok :=
 ⟨ok.mod,ok.kind,ok.glob,ok.blt,ok.above,ok.inj,ok.has,ok.cab,ok.hd,ok.frames,ok.stk,ok.exf,ok.bs,ok.bsz,ok.noex,ok.exfs,ok.funs,ok.frf⟩
theorem Cx.Ok.unwish {X:Cx} (ok:(X.wish E).Ok):X.Ok :=
 ⟨ok.mod,ok.kind,ok.glob,ok.blt,ok.above,ok.inj,ok.has,ok.cab,ok.hd,ok.frames,ok.stk,ok.exf,ok.bs,ok.bsz,ok.noex,ok.exfs,ok.funs,ok.frf⟩
section
variable {X:Cx} {pins:List (Addr × Obj)} {σ:St} {H:Hp} {s:Shared} {E:Value->Shared->Prop}
theorem Inv.wish (I:Inv X pins σ H s) (E:Value->Shared->Prop):Inv (X.wish E) pins σ H s:=⟨I.ok.wish E,I.os,I.bare,I.base,I.loc,I.cell,I.free,I.freeC,I.pin,I.hok,I.len⟩
theorem Inv.unwish (I:Inv (X.wish E) pins σ H s):Inv X pins σ H s:=⟨I.ok.unwish,I.os,I.bare,I.base,I.loc,I.cell,I.free,I.freeC,I.pin,I.hok,I.len⟩
set_option tactic.hygienic true in
theorem SP.unwish (h:SP (X.wish E) pins D f s'):SP X pins D f s':=by
 cases f with
 | next=>obtain ⟨σ',H',I,q⟩:=h;exact ⟨σ',H',I.unwish,q⟩
 | brk=>obtain ⟨σ',H',I,q⟩:=h;exact ⟨σ',H',I.unwish,q⟩
 | cont=>obtain ⟨σ',H',I,q⟩:=h;exact ⟨σ',H',I.unwish,q⟩
 | ret u=>obtain ⟨v,σ',H',I,r,q⟩:=h;exact ⟨v,σ',H',I.unwish,r,q⟩
theorem PSs.nox {st:List Stmt} (h:PSs X.nox st t):PSs X st t:=fun pins s σ H D I hw =>
 wpAny_mono (h pins s σ H D (I.wish _) hw) (fun _ _ q=>q.unwish) fun _ _ z=>False.elim z
end
section
variable {X:Cx} {st:Stmt} {cQ:List Stmt} {t u:TS} {e:Expr} {te:TE} {pos:Pos}
def B2:TS:=fun D σ H=>D.nx σ H
def tSeq (t u:TS):TS:=fun D σ H=>t { D with nx:=u D } σ H
theorem AL:PSs X [] B2:=fun _ _ σ H _ I h=>wpAny_execs_nil ⟨σ,H,I,h⟩
set_option tactic.hygienic true in
theorem xG (h1:PS X st t) (h2:PSs X cQ u):PSs X (st :: cQ) (tSeq t u):=by
 intro pins s σ H D I h
 refine wpAny_execs_cons (thn (h1 pins s σ H { D with nx:=u D } I h) fun f s1 q=>?_)
 cases f with
 | next =>
  obtain ⟨σ',H',a,q⟩:=q
  exact h2 pins s1 σ' H' D a q
 | ret v=>exact q
 | brk=>exact q
 | cont=>exact q
set_option tactic.hygienic true in
theorem AK (h1:PS X st t):PSs X [st] t:=by
 intro pins s σ H D I h
 refine wpAny_execs_cons (thn (h1 pins s σ H D I h) fun f s1 q=>?_)
 cases f with
 | next=>exact wpAny_execs_nil q
 | ret v=>exact q
 | brk=>exact q
 | cont=>exact q
theorem Inv.quiet (I:Inv X pins σ H s):interactive X.env=false:=by simp [interactive,I.ok.kind]
def B4 (te:TE):TS:=fun D σ H=>te σ H fun _ H1=>D.nx σ H1
theorem AM (he:PE X e te) (b:swapsWith e none pos.line X.env=pure false:=by rfl):PS X (.Expr e pos) (B4 te):=by
 intro pins s σ H D I h
 exact wpAny_Expr_any (thn (he pins s σ H _ I h) fun v s1 ⟨x,H1,c,d,a⟩=>⟨σ,H1,c,a⟩) I.quiet b
def tRet (te:TE):TS:=fun D σ H=>te σ H D.rt
theorem DF (he:PE X e te):PS X (.Return (some e) pos) (tRet te):=by
 intro pins s σ H D I h
 exact wpAny_Return_some (thn (he pins s σ H _ I h) fun v s1 ⟨x,H1,c,b,a⟩=>⟨x,σ,H1,c,b,a⟩)
def tIfS (c:TT) (t u:TS):TS:=fun D σ H=>c σ H fun b H1=>if b=true then t D σ H1 else u D σ H1
theorem ps_if (j:PT X c tc) (g:PSs X a t) (i:PSs X b u):PS X (.If c a b pos) (tIfS tc t u):=by
 intro pins s σ H D I h
 refine wpAny_If (thn (j pins s σ H _ I h) fun d s1 ⟨H1,f,e⟩=>?_)
 cases d with
 | true=>exact g pins s1 σ H1 D f e
 | false=>exact i pins s1 σ H1 D f e
def CP:TS:=fun _ _ _=>False
theorem xI:PS X st CP:=fun _ _ _ _ _ _ h=>h.elim
end
abbrev TG:=V->St->Hp->(St->Hp->Prop)->Prop
abbrev TGs:=List V->St->Hp->(St->Hp->Prop)->Prop
def PG (X:Cx) (target:Expr) (t:TG):Prop :=
 ∀ (pins:List (Addr × Obj)) (s:Shared) (σ:St) (H:Hp) (v:V) (u:Value) (Q:St->Hp->Prop),Inv X pins σ H s->RelV v u->t v σ H Q ->
  wpAny (model X.prog X.w) X.A (assign target X.env u) (fun _ s'=>∃ σ' H',Inv X pins σ' H' s'/\Q σ' H') X.xe s
def PGs (X:Cx) (ts:List Expr) (t:TGs):Prop :=
 ∀ (pins:List (Addr × Obj)) (s:Shared) (σ:St) (H:Hp) (a:List V) (us:List Value) (Q:St->Hp->Prop),Inv X pins σ H s->Vals a us->t a σ H Q ->
  wpAny (model X.prog X.w) X.A (assignInOrder ((assignEach ts X.env).map (·.2)) us) (fun _ s'=>∃ σ' H',Inv X pins σ' H' s'/\Q σ' H') X.xe s
abbrev E1:=V->V->V->Hp->(Hp->Prop)->Prop
def zG (X:Cx) (t:E1):Prop :=
 ∀ (pins:List (Addr × Obj)) (s:Shared) (σ:St) (H:Hp) (o i v:V) (b a u:Value) (Q:Hp->Prop),Inv X pins σ H s->RelV o b->RelV i a->RelV v u->t o i v H Q ->
  wpAny (model X.prog X.w) X.A (setItem b a u) (fun _ s'=>∃ H',Inv X pins σ H' s'/\Q H') X.xe s
section
variable {X:Cx} {pos:Pos}
def tZ (i:Nat):TG:=fun v σ H Q=>Q (σ.set i (some v)) H
theorem kC {i:Nat} (b:X.N.Nodup) (hi:X.N[i]?=some x) (c:Loc X.env.scope x) (hf:X.fn x=true\/X.env.scope.names.lookup x=some .local:=by first | exact .inl rfl | exact .inr rfl | assumption):PG X (.Name x pos) (tZ i):=by
 intro pins s σ H v u Q I r h
 exact wpAny_assign_Name (oT I b hi c r (fun s' a=>⟨_,H,a,h⟩) hf)
def gNil:TGs:=fun a σ H Q=>a=[]/\Q σ H
def Cu (t:TG) (u:TGs):TGs:=fun a σ H Q=>∃ v r,a=v :: r/\t v σ H fun σ' H'=>u r σ' H' Q
theorem tu:PGs X [] gNil:=by
 intro pins s σ H a us Q I r h
 obtain ⟨e,h⟩:=h
 subst e
 cases r
 exact assignInOrder_nil ⟨σ,H,I,h⟩
theorem k4 (h1:PG X e t) (h2:PGs X es u) (b:(assignEach (e :: es) X.env).map (·.2)=assign e X.env :: (assignEach es X.env).map (·.2):=by rfl):PGs X (e :: es) (Cu t u):=by
 intro pins s σ H d us Q I r h
 obtain ⟨v,f,e1,h⟩:=h
 subst e1
 cases r with
 | cons r rr =>
  rw [b]
  refine assignInOrder_cons (thn (h1 pins s σ H _ _ _ I r h) fun _ s1 ⟨σ1,H1,c,a⟩=>?_)
  exact h2 pins s1 σ1 H1 _ _ Q c rr a
def gTup (K:FG) (n:Nat) (t:TGs):TG:=fun v σ H Q=>∃ a xs,v=.ref a/\SqT K H a xs/\xs.length=n/\t xs σ H Q
theorem xN {k:Nat} {n:Nat} (j:X.calm=true) (h:PGs X es t) (l:(assignEach es X.env).length=n:=by rfl) (c:(assignEach es X.env).findIdx? (·.1)=none:=by rfl):PG X (.Tuple es k pos) (gTup X.K n t):=by
 intro pins s σ H v u Q I r hw
 obtain ⟨a,xs,e1,p,i,hw⟩:=hw
 subst e1
 cases r
 obtain ⟨its,d,f,hz⟩:=I.tuple p
 refine assign_Tuple_tuple (I.ok.hd j) f (by simp [l,<- i,d.length]) c fun h' g=>?_
 have m:Inv X pins σ H { s with heap:=h' }:=I.kept (t':=s.toks) fun b o e=>g b o (Fs (Fe e)) e
 exact h pins _ σ H xs _ Q m (by simpa using d) hw
def gSub (to b:TE) (t:E1):TG:=fun v σ H Q=>to σ H fun o H1=>b σ H1 fun i H2=>t o i v H2 fun a=>Q σ a
theorem DJ (m:PE X o to) (hi:PE X i ti) (p:zG X t) (k:∀ v,assign (.Subscript o i pos) X.env v=(do
   let a <- holding [v] (eval o X.env)
   let b <- holding [v,a] (eval i X.env)
   standAt pos
   holding [v,a,b] (setItem a b v)
   release [v,a,b] []):=by intro _;rfl):PG X (.Subscript o i pos) (gSub to ti t):=by
 intro pins s σ H v u Q I r h
 rw [k]
 refine E3 (E5 (thn (m pins s σ H _ I h) fun a s1 ⟨x,H1,q,g,c⟩=>?_))
 refine E3 (E5 (thn (hi pins s1 σ H1 _ q c) fun b s2 ⟨y,H2,n,d,l⟩=>?_))
 refine E3 (wpAny_standAt (E3 (E5 (thn (p pins s2 σ H2 x y v a b u _ n g d r l) fun _ s3 ⟨e,j,f⟩=>?_))))
 exact wpAny_release ⟨σ,e,j,f⟩
def wB (te:TE) (g:TG):TS:=fun D σ H=>te σ H fun x H1=>g x σ H1 D.nx
theorem xJ (he:PE X e te) (b:PG X tg g) (d:swapsWithSole [tg] e pos.line X.env=pure false:=by rfl) (hw:swappedStores [tg] e X.env=pure none:=by rfl) (h1:(assignEach [tg] X.env).map (·.2)=[assign tg X.env]:=by rfl):PS X (.Assign [tg] e pos) (wB te g):=by
 intro pins s σ H D I h
 refine wpAny_Assign_stores (thn (he pins s σ H _ I h) fun v s1 ⟨x,H1,f,c,a⟩=>?_) d hw
 rw [h1]
 exact thn (b pins s1 σ H1 x v _ f c a) fun _ s2 q=>q
theorem DE {i:Nat} (c:X.N.Nodup) (hi:X.N[i]?=some x) (d:Loc X.env.scope x) (he:PE X e te) (g:swapsWith e (some (.Name x pos')) pos.line X.env=pure false:=by rfl) (hf:X.fn x=true\/X.env.scope.names.lookup x=some .local:=by first | exact .inl rfl | exact .inr rfl | assumption) :
  PS X (.Assign [.Name x pos'] e pos) (wB te (tZ i)):=by
 intro pins s σ H D I h
 refine wpAny_Assign_Name (thn (he pins s σ H _ I h) fun v s1 ⟨y,H1,j,b,a⟩=>?_) g
 exact oT j c hi d b (fun s2 f=>⟨_,H1,f,a⟩) hf
end
section
variable {X:Cx} {pos:Pos}
def wx (c:TT) (tb:TS):TS:=fun D σ H=>∃ W:Nat->St->Hp->Prop,(∃ m,W m σ H)/\∀ m σ H,W m σ H ->
 c σ H fun b H1=>if b=true then ∃ N:St->Hp->Prop,(∀ σ' H',N σ' H'->∃ a,a < m/\W a σ' H')/\tb { D with nx:=N,ct:=N,bk:=D.nx } σ H1 else D.nx σ H1
set_option tactic.hygienic true in
theorem xH (m:PassesOwn (model X.prog X.w) X.A X.env X.xe) (r:PT X c tc) (p:PSs X body tb):PS X (.While c body [] pos) (wx tc tb):=by
 intro pins s σ H D I h
 obtain ⟨W,⟨m0,q⟩,turn⟩:=h
 refine wpAny_While (codeAny_whileLoop (fun n s'=>∃ σ' H',Inv X pins σ' H' s'/\W n σ' H') ?_ m0 ⟨σ,H,I,q⟩)
 rintro n s1 ⟨σ1,H1,t,u⟩
 refine wpAny_passesOwn m (thn (r pins s1 σ1 H1 _ t (turn n σ1 H1 u)) fun b s2 ⟨H2,l,e⟩=>?_)
 cases b with
 | true =>
  obtain ⟨N,o,e⟩:=e
  rw [if_pos rfl]
  refine wpAny_passesOwn m (thn (p pins s2 σ1 H2 _ l e) fun f s3 d=>?_)
  cases f with
  | next =>
   obtain ⟨σ3,a,j,g⟩:=d
   obtain ⟨i,hm,k⟩:=o σ3 a g
   exact ⟨i,hm,σ3,a,j,k⟩
  | cont =>
   obtain ⟨σ3,a,j,g⟩:=d
   obtain ⟨i,hm,k⟩:=o σ3 a g
   exact ⟨i,hm,σ3,a,j,k⟩
  | brk=>exact d
  | ret v=>exact d
 | false =>
  rw [if_neg Fr]
  exact wpAny_execs_nil ⟨σ1,H2,l,e⟩
end
structure It where
 go:Nat->Hp->Prop
 yld:Nat->Hp->V->Hp->Prop
 stop:Nat->Hp->Prop
def FpOk (X:Cx) (pins:List (Addr × Obj)) (H:Hp) (b:Addr):Prop :=
 H b=none/\b ≠ X.env.locals/\b ∉ X.fs/\(b ∈ X.ex\/X.s₀.heap.objs.size<=b)/\(∀ x c,X.env.cells.lookup x=some c->c ≠ b)/\∀ p ∈ X.pn ++ pins,p.1 ≠ b
theorem Inv.fpOk (I:Inv X pins σ H s) (a:s.heap.objs.size<=b) (f:H' b=none):FpOk X pins H' b:=by
 refine ⟨f,Nat.ne_of_gt (Fy I.lt a),I.nofs a,.inr (FN I.sz a),fun x c e z=>?_,fun p d z=>?_⟩
 ·obtain ⟨v,q⟩:=I.cell x c e
  exact absurd (Fy q.lt (by rw [z];exact a)) (Nat.lt_irrefl _)
 ·exact absurd (Fy (Fe (I.pin p d).1) (by rw [z];exact a)) (Nat.lt_irrefl _)
structure Turn (P:Program) (w:World) (K:FG) (tg:Expr) (J:It) (fp:List Addr) (it:Addr) (tn:Nat->Heap->Prop):Prop where
 mem:it ∈ fp
 obj:∀ i h,tn i h->∀ b ∈ fp,∃ o,h.get? b=some o/\∀ v,o.data ≠ .cell v
 keep:∀ i h h',tn i h->(∀ b ∈ fp,∀ o,h.get? b=some o->h'.get? b=some o)->tn i h'
 item:∀ (X:Cx),X.prog=P->X.w=w->X.K=K->X.calm=true->∀ (i:Nat) (pins:List (Addr × Obj)) (s:Shared) (σ:St) (H:Hp) (E:Value->Shared->Prop),Inv X pins σ H s->(∀ b ∈ fp,FpOk X pins H b)->tn i s.heap->J.go i H ->
  wpAny (model P w) X.A (pyNext (.ref it)) (fun r s1=>∃ u,r=some u /\
   wpAny (model P w) X.A (letOwnedTupleGo tg (.ref it) u) (fun _ s2=>∃ x H',Inv X pins σ H' s2/\RelV x u/\J.yld i H x H'/\tn (i+1) s2.heap/\∀ b ∈ fp,H' b=none) E s1) E s
 done:∀ (X:Cx),X.prog=P->X.w=w->X.K=K->X.calm=true->∀ (i:Nat) (pins:List (Addr × Obj)) (s:Shared) (σ:St) (H:Hp) (E:Value->Shared->Prop),Inv X pins σ H s->(∀ b ∈ fp,FpOk X pins H b)->tn i s.heap->J.stop i H ->
  wpAny (model P w) X.A (pyNext (.ref it)) (fun r s1=>r=none/\Inv X pins σ H s1) E s
 self:∀ (A:Around) (i:Nat) (s:Shared) (Q:Value->Shared->Prop) (E:Value->Shared->Prop),tn i s.heap->Q (.ref it) s->wpAny (model P w) A (pyIter (.ref it)) Q E s
abbrev TI:=St->Hp->(It->Hp->Prop)->Prop
def PIE (X:Cx) (pins:List (Addr × Obj)) (σ:St) (tg:Expr) (R:It->Hp->Prop) (a:Value) (s2:Shared):Prop :=
 ∃ (it:Addr) (fp:List Addr) (c:Nat->Heap->Prop) (J:It) (H':Hp),a=.ref it/\Inv X pins σ H' s2/\Turn X.prog X.w X.K tg J fp it c/\c 0 s2.heap/\(∀ b ∈ fp,FpOk X pins H' b)/\R J H'
def PI (X:Cx) (tg iter:Expr) (a:TI):Prop :=
 ∀ (pins:List (Addr × Obj)) (s:Shared) (σ:St) (H:Hp) (R:It->Hp->Prop),Inv X pins σ H s->a σ H R ->
  wpAny (model X.prog X.w) X.A (eval iter X.env) (fun v s1=>wpAny (model X.prog X.w) X.A (pyIter v) (PIE X pins σ tg R) X.xe s1) X.xe s
theorem qa (c : s.heap.get? it = some o) (b : o.cls = .type n) (hd : o.data = .fields vs) (d : ["enumerate", "zip", "dict_itemiterator", "dict_reverseitemiterator", "odict_iterator", "itertools.zip_longest", "itertools.pairwise"].contains n = false) (a : Q () s) : wpAny M A (letOwnedTupleGo tg (.ref it) u) Q E s := by
  unfold letOwnedTupleGo
  cases tg <;> first
    | exact E4 a
    | (cases u <;> first
        | exact E4 a
        | (refine E3 (wpAny_load c ?_)
           rw [b, hd]
           show wpAny M A (if (["enumerate", "zip", "dict_itemiterator", "dict_reverseitemiterator", "odict_iterator", "itertools.zip_longest", "itertools.pairwise"].contains n && vs[0]? == some (rawInt _)) = true then _ else _) Q E s
           rw [if_neg (by intro h; rw [d, Bool.false_and] at h; cases h)]
           exact E4 a))
def Itl (K:FG) (a:Addr):It :=
 ⟨fun i H=>∃ xs x,SqL K H a xs/\xs[i]?=some x,fun i H x H'=>H'=H/\∀ xs,SqL K H a xs->xs[i]?=some x,fun i H=>∃ xs,SqL K H a xs/\xs.length<=i⟩
def Itt (K:FG) (a:Addr):It :=
 ⟨fun i H=>∃ xs x,SqT K H a xs/\xs[i]?=some x,fun i H x H'=>H'=H/\∀ xs,SqT K H a xs->xs[i]?=some x,fun i H=>∃ xs,SqT K H a xs/\xs.length<=i⟩
def Itr (lo:Int) (n:Nat):It:=⟨fun i _=>i < n,fun i H x H'=>H'=H/\x=.int (lo+i),fun i _=>n<=i⟩
theorem uz {P:Program} {w:World} {K:FG} {tg:Expr} (a it:Addr):Turn P w K tg (Itl K a) [it] it (fun i h=>h.IsListIter it a i) where
 mem:=by simp
 obj:=fun i h st b f=>by
  have e:b=it:=by simpa using f
  subst e
  obtain ⟨o,e,c,d⟩:=st
  exact ⟨o,e,fun v z=>by rw [d] at z;cases z⟩
 keep:=fun i h h' st k=>st.at fun o e=>k it (by simp) o e
 item:=by
  intro X m hw q A i pins s σ H E I hf st r
  subst m hw q
  obtain ⟨xs,x,j,y⟩:=r
  obtain ⟨its,n,p,hz⟩:=I.list j
  obtain ⟨u,hu,B⟩:=n.get y
  obtain ⟨f0,f1,f2,l,f4,t⟩:=hf it (by simp)
  refine wpAny_pyNext_list_item st p.isList (x:=u) (by simpa using hu) fun h' g sb=>?_
  have F:Inv X pins σ H { s with heap:=h' }:=I.turned (t':=s.toks) (fun b o f e=>(sb.2 b f).trans e) f0 f1 l f4 t
  obtain ⟨o,e,c,d⟩:=id g
  exact ⟨u,rfl,qa (s:={ s with heap:=h' }) e c d (by decide) ⟨x,H,F,B,⟨rfl,fun ys C=>by rw [I.list_inj C j];exact y⟩,g,fun b f=>(hf b f).1⟩⟩
 done:=by
  intro X m hw q A i pins s σ H E I hf st r
  subst m hw q
  obtain ⟨xs,j,y⟩:=r
  obtain ⟨its,n,p,hz⟩:=I.list j
  obtain ⟨f0,f1,f2,l,f4,t⟩:=hf it (by simp)
  have G:=n.length
  exact wpAny_pyNext_list_end (I.ok.hd A) st p.isList (by simp;omega) fun h' D=>⟨rfl,I.turned (t':=s.toks) (fun b o f e=>D b o f e) f0 f1 l f4 t⟩
 self:=fun _ _ _ _ _ st h=>wpAny_pyIter_listiter st h
theorem qC {P:Program} {w:World} {K:FG} {tg:Expr} (a it:Addr):Turn P w K tg (Itt K a) [it] it (fun i h=>h.IsTupleIter it a i) where
 mem:=by simp
 obj:=fun i h st b f=>by
  have e:b=it:=by simpa using f
  subst e
  obtain ⟨o,e,c,d⟩:=st
  exact ⟨o,e,fun v z=>by rw [d] at z;cases z⟩
 keep:=fun i h h' st k=>st.at fun o e=>k it (by simp) o e
 item:=by
  intro X m hw q A i pins s σ H E I hf st r
  subst m hw q
  obtain ⟨xs,x,j,y⟩:=r
  obtain ⟨its,n,p,hz⟩:=I.tuple j
  obtain ⟨u,hu,B⟩:=n.get y
  obtain ⟨f0,f1,f2,l,f4,t⟩:=hf it (by simp)
  refine wpAny_pyNext_tuple_item st (show s.heap.IsTuple a its.toArray from p) (x:=u) (by simpa using hu) fun h' g sb=>?_
  have F:Inv X pins σ H { s with heap:=h' }:=I.turned (t':=s.toks) (fun b o f e=>(sb.2 b f).trans e) f0 f1 l f4 t
  obtain ⟨o,e,c,d⟩:=id g
  exact ⟨u,rfl,qa (s:={ s with heap:=h' }) e c d (by decide) ⟨x,H,F,B,⟨rfl,fun ys C=>by rw [I.tuple_inj C j];exact y⟩,g,fun b f=>(hf b f).1⟩⟩
 done:=by
  intro X m hw q A i pins s σ H E I hf st r
  subst m hw q
  obtain ⟨xs,j,y⟩:=r
  obtain ⟨its,n,p,hz⟩:=I.tuple j
  obtain ⟨f0,f1,f2,l,f4,t⟩:=hf it (by simp)
  have G:=n.length
  exact wpAny_pyNext_tuple_end (I.ok.hd A) st (show s.heap.IsTuple a its.toArray from p) (by simp;omega) fun h' D=>⟨rfl,I.turned (t':=s.toks) (fun b o f e=>D b o f e) f0 f1 l f4 t⟩
 self:=fun _ _ _ _ _ st h=>wpAny_pyIter_tupleiter st h
theorem qD {P:Program} {w:World} {K:FG} {tg:Expr} (it:Addr) (lo:Int) (n:Nat):Turn P w K tg (Itr lo n) [it] it (fun i h=>IsRangeIter h it (lo+(i:Nat) * 1) ((n:Int) - (i:Nat)) 1) where
 mem:=by simp
 obj:=fun i h st b a=>by
  have e:b=it:=by simpa using a
  subst e
  exact ⟨_,st,fun v z=>by
   have p:Data.fields _=Data.cell v:=z
   cases p⟩
 keep:=fun i h h' st k=>k it (by simp) _ st
 item:=by
  intro X f hw g j i pins s σ H E I hf st l
  subst f hw g
  obtain ⟨f0,f1,f2,d,f4,m⟩:=hf it (by simp)
  have W:=Walks.range (prog:=X.prog) (w:=X.w) (I.ok.hd j) it lo 1 n
  refine W.item i s _ _ l st fun v h' tk r c q=>?_
  obtain ⟨t,rfl⟩:=r
  have x:Inv X pins σ H { s with heap:=h',toks:=tk }:=I.turned (fun b o a e=>q b o (by simpa using a) e) f0 f1 d f4 m
  refine ⟨_,rfl,qa (s:={ s with heap:=h',toks:=tk }) (n:="range_iterator") c rfl rfl (by decide) ⟨.int (lo+i),H,x,⟨t,?_⟩,⟨rfl,rfl⟩,c,fun b a=>(hf b a).1⟩⟩
  rw [Int.mul_one]
 done:=by
  intro X f hw g j i pins s σ H E I hf st l
  subst f hw g
  obtain ⟨f0,f1,f2,d,f4,m⟩:=hf it (by simp)
  exact wpAny_pyNext_range_end (I.ok.hd j) st (by have:n<=i:=l;lia) fun h' u=>⟨rfl,I.turned (t':=s.toks) (fun b o a e=>u b o a e) f0 f1 d f4 m⟩
 self:=fun _ _ _ _ _ st h=>wpAny_pyIter_rangeiter st h
end L2
namespace L2
open PySem PySem.Spec PyProof.Rows
section
variable {X:Cx} {tg:Expr}
theorem pv {lo hi:Int} {tk:Nat} (I:Inv X pins σ H s) (h1:-(2 ^ 62)<=lo) (h2:lo < 2 ^ 62) (h3:-(2 ^ 62)<=hi) (d:hi < 2 ^ 62) (q:R (Itr lo (hi - lo).toNat) H):wpAny (model X.prog X.w) X.A (pyIter (.ref s.heap.objs.size)) (PIE X pins σ tg R) E { s with heap:=s.heap.push { cls:=.type "range",data:=.fields #[.int lo t,.int hi u,.int 1 v] },toks:=tk }:=by
 refine wpAny_pyIter_range (IsRange.new ..) (small_one h1 h2 h3 d) ?_
 have a:Inv X pins σ H { s with heap:=s.heap.push { cls:=.type "range",data:=.fields #[.int lo t,.int hi u,.int 1 v] },toks:=tk }:=I.kept fun b o e=>E8 _ e
 refine ⟨(s.heap.push { cls:=.type "range",data:=.fields #[.int lo t,.int hi u,.int 1 v] }).objs.size,[(s.heap.push { cls:=.type "range",data:=.fields #[.int lo t,.int hi u,.int 1 v] }).objs.size],_,_,H,rfl,
  a.kept (t':=tk) fun b o e=>E8 _ e,qD _ lo (hi - lo).toNat,?_,fun b c=>?_,q⟩
 ·have e1:lo+((0:Nat):Int) * 1=lo:=by simp
  have f:(((hi - lo).toNat:Nat):Int) - ((0:Nat):Int)=Builtin.Range.rangeSize lo hi 1:=by rw [rangeSize_one];split <;> omega
  show IsRangeIter _ _ (lo+((0:Nat):Int) * 1) ((((hi - lo).toNat:Nat):Int) - ((0:Nat):Int)) 1
  rw [e1,f]
  exact Fg _ rfl
 ·have e:b=(s.heap.push { cls:=.type "range",data:=.fields #[.int lo t,.int hi u,.int 1 v] }).objs.size:=by simpa using c
  subst e
  exact a.fpOk (Fq _) (a.hok.fresh (Fq _))
def Cr (ta:TA):TI:=fun σ H R=>ta σ H fun a H1=>∃ j:Int,a=[.int j]/\-(2 ^ 62)<=j/\j < 2 ^ 62/\R (Itr 0 j.toNat) H1
def Cq (ta:TA):TI:=fun σ H R=>ta σ H fun a H1=>∃ i j:Int,a=[.int i,.int j]/\(-(2 ^ 62)<=i/\i < 2 ^ 62/\-(2 ^ 62)<=j/\j < 2 ^ 62)/\R (Itr i (j - i).toNat) H1
theorem u3 (c:Gl X "range") (hm:X.mg "range"=none) (f:PA X [a] ta) (i:starEach [a] X.env=[(false,eval a X.env)]:=by rfl):PI X tg (.Call (.Name "range" p) [a] [] pos) (Cr ta):=by
 intro pins s σ H R I h
 refine Call_ (gg I c hm boot_range (PyProof.Rows.callWith_type1 (thn (f pos pins s σ H _ I h) fun us s1 ⟨l,H1,k,d,b⟩=>?_) i rfl))
 obtain ⟨j,e,b,g,q⟩:=b
 subst e
 cases d with
 | cons r rr =>
  cases rr
  obtain ⟨t,rfl⟩:=r
  exact call_range_1 (pv k (by omega) (by omega) b g (by simpa using q))
theorem uZ (g:Gl X "range") (hm:X.mg "range"=none) (m:PA X [a,b] ta) (o:starEach [a,b] X.env=[(false,eval a X.env),(false,eval b X.env)]:=by rfl) (c:starEach [b] X.env=[(false,eval b X.env)]:=by rfl) :
  PI X tg (.Call (.Name "range" p) [a,b] [] pos) (Cq ta):=by
 intro pins s σ H R I h
 refine Call_ (gg I g hm boot_range (PyProof.Rows.callWith_type1 (thn (m pos pins s σ H _ I h) fun us s1 ⟨v,H1,u,l,d⟩=>?_) (by rw [o,c]) (by rw [c];rfl)))
 obtain ⟨i,j,e,⟨d,n,k,f⟩,q⟩:=d
 subst e
 cases l with
 | cons r rr =>
  cases rr with
  | cons r' rr =>
   cases rr
   obtain ⟨t,rfl⟩:=r
   obtain ⟨t',rfl⟩:=r'
   exact call_range_2 (pv u d n k f q)
def tFor (b:TI) (g:TG) (tb:TS):TS:=fun D σ H=>b σ H fun J H1=>∃ W:Nat->Nat->St->Hp->Prop,(∃ m,W 0 m σ H1)/\∀ i m σ H,W i m σ H ->
 (J.stop i H/\D.nx σ H)\/(J.go i H/\∃ N:St->Hp->Prop,(∀ σ' H',N σ' H'->∃ a,a < m/\W (i+1) a σ' H')/\∀ x H',J.yld i H x H'->g x σ H' fun σ2 H2=>tb { D with nx:=N,ct:=N,bk:=D.nx } σ2 H2)
def kZ (fp:List Addr) (h:Heap):List (Addr × Obj):=fp.filterMap fun b=>(h.get? b).map fun o=>(b,o)
theorem fj (a:b ∈ fp) (e:h.get? b=some o):(b,o) ∈ kZ fp h:=List.mem_filterMap.mpr ⟨b,a,by rw [e];rfl⟩
theorem u7 (c:p ∈ kZ fp h):p.1 ∈ fp/\h.get? p.1=some p.2:=by
 obtain ⟨b,d,e⟩:=List.mem_filterMap.mp c
 cases q:h.get? b with
 | none=>rw [q] at e;cases e
 | some o =>
  rw [q] at e
  have a:(b,o)=p:=FS e
  subst a
  exact ⟨d,q⟩
theorem Inv.pinned (I:Inv X pins σ H s) (hf:∀ b ∈ fp,FpOk X pins H b) (g:∀ b ∈ fp,∃ o,s.heap.get? b=some o/\∀ v,o.data ≠ .cell v):Inv X (pins ++ kZ fp s.heap) σ H s :=
 I.pins_of fun p f=>(Ff.mp f).elim (fun z=>I.pin p (Fb _ z)) fun z=>by
  obtain ⟨c,e⟩:=u7 z
  obtain ⟨f0,f1,f2,_⟩:=hf p.1 c
  obtain ⟨o,a,d⟩:=g p.1 c
  rw [e] at a;cases a
  exact ⟨e,f0,f1,f2,d⟩
theorem Inv.unpinned (I:Inv X (pins ++ pl) σ H s):Inv X pins σ H s:=I.pins_of fun p a=>I.pin p (Fb _ (Fa _ a))
set_option tactic.hygienic true in
theorem DG (y:PassesOwn (model X.prog X.w) X.A X.env X.xe) (O:X.calm=true) (hi:PI X tg iter wi) (hg:PG X tg g) (j:PSs X body tb) (hs:∀ x,foldedSetIterable iter X.env x=pure x:=by intro _;rfl):PS X (.For tg iter body [] pos) (tFor wi g tb):=by
 intro pins s σ H D I h
 refine wpAny_For (thn (hi pins s σ H _ I h) fun v s1 h1=>thn h1 fun Q s2 h2=>?_) hs
 obtain ⟨it,fp,M,J,H2,e,Z,T,E,f2,W,⟨m0,U⟩,turn⟩:=h2
 subst e
 have k:∀ {H':Hp},(∀ b ∈ fp,H' b=none)->∀ b ∈ fp,FpOk X pins H' b:=fun hn b j=>⟨hn b j,(f2 b j).2⟩
 refine codeAny_forLoop_any (fun n s'=>∃ i σ' H',Inv X pins σ' H' s'/\M i s'.heap/\(∀ b ∈ fp,H' b=none)/\W i n σ' H') ?_ m0 ⟨0,σ,H2,Z,E,fun b j=>(f2 b j).1,U⟩
 rintro n s3 ⟨i,σ3,B,P,z,t,w3⟩
 rcases turn i n σ3 B w3 with ⟨stop,qn⟩ | ⟨go,N,hN,step⟩
 ·refine wpAny_passesOwn y (thn (T.done X rfl rfl rfl O i pins s3 σ3 B X.xe P (k t) z stop) fun r s4 ⟨C,I4⟩=>?_)
  subst C
  exact wpAny_execs_nil ⟨σ3,B,I4,qn⟩
 ·refine wpAny_passesOwn y (thn (T.item X rfl rfl rfl O i pins s3 σ3 B X.xe P (k t) z go) fun r s4 ⟨u,C,h4⟩=>?_)
  subst C
  refine wpAny_passesOwn y (thn h4 fun _ s5 ⟨x,L,V,r5,Y,p,K⟩=>?_)
  have G:=V.pinned (k K) (T.obj _ _ p)
  refine wpAny_passesOwn y (thn (hg _ s5 σ3 L x u _ G r5 (step x L Y)) fun _ s6 ⟨σ6,H6,R,S⟩=>?_)
  refine wpAny_passesOwn y (thn (j _ s6 σ6 H6 _ R S) fun f F l=>?_)
  have again:∀ {σ7:St} {c:Hp},Inv X (pins ++ kZ fp s5.heap) σ7 c F->N σ7 c->∃ m,m < n/\∃ i σ' H',Inv X pins σ' H' F/\M i F.heap/\(∀ b ∈ fp,H' b=none)/\W i m σ' H':=fun {σ7 c} a q=>by
   obtain ⟨m',hm,w7⟩:=hN σ7 c q
   refine ⟨m',hm,i+1,σ7,c,a.unpinned,T.keep _ _ _ p fun b j o e=>(a.pin (b,o) (Fb _ (Fb _ (fj j e)))).1,fun b j=>?_,w7⟩
   obtain ⟨o,e,d⟩:=T.obj _ _ p b j
   exact (a.pin (b,o) (Fb _ (Fb _ (fj j e)))).2.1
  cases f with
  | next=>obtain ⟨σ7,c,a,q⟩:=l;exact again a q
  | cont=>obtain ⟨σ7,c,a,q⟩:=l;exact again a q
  | brk=>obtain ⟨σ7,c,a,l⟩:=l;exact ⟨σ7,c,a.unpinned,l⟩
  | ret v=>obtain ⟨x7,σ7,c,a,r7,l⟩:=l;exact ⟨x7,σ7,c,a.unpinned,r7,l⟩
end
end L2
namespace L2
open PySem PySem.Spec PyProof.Rows
abbrev R2:=V->V->Hp->VK->Prop
def OpR (X:Cx) (f:Value->Value->Sem Value) (r:R2):Prop :=
 ∀ (pins:List (Addr × Obj)) (s:Shared) (σ:St) (H:Hp) (x y:V) (v u:Value) (Q:VK),Inv X pins σ H s->RelV x v->RelV y u->r x y H Q ->
  wpAny (model X.prog X.w) X.A (f v u) (EP X pins σ Q) X.xe s
def UnR (X:Cx) (f:Value->Sem Value) (r:V->Hp->VK->Prop):Prop :=
 ∀ (pins:List (Addr × Obj)) (s:Shared) (σ:St) (H:Hp) (x:V) (v:Value) (Q:VK),Inv X pins σ H s->RelV x v->r x H Q ->
  wpAny (model X.prog X.w) X.A (f v) (EP X pins σ Q) X.xe s
def CallR (X:Cx) (f:Value) (r:List V->Hp->VK->Prop):Prop :=
 ∀ (pins:List (Addr × Obj)) (s:Shared) (σ:St) (H:Hp) (xs:List V) (us:List Value) (Q:VK),Inv X pins σ H s->Vals xs us->r xs H Q ->
  wpAny (model X.prog X.w) X.A (call f us) (EP X pins σ Q) X.xe s
def tOp (r:R2) (ta tb:TE):TE:=fun σ H Q=>ta σ H fun x H1=>tb σ H1 fun y H2=>r x y H2 Q
def tUn (r:V->Hp->VK->Prop) (ta:TE):TE:=fun σ H Q=>ta σ H fun x H1=>r x H1 Q
def rI (C:Int->Int->Prop) (g:Int->Int->V):R2:=fun x y H Q=>∃ i j,x=.int i/\y=.int j/\C i j/\Q (g i j) H
def rI0 (g:Int->Int->V):R2:=fun x y H Q=>∃ i j,x=.int i/\y=.int j/\Q (g i j) H
def rU (g:Int->V):V->Hp->VK->Prop:=fun x H Q=>∃ i,x=.int i/\Q (g i) H
section
variable {X:Cx} {a b c:Expr} {ta tb tc:TE} {pos:Pos}
theorem ER (j:PE X a ta) (e:PE X b tb) {R:V->V->Hp->Prop} (I:Inv X pins σ H s) (h:ta σ H fun x H1=>tb σ H1 fun y H2=>R x y H2) {f:Value->Value->Sem Value} (hf:∀ v u s2 x y H2,Inv X pins σ H2 s2->RelV x v->RelV y u->R x y H2->wpAny (model X.prog X.w) X.A (f v u) Q X.xe s2) :
  wpAny (model X.prog X.w) X.A (eval a X.env) (fun v i=>wpAny (model X.prog X.w) X.A (eval b X.env) (fun u m=>wpAny (model X.prog X.w) X.A (f v u) Q X.xe m) X.xe i) X.xe s:=by
 refine thn (j pins s σ H _ I h) fun v s1 ⟨x,H1,n,g,c⟩=>?_
 refine thn (e pins s1 σ H1 _ n c) fun u s2 ⟨y,H2,l,d,k⟩=>?_
 exact hf v u s2 x y H2 l g d k
theorem pe_op (g:OpR X (binaryOp op) r) (f:PE X a ta) (d:PE X b tb):PE X (.BinOp a op b pos) (tOp r ta tb):=by
 intro pins s σ H Q I h
 exact wpAny_BinOp (ER f d I h fun v u s2 x y H2 i c e q=>g pins s2 σ H2 x y v u Q i c e q)
theorem pe_un (d:UnR X (unaryOp op) r) (b:PE X a ta):PE X (.UnaryOp op a pos) (tUn r ta):=by
 intro pins s σ H Q I h
 exact UnaryOp_ (thn (b pins s σ H _ I h) fun v s1 ⟨x,H1,f,e,c⟩=>d pins s1 σ H1 x v Q f e c)
theorem opI {g:Int->Int->Int} (rule:∀ (i j:Int) (t u:Tok) (s:Shared) (Q:Value->Shared->Prop) (E:Value->Shared->Prop),C i j->Q (.int (g i j) s.toks) { s with toks:=s.toks+1 }->wpAny (model X.prog X.w) X.A (f (.int i t) (.int j u)) Q E s) :
  OpR X f (rI C fun i j=>.int (g i j)):=by
 intro pins s σ H x y v u Q I a b h
 obtain ⟨i,j,rfl,rfl,c,q⟩:=h
 obtain ⟨t,rfl⟩:=a
 obtain ⟨t',rfl⟩:=b
 exact rule i j t t' s _ _ c ⟨.int (g i j),H,I.tok _,⟨_,rfl⟩,q⟩
theorem opI0 {g:Int->Int->Int} (rule:∀ (i j:Int) (t u:Tok) (s:Shared) (Q:Value->Shared->Prop) (E:Value->Shared->Prop),Q (.int (g i j) s.toks) { s with toks:=s.toks+1 }->wpAny (model X.prog X.w) X.A (f (.int i t) (.int j u)) Q E s) :
  OpR X f (rI0 fun i j=>.int (g i j)):=by
 intro pins s σ H x y v u Q I a b h
 obtain ⟨i,j,rfl,rfl,q⟩:=h
 obtain ⟨t,rfl⟩:=a
 obtain ⟨t',rfl⟩:=b
 exact rule i j t t' s _ _ ⟨.int (g i j),H,I.tok _,⟨_,rfl⟩,q⟩
theorem A3 {g:Int->Int->Bool} (rule:∀ (i j:Int) (t u:Tok) (s:Shared) (Q:Value->Shared->Prop) (E:Value->Shared->Prop),Q (.bool (g i j)) s->wpAny (model X.prog X.w) X.A (f (.int i t) (.int j u)) Q E s) :
  OpR X f (rI0 fun i j=>.bl (g i j)):=by
 intro pins s σ H x y v u Q I a b h
 obtain ⟨i,j,rfl,rfl,q⟩:=h
 obtain ⟨t,rfl⟩:=a
 obtain ⟨t',rfl⟩:=b
 exact rule i j t t' s _ _ ⟨.bl (g i j),H,I,rfl,q⟩
def wj (i j:Int):Prop:=0 < j/\j < 1073741824
def zK (i j:Int):Prop:=0<=j/\j<=1000000/\i.natAbs < 2 ^ 64
def CMul (i j:Int):Prop:=(-(2 ^ 64) < i/\i < 2 ^ 64)\/(-(2 ^ 64) < j/\j < 2 ^ 64)
theorem CMul.ok {i j:Int} (h:CMul i j):IntMulOk i j:=by
 rcases h with ⟨h1,h2⟩ | ⟨h1,h2⟩
 ·exact .of_left (intBits_le_64 h1 h2)
 ·exact .of_right (intBits_le_64 h1 h2)
theorem op_add:OpR X (binaryOp .Add) (rI0 fun i j=>.int (i+j)):=opI0 fun _ _ _ _ _ _ _ q=>add_int q
theorem DT:OpR X (binaryOp .Sub) (rI0 fun i j=>.int (i - j)):=opI0 fun _ _ _ _ _ _ _ q=>sub_int q
theorem DX:OpR X (binaryOp .Mult) (rI CMul fun i j=>.int (i * j)):=opI fun _ _ _ _ _ _ _ a q=>mul_int q a.ok
theorem DY:OpR X (binaryOp .Mod) (rI (fun _ j=>0 < j) fun i j=>.int (i % j)):=opI fun i j _ _ _ _ _ a q=>by
 have h1:(0:Int) < j:=a
 exact mod_int' (by omega) (by rw [Int.fmod_eq_emod_of_nonneg i (by omega)];exact q)
theorem DU:OpR X (binaryOp .Pow) (rI zK fun i j=>.int (i ^ j.toNat)):=opI fun _ _ _ _ _ _ _ a q=>pow_int_small a.1 a.2.1 a.2.2 q
theorem unI {g:Int->Int} (rule:∀ (i:Int) (t:Tok) (s:Shared) (Q:Value->Shared->Prop) (E:Value->Shared->Prop),Q (.int (g i) s.toks) { s with toks:=s.toks+1 }->wpAny (model X.prog X.w) X.A (f (.int i t)) Q E s) :
  UnR X f (rU fun i=>.int (g i)):=by
 intro pins s σ H x v Q I a h
 obtain ⟨i,rfl,q⟩:=h
 obtain ⟨t,rfl⟩:=a
 exact rule i t s _ _ ⟨.int (g i),H,I.tok _,⟨_,rfl⟩,q⟩
theorem CC:UnR X (unaryOp .USub) (rU fun i=>.int (-i)):=unI fun _ _ _ _ _ q=>neg_int q
end
def C7:V->V->Bool
 | .non,.non=>true | .non,.int _=>true | .int _,.non=>true | .non,.bl _=>true | .bl _,.non=>true | .non,.str _=>true | .str _,.non=>true
 | .int _,.int _=>true | .bl _,.bl _=>true | .str _,.str _=>true | .byt _,.byt _=>true
 | .int _,.str _=>true | .str _,.int _=>true | .bl _,.str _=>true | .str _,.bl _=>true
 | _,_=>false
def rEq:R2:=fun x y H Q=>C7 x y=true/\Q (.bl (decide (x=y))) H
def rNe:R2:=fun x y H Q=>C7 x y=true/\Q (.bl (!decide (x=y))) H
theorem t9 {i j:Int}:decide (V.int i=V.int j)=(i == j):=by
 rw [Bool.eq_iff_iff]
 simp
theorem ze:decide (V.bl i=V.bl j)=(i == j):=by
 rw [Bool.eq_iff_iff]
 simp
theorem t8:decide (V.str i=V.str j)=(i == j):=by
 rw [Bool.eq_iff_iff]
 simp
theorem ua:decide (V.byt i=V.byt j)=(i.toList == j.toList):=by
 rw [Bool.eq_iff_iff]
 cases i
 cases j
 simp
section
variable {X:Cx} {a b c:Expr} {ta tb tc:TE} {pos:Pos}
theorem aG (I:Inv X pins σ H s) (q:Q (.bl k) H) (e:k=k'):EP X pins σ Q (.bool k') s:=by
 subst e
 exact ⟨.bl k,H,I,rfl,q⟩
theorem op_eq:OpR X (compareOp .Eq) rEq:=by
 intro pins s σ H x y v u Q I c a h
 obtain ⟨b,q⟩:=h
 cases x with
 | non =>
  cases c
  cases y with
  | non=>cases a;exact PySem.EqNone.eq_none_none (aG I q (by simp))
  | bl j=>cases a;exact PySem.EqNone.eq_none_bool (aG I q (by simp))
  | int j=>obtain ⟨t',rfl⟩:=a;exact PySem.EqNone.eq_none_int (aG I q (by simp))
  | str j=>obtain ⟨t',rfl⟩:=a;exact PySem.EqNone.eq_none_str (aG I q (by simp))
  | _=>exact absurd (show false=true from b) Fr
 | bl i =>
  cases c
  cases y with
  | non=>cases a;exact PySem.EqNone.eq_bool_none (aG I q (by simp))
  | bl j=>cases a;exact eq_bool (aG I q ze)
  | str j=>obtain ⟨t',rfl⟩:=a;exact PySem.EqMixed.eq_bool_str (aG I q (by simp))
  | _=>exact absurd (show false=true from b) Fr
 | int i =>
  obtain ⟨t,rfl⟩:=c
  cases y with
  | non=>cases a;exact PySem.EqNone.eq_int_none (aG I q (by simp))
  | int j=>obtain ⟨t',rfl⟩:=a;exact eq_int (aG I q t9)
  | str j=>obtain ⟨t',rfl⟩:=a;exact PySem.EqMixed.eq_int_str (aG I q (by simp))
  | _=>exact absurd (show false=true from b) Fr
 | str i =>
  obtain ⟨t,rfl⟩:=c
  cases y with
  | non=>cases a;exact PySem.EqNone.eq_str_none (aG I q (by simp))
  | bl j=>cases a;exact PySem.EqMixed.eq_str_bool (aG I q (by simp))
  | int j=>obtain ⟨t',rfl⟩:=a;exact PySem.EqMixed.eq_str_int (aG I q (by simp))
  | str j=>obtain ⟨t',rfl⟩:=a;exact eq_str (aG I q t8)
  | _=>exact absurd (show false=true from b) Fr
 | byt i =>
  obtain ⟨t,rfl⟩:=c
  cases y with
  | byt j=>obtain ⟨t',rfl⟩:=a;exact PySem.W.eq_bytes (aG I q ua)
  | _=>exact absurd (show false=true from b) Fr
 | _=>cases y <;> exact absurd (show false=true from b) Fr
theorem op_ne:OpR X (compareOp .NotEq) rNe:=by
 intro pins s σ H x y v u Q I c a h
 obtain ⟨b,q⟩:=h
 cases x with
 | non =>
  cases c
  cases y with
  | non=>cases a;exact PySem.EqNone.ne_none_none (aG I q (by simp))
  | bl j=>cases a;exact PySem.EqNone.ne_none_bool (aG I q (by simp))
  | int j=>obtain ⟨t',rfl⟩:=a;exact PySem.EqNone.ne_none_int (aG I q (by simp))
  | str j=>obtain ⟨t',rfl⟩:=a;exact PySem.EqNone.ne_none_str (aG I q (by simp))
  | _=>exact absurd (show false=true from b) Fr
 | bl i =>
  cases c
  cases y with
  | non=>cases a;exact PySem.EqNone.ne_bool_none (aG I q (by simp))
  | bl j=>cases a;exact ne_bool (aG I q (congrArg not ze))
  | str j=>obtain ⟨t',rfl⟩:=a;exact PySem.EqMixed.ne_bool_str (aG I q (by simp))
  | _=>exact absurd (show false=true from b) Fr
 | int i =>
  obtain ⟨t,rfl⟩:=c
  cases y with
  | non=>cases a;exact PySem.EqNone.ne_int_none (aG I q (by simp))
  | int j=>obtain ⟨t',rfl⟩:=a;exact ne_int (aG I q (congrArg not t9))
  | str j=>obtain ⟨t',rfl⟩:=a;exact PySem.EqMixed.ne_int_str (aG I q (by simp))
  | _=>exact absurd (show false=true from b) Fr
 | str i =>
  obtain ⟨t,rfl⟩:=c
  cases y with
  | non=>cases a;exact PySem.EqNone.ne_str_none (aG I q (by simp))
  | bl j=>cases a;exact PySem.EqMixed.ne_str_bool (aG I q (by simp))
  | int j=>obtain ⟨t',rfl⟩:=a;exact PySem.EqMixed.ne_str_int (aG I q (by simp))
  | str j=>obtain ⟨t',rfl⟩:=a;exact ne_str (aG I q (congrArg not t8))
  | _=>exact absurd (show false=true from b) Fr
 | byt i =>
  obtain ⟨t,rfl⟩:=c
  cases y with
  | byt j=>obtain ⟨t',rfl⟩:=a;exact PySem.W.ne_bytes (aG I q (congrArg not ua))
  | _=>exact absurd (show false=true from b) Fr
 | _=>cases y <;> exact absurd (show false=true from b) Fr
theorem Ch:OpR X (compareOp .Lt) (rI0 fun i j=>.bl (decide (i < j))):=A3 fun _ _ _ _ _ _ _ q=>lt_int q
theorem tv:OpR X (compareOp .LtE) (rI0 fun i j=>.bl (decide (i<=j))):=A3 fun _ _ _ _ _ _ _ q=>le_int q
theorem Ci:OpR X (compareOp .Gt) (rI0 fun i j=>.bl (decide (j < i))):=A3 fun _ _ _ _ _ _ _ q=>gt_int q
theorem op_ge:OpR X (compareOp .GtE) (rI0 fun i j=>.bl (decide (j<=i))):=A3 fun _ _ _ _ _ _ _ q=>ge_int q
theorem DZ : OpR X (compareOp .Is) (fun x y H Q => y = .non /\ Q (.bl (decide (x = .non))) H) := by
  intro pins s σ H x y v u Q I a b h
  obtain ⟨rfl, q⟩ := h
  cases b
  refine is_none_gen (aG I q ?_)
  cases x <;> first
    | (cases a; rfl)
    | (obtain ⟨t, rfl⟩ := a; rfl)
theorem OpR.or (h:OpR X f r) (h':OpR X f r'):OpR X f (fun x y H Q=>r x y H Q\/r' x y H Q):=by
 intro pins s σ H x y v u Q I a b q
 rcases q with q | q
 ·exact h pins s σ H x y v u Q I a b q
 ·exact h' pins s σ H x y v u Q I a b q
theorem fh (b : Expr) (h : op ≠ .In := by decide) (h2 : op ≠ .NotIn := by decide) : behindInMarks op b = false := by
  have e1 : (op == CmpOp.In) = false := by cases op <;> first | rfl | exact absurd rfl h
  have a : (op == CmpOp.NotIn) = false := by cases op <;> first | rfl | exact absurd rfl h2
  cases b <;> simp [behindInMarks, e1, a]
theorem AX (g:OpR X (compareOp op) r) (f:PE X a ta) (d:PE X b tb) (hm:behindInMarks op b=false):PE X (.Compare a [op] [b] pos) (tOp r ta tb):=by
 intro pins s σ H Q I h
 exact wpAny_Compare1 (ER f d I h fun v u s2 x y H2 i c e q=>g pins s2 σ H2 x y v u Q i c e q) hm
def tTest (t:TE):TT:=fun σ H Q=>t σ H fun x H'=>∃ k,x=.bl k/\Q k H'
theorem AJ (q:OpR X (compareOp op) r) (o:PE X a ta) (i:PE X b tb) (hm:behindInMarks op b=false):PT X (.Compare a [op] [b] pos) (tTest (tOp r ta tb)):=by
 intro pins s σ H Q I h
 refine wpAny_isTrue_Compare1 (thn (o pins s σ H _ I h) fun v s1 ⟨x,H1,w,m,d⟩=>thn (i pins s1 σ H1 _ w d) fun u s2 ⟨y,H2,t,f,p⟩ =>
  thn (q pins s2 σ H2 x y v u _ t m f p) fun c s3 ⟨z,g,n,j,k,e,l⟩=>?_) hm
 subst e
 cases j
 exact FM ⟨g,n,l⟩
def qI (r b:R2) (ta tb tc:TE):TE:=fun σ H Q=>ta σ H fun x H1=>tb σ H1 fun y H2=>r x y H2 fun z a=>∃ k,z=.bl k /\
 (if k=true then tc σ a fun d c=>b y d c Q else Q (.bl false) a)
theorem xR (J:OpR X (compareOp op) r) (f:OpR X (compareOp op') r') (p:PE X a ta) (n:PE X b tb) (w:PE X c tc) (hm:lastMarks [op,op'] [b,c]=false:=by with_unfolding_all rfl):PE X (.Compare a [op,op'] [b,c] pos) (qI r r' ta tb tc):=by
 intro pins s σ H Q I h
 refine Compare_chain (thn (p pins s σ H _ I h) fun v s1 ⟨x,H1,K,E,B⟩=>chain_link (thn (n pins s1 σ H1 _ K B) fun u s2 ⟨y,H2,q,g,G⟩ =>
  thn (J pins s2 σ H2 x y v u _ q E g G) fun d s3 ⟨z,i,l,C,k,e,j⟩=>?_)) hm
 subst e
 cases C
 refine FM ?_
 cases k with
 | false=>exact ite_ff ⟨.bl false,i,l,rfl,j⟩
 | true=>exact ite_tt (chain_last (thn (w pins s3 σ i _ l j) fun o s4 ⟨m,D,F,t,A⟩=>f pins s4 σ D y m u o Q F g t A))
theorem nY:(sizeLine:Nat) < 2 ^ 63:=by rw [sizeLine_eq];decide
theorem op_add_str:OpR X (binaryOp .Add) (fun x y H Q=>∃ i j,x=.str i/\y=.str j/\i.length+j.length<=sizeLine/\Q (.str (i ++ j)) H):=by
 intro pins s σ H x y v u Q I a b h
 obtain ⟨i,j,rfl,rfl,hz,q⟩:=h
 obtain ⟨t,rfl⟩:=a
 obtain ⟨t',rfl⟩:=b
 exact add_str (fun t' tk=>⟨.str (i ++ j),H,I.tok _,⟨_,rfl⟩,q⟩) hz
theorem bR (r:Vals [x] us):∃ u,us=[u]/\RelV x u:=by
 cases r with
 | cons r1 r2=>cases r2;exact ⟨_,rfl,r1⟩
theorem mj (r:Vals [x,y] us):∃ u a,us=[u,a]/\RelV x u/\RelV y a:=by
 cases r with
 | cons r1 r2 =>
  cases r2 with
  | cons r3 r4=>cases r4;exact ⟨_,_,rfl,r1,r3⟩
theorem zq:CallR X (.builtin "abs") (fun xs H Q=>∃ i,xs=[.int i]/\Q (.int (if i < 0 then -i else i)) H):=by
 intro pins s σ H xs us Q I r h
 obtain ⟨i,rfl,q⟩:=h
 obtain ⟨u,rfl,t,rfl⟩:=bR r
 exact call_abs_int fun u tk=>⟨.int (if i < 0 then -i else i),H,I.tok _,⟨_,rfl⟩,q⟩
theorem vX (b:X.calm=true):CallR X (.builtin "max") (fun xs H Q=>∃ i j,xs=[.int i,.int j]/\Q (.int (if j > i then j else i)) H):=by
 intro pins s σ H xs us Q I r h
 obtain ⟨i,j,rfl,q⟩:=h
 obtain ⟨u,c,rfl,⟨t,rfl⟩,⟨t',rfl⟩⟩:=mj r
 refine max_two_ints (I.ok.hd b) fun h' tk k=>⟨_,H,I.kept k,?_,q⟩
 by_cases a:j > i
 ·rw [if_pos a,if_pos a];exact ⟨_,rfl⟩
 ·rw [if_neg a,if_neg a];exact ⟨_,rfl⟩
theorem vR (b:X.calm=true):CallR X (.builtin "min") (fun xs H Q=>∃ i j,xs=[.int i,.int j]/\Q (.int (if j < i then j else i)) H):=by
 intro pins s σ H xs us Q I r h
 obtain ⟨i,j,rfl,q⟩:=h
 obtain ⟨u,c,rfl,⟨t,rfl⟩,⟨t',rfl⟩⟩:=mj r
 refine min_two_ints (I.ok.hd b) fun h' tk k=>⟨_,H,I.kept k,?_,q⟩
 by_cases a:j < i
 ·rw [if_pos a,if_pos a];exact ⟨_,rfl⟩
 ·rw [if_neg a,if_neg a];exact ⟨_,rfl⟩
theorem qo:CallR X (.builtin "divmod") (fun xs H Q=>∃ i j,xs=[.int i,.int j]/\wj i j/\∀ p,H p=none->Q (.ref p) (upd H p (.tup [.int (i / j),.int (i % j)]))):=by
 intro pins s σ H xs us Q I r h
 obtain ⟨i,j,rfl,⟨h1,h2⟩,q⟩:=h
 obtain ⟨u,c,rfl,⟨t,rfl⟩,⟨t',rfl⟩⟩:=mj r
 refine divmod_int (by omega) ?_ (.inl (PyProof.noPylong_small (by omega)))
 rw [Int.fdiv_eq_ediv_of_nonneg i (by omega),Int.fmod_eq_emod_of_nonneg i (by omega)]
 have a:H s.heap.objs.size=none:=I.hok.fresh (Fq _)
 refine ⟨.ref s.heap.objs.size,_,?_,rfl,q _ a⟩
 refine I.laid (fun b o e=>E8 _ e) (Fq _) ⟨by simp only [FC,List.length_nil];rw [sizeLine_eq];decide,[.int (i / j) s.toks,.int (i % j) (s.toks+1)],.cons ⟨_,rfl⟩ (.cons ⟨_,rfl⟩ .nil),?_⟩
 exact ⟨_,Fg s.heap rfl,rfl,0,rfl⟩
end
end L2
namespace L2
open PySem PySem.Spec PyProof.Rows
theorem RelO.some_of (r:RelO (some v) o):∃ u,o=some u/\RelV v u:=by
 cases o with
 | none=>exact (show False from r).elim
 | some u=>exact ⟨u,rfl,r⟩
end L2
namespace L2
open PySem PySem.Spec PyProof.Rows
structure Room (k:Nat) (A:Around):Prop where
 hd:A.handled=none
 dp:A.depth+3 * k+5 < recursionLimit
 un:A.units+16 * k+200 < cLine
 gd:A.guards=some []
theorem Room.mono {j k:Nat} (r:Room k A) (h:j<=k):Room j A:=⟨r.hd,by have:=r.dp;omega,by have:=r.un;omega,r.gd⟩
theorem Room.deeper {k:Nat} (r:Room (k+1) A) (env:Env):Room k (A.deeper env) :=
 ⟨r.hd,by have:=r.dp;show A.depth+1+3 * k+5 < _;omega,by have:=r.un;show A.units+3+16 * k+200 < _;omega,r.gd⟩
theorem Room.depth {k:Nat} (r:Room k A):A.depth < recursionLimit:=by have:=r.dp;omega
theorem Room.units {k:Nat} (r:Room k A):A.units+64 < cLine:=by have:=r.un;omega
def zU:TA:=fun _ H Q=>Q [] H
def oS (ta:TE) (a:TA):TA:=fun σ H Q=>ta σ H fun x H1=>a σ H1 fun xs H2=>Q (x :: xs) H2
section
variable {X:Cx} {e:Expr} {es:List Expr} {te:TE} {t:TA} {pos:Pos}
theorem nP:PA X [] zU:=fun _ _ _ _ H Q I h=>Calls.spliced_nil ⟨[],H,I,.nil,h⟩
theorem iZ (f:PE X e te) (b:PA X es t) (j:starEach (e :: es) X.env=(false,eval e X.env) :: starEach es X.env:=by rfl):PA X (e :: es) (oS te t):=by
 intro pos pins s σ H Q I h
 rw [j]
 show wpAny _ _ (spliced ((false,eval e X.env) :: backTo pos (starEach es X.env))) _ _ s
 refine Calls.spliced_cons (thn (f pins s σ H _ I h) fun u s1 ⟨x,H1,k,d,a⟩=>?_)
 exact thn (b pos pins s1 σ H1 _ k a) fun us s2 ⟨xs,H2,i,c,g⟩=>⟨x :: xs,H2,i,.cons d c,g⟩
def tTup (t:TA):TE:=fun σ H Q=>t σ H fun xs H1=>xs.length<=sizeLine/\∀ p,H1 p=none->Q (.ref p) (upd H1 p (.tup xs))
def tLst (t:TA):TE:=fun σ H Q=>t σ H fun xs H1=>xs.length<=sizeLine/\∀ p,H1 p=none->Q (.ref p) (upd H1 p (.lst xs))
theorem DK (h:PA X es t):PE X (.Tuple es x1 pos) (tTup t):=by
 intro pins s σ H Q I c
 refine wpAny_Tuple_spliced (thn (h pos pins s σ H _ I c) fun us s1 ⟨xs,H1,a,r,z,q⟩=>⟨by rw [<- r.length];exact z,?_⟩)
 have hf:H1 s1.heap.objs.size=none:=a.hok.fresh (Fq _)
 refine ⟨.ref s1.heap.objs.size,upd H1 s1.heap.objs.size (.tup xs),a.laid (t':=s1.toks) (fun b u e=>E8 _ e) (Fq _) ?_,rfl,q _ hf⟩
 exact ⟨z,us,r,⟨_,Fg _ rfl,rfl,_,rfl⟩⟩
theorem DO (h:PA X es t):PE X (.List es pos) (tLst t):=by
 intro pins s σ H Q I c
 refine wpAny_List_spliced (thn (h pos pins s σ H _ I c) fun us s1 ⟨xs,H1,a,r,z,q⟩=>⟨by rw [<- r.length];exact z,?_⟩)
 have hf:H1 s1.heap.objs.size=none:=a.hok.fresh (Fq _)
 refine ⟨.ref s1.heap.objs.size,upd H1 s1.heap.objs.size (.lst xs),a.laid (t':=s1.toks) (fun b u e=>E8 _ e) (Fq _) ?_,rfl,q _ hf⟩
 exact ⟨z,us,0,r,Fg _ rfl⟩
end
abbrev Sp:=List V->Hp->VK->XK->Prop
abbrev CXT:=List Env->Hp->Shared->XK->Value->Shared->Prop
structure Env0 (P:Program) (w:World) (K:FG) (mg:Str->Option Value) (base:Heap) (A:Around) (outer:List Env) (s:Shared) (H:Hp):Prop where
 frames:A.frames=some outer
 mod:Mod K mg base
 bs:∀ b o,base.get? b=some o->s.heap.get? b=some o/\H b=none
 bsz:base.objs.size<=s.heap.objs.size
 funs:s.heap.FunFrames base outer
 frf:∀ b ∈ frs outer,H b=none
 hok:HOk P w H s.heap
 bare:AllBare s.gens
def CE (outer:List Env) (P:Program) (w:World) (H:Hp) (s:Shared) (Q:VK) (u:Value) (s':Shared):Prop :=
 ∃ v H',s'.os=s.os/\AllBare s'.gens/\Un (frs outer) [] H H' s.heap s'.heap/\HOk P w H' s'.heap/\RelV v u/\Q v H'
def CR (CX:CXT) (outer:List Env) (P:Program) (w:World) (H:Hp) (s:Shared) (Q:VK) (E:XK) (r:Result) (s':Shared):Prop :=
 match r with
 | .ok (.ret u)=>CE outer P w H s Q u s'
 | .ok _=>False
 | .error e=>CX outer H s E e s'
structure FnOk (P:Program) (w:World) (K:FG) (mg:Str->Option Value) (base:Heap) (CX:CXT) (k:Nat) (f:Addr) (fd:FuncData) (ps:List Str) (sp:Sp):Prop where
 len:∀ vs H Q E,sp vs H Q E->vs.length=ps.length
 run:∀ (A:Around) (outer:List Env) (s:Shared) (H:Hp) (args:Args) (us:List Value) (vs:List V) (Q:VK) (E:XK),Room k A->Env0 P w K mg base A outer s H->BindsTo s fd args (ps.zip us)->Vals vs us->sp vs H Q E ->
  codeAny (model P w) A (.call (.ref f) args) (CR CX outer P w H s Q E) s
theorem FnOk.imp {K:FG} {k:Nat} (F:FnOk P w K mg base CX k f fd ps sp) (h:∀ a H Q E,sp' a H Q E->sp a H Q E):FnOk P w K mg base CX k f fd ps sp' :=
 ⟨fun a H Q E q=>F.len a H Q E (h _ _ _ _ q),fun A outer s H args us a Q E b he c d e=>F.run A outer s H args us a Q E b he c d (h _ _ _ _ e)⟩
section
variable {X:Cx} {pins:List (Addr × Obj)} {σ:St} {H:Hp} {s s':Shared}
theorem Inv.env0 (I:Inv X pins σ H s):Env0 X.prog X.w X.K X.mg X.base X.A X.stack s H :=
 ⟨I.ok.frames,I.ok.mod,I.bs,FN I.ok.bsz I.sz,I.stack,I.stkFree,I.hok,I.bare⟩
theorem Inv.after (I:Inv X pins σ H s) (h:CE X.stack X.prog X.w H s Q u s'):EP X pins σ Q u s':=by
 obtain ⟨v,H',os,bare,un,hok,r,q⟩:=h
 obtain ⟨c,g,d,t,a⟩:=s'
 obtain rfl:a=s.os:=os
 exact ⟨v,H',I.call (h':=c) (g':=g) (d':=d) (t':=t) (ch:=[]) un hok bare (fun b z=>absurd z (by simp)),r,q⟩
end
def tCall (sp:Sp) (dvs:List V) (E:XK) (t:TA):TE:=fun σ H Q=>t σ H fun a H1=>sp (a ++ dvs) H1 Q E
def Binds (K:FG) (fd:FuncData) (ps:List Str) (ds:List Value):Prop :=
 ∀ (s:Shared) (us:List Value),K.In s.heap->(us ++ ds).length=ps.length->BindsTo s fd ⟨us,[]⟩ (ps.zip (us ++ ds))
theorem Binds.all {K:FG} (h:∀ us:List Value,us.length=ps.length->bindArgs fd ⟨us,[]⟩=pure (ps.zip us)):Binds K fd ps []:=fun s us _ a=>by
 rw [List.append_nil] at a ⊢
 exact .of_eq (h us a)
def sG (CX:CXT) (X:Cx) (E:XK):Prop:=∀ (pins:List (Addr × Obj)) (σ:St) (H:Hp) (s:Shared) (e:Value) (s':Shared),Inv X pins σ H s->CX X.stack H s E e s'->X.xe e s'
section
variable {X:Cx} {CX:CXT} {k:Nat} {f C:Addr} {fd:FuncData} {ps:List Str} {sp:Sp} {dvs:List V} {ds:List Value} {E:XK} {x m:Str} {p pos apos:Pos} {e o:Expr} {es:List Expr} {ta:TE} {t:TA}
set_option tactic.hygienic true in
theorem Df (F:FnOk X.prog X.w X.K X.mg X.base CX k f fd ps sp) (c:Room k X.A) (g:Binds X.K fd ps ds) (hd:Vals dvs ds) (d:sG CX X E) (I:Inv X pins σ H s) (r:Vals vs us) (h:sp (vs ++ dvs) H Q E):wpAny (model X.prog X.w) X.A (call (.ref f) us) (EP X pins σ Q) X.xe s:=by
 have b:Vals (vs ++ dvs) (us ++ ds):=r.append hd
 have i:(us ++ ds).length=ps.length:=by rw [<- b.length];exact F.len _ _ _ _ h
 refine wpAny_call (codeAny_mono (F.run X.A X.stack s H ⟨us,[]⟩ (us ++ ds) (vs ++ dvs) Q E c I.env0 (g s us I.kIn i) b h) fun r s' a=>?_)
 cases r with
 | error e=>exact d pins σ H s e s' I a
 | ok fl =>
  cases fl with
  | ret u=>exact I.after a
  | next=>exact False.elim a
  | brk=>exact False.elim a
  | cont=>exact False.elim a
theorem AY (F:FnOk X.prog X.w X.K X.mg X.base CX k f fd ps sp) (d:Room k X.A) (g:Gl X x) (hm:X.mg x=some (.ref f)) (j:PySem.W.keepIn X.K (.ref f)=true) (i:Binds X.K fd ps ds) (hd:Vals dvs ds) (m:sG CX X E)
  (l:PA X (e :: es) t) (a:(x == ("__debug__":Str))=false:=by decide) (he:starEach (e :: es) X.env=(false,eval e X.env) :: starEach es X.env:=by rfl) (b:(backTo pos (starEach es X.env)).any (·.1)=false:=by rfl) :
  PE X (.Call (.Name x p) (e :: es) [] pos) (tCall sp dvs E t):=by
 intro pins s σ H Q I h
 refine wpAny_Call_Name_kw (tR I g hm ?_ a)
 refine PySem.W.callWith_K (h₀:=X.base) I.ok.mod.kin j (thn (l pos pins s σ H _ I h) fun us s1 ⟨n,H1,c,r,q⟩=>⟨c.kIn,?_⟩) he b
 exact Df F d i hd m c r q
end
def PK (X:Cx) (kws:List Keyword) (t:TA):Prop :=
 ∀ (pos:Pos) (pins:List (Addr × Obj)) (s:Shared) (σ:St) (H:Hp) (Q:List V->Hp->Prop),Inv X pins σ H s->t σ H Q->wpAny (model X.prog X.w) X.A (evalAll ((backToKw pos (keywordEach kws X.env)).map (·.2))) (AP X pins σ Q) X.xe s
section
variable {X:Cx} {CX:CXT} {k:Nat} {f C:Addr} {fd:FuncData} {ps ks:List Str} {sp:Sp} {E:XK} {x m:Str} {p pos apos kpos:Pos} {e o:Expr} {es:List Expr} {kws:List Keyword} {te ta:TE} {t tk:TA} {nm:Option Str}
theorem DH:PK X [] zU:=fun _ _ _ _ H Q I h=>wpAny_evalAll_nil ⟨[],H,I,.nil,h⟩
theorem AR (f:PE X e te) (b:PK X kws t):PK X (⟨nm,e,kpos⟩ :: kws) (oS te t):=by
 intro pos pins s σ H Q I h
 show wpAny _ _ (evalAll ((do let v <- eval e X.env;standAt pos;pure v) :: (backToKw pos (keywordEach kws X.env)).map (·.2))) _ _ s
 refine wpAny_evalAll_cons (E3 (thn (f pins s σ H _ I h) fun u s1 ⟨x,H1,j,d,a⟩=>E3 (wpAny_standAt (E4 ?_))))
 exact thn (b pos pins s1 σ H1 _ j a) fun us s2 ⟨xs,H2,i,c,g⟩=>⟨x :: xs,H2,i,.cons d c,g⟩
variable {g:List Value->List Value->List Value} {gV:List V->List V->List V}
end
structure FnScope (N P:List Str) (sc:Scope):Prop where
 kind:sc.kind=.function
 co:sc.isCoroutine=false
 gen:sc.isGenerator=false
 nd:N.Nodup
 pre:N.take P.length=P
 par:∀ x ∈ P,sc.names.lookup x=some .local\/sc.names.lookup x=some .cell
 nofree:∀ y ∈ sc.names,y.2 ≠ .free
theorem ng {kindOf:Str->Option NameKind}:∀ {binds:List (Str × Value)} {m:Str->Option Value},(∀ v,(x,v) ∉ binds)->bindL kindOf binds m x=m x
 | [],_,_=>rfl
 | (n,v) :: r,m,h=>by
  unfold bindL
  rw [ng fun w hw=>h w (E7 _ hw)]
  split
  ·have:x ≠ n:=by rintro rfl;exact h v E6
   simp [this]
  ·rfl
theorem ni {kindOf:Str->Option NameKind}:∀ {binds:List (Str × Value)} {m:Str->Option Value},(∀ v,(x,v) ∉ binds)->bindC kindOf binds m x=m x
 | [],_,_=>rfl
 | (n,v) :: r,m,h=>by
  unfold bindC
  rw [ni fun w hw=>h w (E7 _ hw)]
  split
  ·rfl
  ·have:x ≠ n:=by rintro rfl;exact h v E6
   simp [this]
theorem nh {kindOf:Str->Option NameKind}:∀ {P:List Str} {a:List Value} {i:Nat} {m:Str->Option Value},P.Nodup->P[i]?=some x->a[i]?=some v->kindOf x=some .local ->
  bindL kindOf (P.zip a) m x=some v
 | [],_,_,_,_,h,_,_=>by simp at h
 | _ :: _,[],_,_,_,_,h,_=>by simp at h
 | p :: P,w :: a,0,m,nd,h1,h2,hk=>by
  simp at h1 h2;subst h1;subst h2
  show bindL kindOf ((p,w) :: P.zip a) m p=_
  unfold bindL
  rw [ng fun v b=>(List.nodup_cons.mp nd).1 (List.of_mem_zip b).1,if_pos hk]
  simp
 | p :: P,w :: a,i+1,m,nd,h1,h2,hk=>by
  show bindL kindOf ((p,w) :: P.zip a) m x=_
  unfold bindL
  exact nh (i:=i) (List.nodup_cons.mp nd).2 (by simpa using h1) (by simpa using h2) hk
theorem nk {kindOf:Str->Option NameKind}:∀ {P:List Str} {a:List Value} {i:Nat} {m:Str->Option Value},P.Nodup->P[i]?=some x->a[i]?=some v->kindOf x ≠ some .local ->
  bindC kindOf (P.zip a) m x=some v
 | [],_,_,_,_,h,_,_=>by simp at h
 | _ :: _,[],_,_,_,_,h,_=>by simp at h
 | p :: P,w :: a,0,m,nd,h1,h2,hk=>by
  simp at h1 h2;subst h1;subst h2
  show bindC kindOf ((p,w) :: P.zip a) m p=_
  unfold bindC
  rw [ni fun v b=>(List.nodup_cons.mp nd).1 (List.of_mem_zip b).1,if_neg hk]
  simp
 | p :: P,w :: a,i+1,m,nd,h1,h2,hk=>by
  show bindC kindOf ((p,w) :: P.zip a) m x=_
  unfold bindC
  exact nk (i:=i) (List.nodup_cons.mp nd).2 (by simpa using h1) (by simpa using h2) hk
def jO (N:List Str) (a:List V):St:=a.map some ++ List.replicate (N.length - a.length) none
def qh (CX:CXT) (P:Program) (w:World) (K:FG) (mg:Str->Option Value) (base:Heap) (N:List Str) (qual:Str) (scope:Scope) (f:Addr) (cd:Value) (A:Around) (outer:List Env) (s:Shared) (H:Hp) (E:XK):Cx where
 prog:=P
 w:=w
 K:=K
 mg:=mg
 base:=base
 A:=A.deeper (envOfC qual scope s.heap.objs.size f cd)
 N:=N
 s₀:=s
 H₀:=H
 env:=envOfC qual scope s.heap.objs.size f cd
 outer:=outer
 stack:=envOfC qual scope s.heap.objs.size f cd :: outer
 ex:=[]
 calm:=true
 fn:=fun _=>true
 pn:=[]
 xe:=fun e s'=>wpAny (model P w) (A.deeper (envOfC qual scope s.heap.objs.size f cd)) (leaving (envOfC qual scope s.heap.objs.size f cd) e) (fun _ a=>CX outer H s E e a) (fun b a=>CX outer H s E b a) s'
theorem qm {sc:Scope} {n:Nat} (h:sc.names.lookup x=some .cell):∃ c,(cellsFrom n sc.names []).lookup x=some c:=by
 have q:=PySem.W.cellsFrom_some sc.names n [] (.inl h)
 exact Option.isSome_iff_exists.mp q
theorem vz {K:FG} (S:FnScope N ps scope) (hd:A.handled=none) (d:Env0 P w K mg base A outer s H) (D:vs.length=ps.length) (r:Vals vs us) (x:InCallC s s.heap.objs.size (bindL (envOfC qual scope s.heap.objs.size f cd).kindOf (ps.zip us) fun _=>none) (cellsFrom (s.heap.objs.size+1) scope.names []) (bindC (envOfC qual scope s.heap.objs.size f cd).kindOf (ps.zip us) fun _=>none) s1) :
  Inv (qh CX P w K mg base N qual scope f cd A outer s H E) [] (jO N vs) H s1:=by
 have t:ps.length<=N.length:=by have:=congrArg List.length S.pre;rw [FD] at this;omega
 obtain ⟨h1,tk,rfl,o⟩:=x.done
 have g:∀ b:Addr,b ∉ (qh CX P w K mg base N qual scope f cd A outer s H E).ex:=fun b z=>absurd (show b ∈ ([]:List Addr) from z) (by simp)
 refine ⟨⟨d.mod,S.kind,rfl,rfl,Fq _,fun y z c h1 h2=>?_,fun y j=>?_,fun y c _ h=>?_,fun _=>hd,Around.frames_deeper d.frames,.inr ⟨rfl,rfl⟩,fun b z=>absurd z (g b),d.bs,d.bsz,fun b _ _=>g b,fun b z=>absurd z (g b),d.funs,d.frf⟩,
  rfl,d.bare,Un.kept o,⟨_,x.toInCall.ns,fun i y v h1 h2 h3=>?_⟩,fun y c h=>⟨_,x.cell y c h⟩,d.hok.fresh (Fq _),fun y c h=>?_,fun p l=>absurd (show p ∈ ([]:List (Addr × Obj)) from l) (by simp),d.hok.kept o,?_⟩
 ·exact name_of_addr x.apart (PySem.mem_of_lookup h1) (PySem.mem_of_lookup h2)
 ·have j:scope.names.lookup y=some .cell\/scope.names.lookup y=some .free:=j
  rcases j with j | j
  ·exact qm j
  ·exact absurd rfl (S.nofree _ (PySem.mem_of_lookup j))
 ·exact Nat.le_of_lt (x.above y c (PySem.mem_of_lookup h))
 ·have hi:i < vs.length:=by
   unfold jO at h2
   by_cases hi:i < vs.length
   ·exact hi
   ·rw [List.getElem?_append_right (by simpa using hi)] at h2
    rw [List.getElem?_replicate] at h2
    split at h2 <;> cases h2
  have C:vs[i]?=some v:=by
   unfold jO at h2
   rw [List.getElem?_append_left (by simpa using hi),Fp] at h2
   cases e:vs[i]? with
   | none=>rw [e] at h2;cases h2
   | some a=>rw [e] at h2;cases h2;rfl
  obtain ⟨u,hu,B⟩:=r.get C
  have l:ps[i]?=some y:=by
   rw [<- S.pre,List.getElem?_take_of_lt (by omega)];exact h1
  have m:ps.Nodup:=by rw [<- S.pre];exact S.nd.sublist (List.take_sublist _ _)
  refine ⟨u,B,?_⟩
  rcases S.par y (Fj l) with k | k
  ·exact .inl ⟨k,nh m l hu k⟩
  ·obtain ⟨c,e⟩:=qm (n:=s.heap.objs.size+1) k
   refine .inr ⟨.inl k,c,e,?_⟩
   have q:=x.cell y c e
   rw [nk m l hu (by show scope.names.lookup y ≠ _;rw [k];decide)] at q
   exact q
 ·exact d.hok.fresh (Nat.le_of_lt (x.above y c (PySem.mem_of_lookup h)))
 ·unfold jO
  show _=N.length
  rw [FB,Fh,List.length_replicate]
  lia
set_option tactic.hygienic true in
theorem fn_of {K:FG} {k:Nat} {B kV doc pm a ct M:Value} (G:K.lookup f=some ⟨M,od,.func (PySem.W.fnOf name qual params body scope B kV doc pm an a ct),osl⟩) (p:PySem.W.codeIn K a qual=true) (S:FnScope N ps scope) (len:∀ c H Q E,sp c H Q E->c.length=ps.length) (d:∀ (A:Around) (outer:List Env) (s:Shared) (H:Hp) (c:List V) (Q:VK) (E:XK),Room k (A.deeper (envOfC qual scope s.heap.objs.size f a))->sp c H Q E ->
   ∃ t,PSs (qh CX P w K mg base N qual scope f a A outer s H E) body t/\t { nx:=fun _ H'=>Q .non H',rt:=Q } (jO N c) H) :
  FnOk P w K mg base CX (k+1) f (PySem.W.fnOf name qual params body scope B kV doc pm an a ct) ps sp:=by
 refine ⟨len,fun A outer s H args us c Q E l i C r j=>?_⟩
 have F:=len _ _ _ _ j
 have z:K.In s.heap:=i.mod.kin.keeps fun b o e=>(i.bs b o e).1
 have lim:s.heap.NoLimit:=i.mod.nolimit.keeps fun b o e=>(i.bs b o e).1
 have g:∀ y ∈ ps.zip us,scope.names.lookup y.1=some .local\/(scope.names.lookup y.1=some .cell/\((cellsFrom (s.heap.objs.size+1) scope.names []).lookup y.1).isSome=true):=fun ⟨n,v⟩ D=>by
  rcases S.par n (List.of_mem_zip D).1 with q | q
  ·exact .inl q
  ·exact .inr ⟨q,PySem.W.cellsFrom_some _ _ _ (.inl q)⟩
 refine codeAny_call_function l.depth (z _ _ G) rfl S.co S.gen rfl (PySem.W.codeRec_of z p) (C _ _ _ _ ?_)
 refine wpAny_newFunctionEnv_cells S.kind g fun env he s1 x=>?_
 subst he
 refine ⟨lim.keeps x.toInCall.keep,codeAny_func ?_⟩
 obtain ⟨t,L,O⟩:=d A outer s H c Q E (l.deeper _) j
 have I:Inv (qh CX P w K mg base N qual scope f a A outer s H E) [] (jO N c) H s1:=vz S l.hd i F r x
 refine wpAny_mono (L [] s1 (jO N c) H _ I O) (fun fl s' h=>?_) fun e s' h=>h
 have fin:∀ {σ':St} {H':Hp} {v:V} {u:Value},Inv (qh CX P w K mg base N qual scope f a A outer s H E) [] σ' H' s'->RelV v u->Q v H'->CE outer P w H s Q u s' :=
  fun {σ' H' v u} J m q=>⟨v,H',J.os,J.bare,J.base,J.hok,m,q⟩
 cases fl with
 | ret u =>
  obtain ⟨v,σ',H',J,m,q⟩:=h
  exact fin J m q
 | next =>
  obtain ⟨σ',H',J,q⟩:=h
  exact fin (v:=V.non) (u:=Value.none) J rfl q
 | brk =>
  obtain ⟨_,_,_,q⟩:=h
  exact False.elim q
 | cont =>
  obtain ⟨_,_,_,q⟩:=h
  exact False.elim q
end L2
namespace L2
open PySem PySem.Spec PyProof.Rows
section
variable {X:Cx} {x:Str} {p pos:Pos} {e:Expr} {es:List Expr} {t:TA} {id T:String} {r:List V->Hp->VK->Prop}
def tCB (r:List V->Hp->VK->Prop) (t:TA):TE:=fun σ H Q=>t σ H fun a H1=>r a H1 Q
theorem iX (k:CallR X (.builtin id) r) (d:Gl X x) (hm:X.mg x=none) (i:bootBuiltins x=some (.builtin id)) (j:PA X (e :: es) t) (l:x ≠ "__name__":=by decide) (a:(x == ("__debug__":Str))=false:=by decide)
  (he:starEach (e :: es) X.env=(false,eval e X.env) :: starEach es X.env:=by rfl) (b:(backTo pos (starEach es X.env)).any (·.1)=false:=by rfl):PE X (.Call (.Name x p) (e :: es) [] pos) (tCB r t):=by
 intro pins s σ H Q I h
 refine wpAny_Call_Name_kw (gg I d hm i ?_ l a)
 exact PyProof.Rows.callWith_builtin1 (thn (j pos pins s σ H _ I h) fun us s1 ⟨f,H1,m,g,c⟩=>k pins s1 σ H1 f us Q m g c) he b
theorem mJ (k:CallR X (.type T) r) (d:Gl X x) (hm:X.mg x=none) (i:bootBuiltins x=some (.type T)) (j:PA X (e :: es) t) (l:x ≠ "__name__":=by decide) (a:(x == ("__debug__":Str))=false:=by decide)
  (he:starEach (e :: es) X.env=(false,eval e X.env) :: starEach es X.env:=by rfl) (b:(backTo pos (starEach es X.env)).any (·.1)=false:=by rfl):PE X (.Call (.Name x p) (e :: es) [] pos) (tCB r t):=by
 intro pins s σ H Q I h
 refine wpAny_Call_Name_kw (gg I d hm i ?_ l a)
 exact PyProof.Rows.callWith_type1 (thn (j pos pins s σ H _ I h) fun us s1 ⟨f,H1,m,g,c⟩=>k pins s1 σ H1 f us Q m g c) he b
end
end L2
namespace HT
open PySem PyProof.Rows
def lexLt:List Int->List Int->Bool
 | [],[]=>false
 | [],_ :: _=>true
 | _ :: _,[]=>false
 | x :: xs,y :: ys=>if x=y then lexLt xs ys else decide (x < y)
theorem lexLt_cons (x y:Int) (xs ys:List Int):lexLt (x :: xs) (y :: ys)=if x=y then lexLt xs ys else decide (x < y):=rfl
theorem lexLt_nil_nil:lexLt [] []=false:=rfl
theorem lexLt_nil_cons (y:Int) (ys:List Int):lexLt [] (y :: ys)=true:=rfl
theorem lexLt_cons_nil (x:Int) (xs:List Int):lexLt (x :: xs) []=false:=rfl
theorem za (A:Around) (s:Shared) (a:Int) (t:Tok) (c:Int) (u:Tok):∃ e,SeqAt.EqAt A s (.int a t) (.int c u) e/\(e=true ↔ a=c) :=
 ⟨(a == c),SeqAt.EqAt.int_int a t c u,by simp⟩
theorem rcLt_int (A:Around) (s:Shared) (a:Int) (t:Tok) (c:Int) (u:Tok) (prog:Program) (w:World) (E:Value->Shared->Prop) (Q:Value->Shared->Prop) (h:Q (.bool (decide (a < c))) s) :
  wpAny (model prog w) A (richCompare .Lt (.int a t) (.int c u)) Q E s :=
 (PyProof.Rows.lt_int h:wpAny (model prog w) A (compareOp .Lt (.int a t) (.int c u)) Q E s)
section
open PySem.SeqAt
open PySem.AutoSeq1 (wpAny_loadPart')
open PySem.MeetsSeq PySem.MeetsSeq2 PySem.MeetsSeq3
set_option tactic.hygienic true in
theorem tuple_lt_ints (l b:Addr) (items f:Array Value) (n G:Nat) (J B:Option Addr) (sl C:Array (Option Value)) (ns ms:List Int) (hi:IntsAre items.toList ns) (F:IntsAre f.toList ms) :
  Meets (Builtin.«tuple.__lt__» ⟨[.ref l,.ref b],[]⟩)
   (fun _ R s=>s.heap.get? l=some { cls:=.type "tuple",dict:=J,data:=.seq items n,slots:=sl }/\s.heap.get? b=some { cls:=.type "tuple",dict:=B,data:=.seq f G,slots:=C } /\
    R (.ok (.ret (.bool (lexLt ns ms)))) s) :=
 .of_wp fun prog w A R s h=>by
  obtain ⟨v,g,d,tk,os⟩:=s;obtain ⟨I,H,h⟩:=h
  have f2:=AutoSeq1.sub_tuple_tuple
  have L:items.size=ns.length:=by rw [<- hi.length];simp
  have K:f.size=ms.length:=by rw [<- F.length];simp
  wp_walk using wpAny_loadPart' I,wpAny_loadPart' H,wpAny_forIn_list _ (fun cQ b s'=>b.1=none/\s'=⟨v,g,d,tk,os⟩/\∃ (z ws:List Value) (i j:List Int),cQ=z.zip ws /\
   IntsAre z i/\IntsAre ws j/\i.length+f.size=j.length+items.size/\R (.ok (.ret (.bool (lexLt i j)))) ⟨v,g,d,tk,os⟩) _
  case turn =>
   rintro ⟨y,x⟩ cQ b s' ⟨p,rfl,z,ws,i,j,hz,r,k,hlen,o⟩
   cases r with
   | nil=>rw [List.zip_nil_left] at hz;cases hz
   | cons a t hvi' =>
    cases k with
    | nil=>rw [List.zip_nil_right] at hz;cases hz
    | cons c u hwi' =>
     rw [List.zip_cons_cons] at hz
     injection hz with hyx hrest
     injection hyx with hy hx
     subst hy hx
     rw [lexLt_cons] at o
     simp only [FC] at hlen
     obtain ⟨e,he,m⟩:=za A.in1 ⟨v,g,d,tk,os⟩ a t c u
     refine E3 (he prog w _ _ ?_)
     cases e with
     | true =>
      rw [if_pos (m.mp rfl)] at o
      wp_walk
      exact ⟨rfl,rfl,_,_,_,_,hrest,hvi',hwi',by omega,o⟩
     | false =>
      rw [if_neg (fun q=>absurd (m.mpr q) Fr)] at o
      have D:=rcLt_int A.in1 ⟨v,g,d,tk,os⟩ a t c u prog w
      wp_walk using D
      exact ⟨_,rfl,by simpa using o⟩
  case fin =>
   rintro ⟨b1,b2⟩ s' ⟨p,rfl,z,ws,i,j,hz,r,k,hlen,o⟩
   simp only at p
   subst p
   have E:lexLt i j=decide (items.size < f.size):=by
    cases r with
    | nil =>
     cases k with
     | nil =>
      simp only [List.length_nil] at hlen
      rw [lexLt_nil_nil]
      exact (Fw (by omega)).symm
     | cons c u hw =>
      simp only [List.length_nil,FC] at hlen
      rw [lexLt_nil_cons]
      exact (Fv (by omega)).symm
    | cons a t E =>
     cases k with
     | nil =>
      simp only [List.length_nil,FC] at hlen
      rw [lexLt_cons_nil]
      exact (Fw (by omega)).symm
     | cons c u hw =>
      rw [List.zip_cons_cons] at hz
      cases hz
   rw [E] at o
   wp_walk
   exact ⟨_,rfl,by simpa [Builtin.Tuple.tupleCompareSizes] using o⟩
  case h =>
   exact ⟨rfl,rfl,items.toList,f.toList,ns,ms,rfl,hi,F,by omega,h⟩
end
section
variable {prog:Program} {w:World} {A:Around} {E:Value->Shared->Prop} {s:Shared}
theorem lt_tupInts (o:IsTup s.heap l items) (k:IsTup s.heap b items2) (hi:IntsAre items.toList ns) (p:IntsAre items2.toList ms) (hu:A.units < cLine) (h:Q (.bool (lexLt ns ms)) s):wpAny (model prog w) A (compareOp .Lt (.ref l) (.ref b)) Q E s:=by
 obtain ⟨⟨cls,m,data,sl⟩,g,i,n,hd⟩:=id o
 obtain ⟨⟨f,e,data2,d⟩,c,a,j,hd2⟩:=id k
 simp only at i hd a hd2
 subst i hd a hd2
 exact richCompare_meets_room (op:=.Lt) ⟨_,g,rfl⟩ ⟨_,c,rfl⟩ PySem.F.slot_tuple_lt PySem.F.entry_tuple_lt (PySem.F.args_tuple_lt_2 _ _) (tuple_lt_ints l b items items2 n j m e sl d ns ms hi p)
  ⟨g,c,show Value.bool (lexLt ns ms) ≠ Value.notImplemented/\Q (.bool (lexLt ns ms)) s from ⟨(fun x=>nomatch x),h⟩⟩ hu
theorem cat_tup (o:IsTup s.heap t vs.toArray) (m:IsTup s.heap b ws.toArray) (j:vs ≠ []) (h1:ws=[]->Q (.ref t) s) (h2:ws ≠ []->Q (.ref s.heap.objs.size) { s with heap:=s.heap.push { cls:=.type "tuple",data:=.seq (vs ++ ws).toArray } }) (hsz:vs.length+ws.length<=sizeLine):wpAny (model prog w) A (binaryOp .Add (.ref t) (.ref b)) Q E s:=by
 obtain ⟨⟨cls,k,data,sl⟩,g,l,n,hd⟩:=id o
 obtain ⟨⟨h,f,data2,d⟩,a,c,i,hd2⟩:=id m
 simp only at l hd c hd2
 subst l hd c hd2
 have e:vs.toArray ++ ws.toArray=(vs ++ ws).toArray:=by simp
 by_cases hw:ws=[]
 ·exact concat_meets ⟨_,g,rfl⟩ ⟨_,a,rfl⟩ noFill_tuple_add seq_tuple_add PySem.F.slot_tuple_add PySem.F.entry_tuple_add (PySem.F.args_tuple_add_2 _ _)
   (tuple_addW1 t b vs.toArray ws.toArray n i k f sl d (by simpa using j) (by simp [hw])) ⟨g,a,h1 hw⟩
 ·refine concat_meets ⟨_,g,rfl⟩ ⟨_,a,rfl⟩ noFill_tuple_add seq_tuple_add PySem.F.slot_tuple_add PySem.F.entry_tuple_add (PySem.F.args_tuple_add_2 _ _)
   (tuple_addW2 t b vs.toArray ws.toArray n i k f sl d (by simpa using j) (by simpa using hw) (by rw [Ft,Ft];exact hsz)) ⟨g,a,?_⟩
  rw [e]
  exact h2 hw
def sIx (n d:Nat):Option Int->Nat
 | none=>d
 | some v=>if v < 0 then (v+(n:Int)).toNat else min v.toNat n
theorem C8 (n d:Nat) (hd:d<=n) (o:Option Int):sIx n d o<=n:=by
 cases o with
 | none=>exact hd
 | some v =>
  show (if v < 0 then (v+(n:Int)).toNat else min v.toNat n)<=n
  by_cases a:v < 0
  ·rw [if_pos a];omega
  ·rw [if_neg a];exact Nat.min_le_right _ _
theorem ue (v:Int) (n d:Nat):(if v < 0 then max (v+(n:Int)) 0 else min v (n:Int))=((sIx n d (some v):Nat):Int):=by
 show (if v < 0 then max (v+(n:Int)) 0 else min v (n:Int))=(((if v < 0 then (v+(n:Int)).toNat else min v.toNat n):Nat):Int)
 by_cases a:v < 0
 ·simp only [if_pos a];omega
 ·simp only [if_neg a];omega
theorem sF (lo hi:Option Int) (n:Nat):Builtin.Slice.sliceAdjust lo hi 1 (n:Int)=(((sIx n 0 lo:Nat):Int),((sIx n n hi:Nat):Int)):=by
 have h1:¬ ((1:Int) < 0):=by omega
 unfold Builtin.Slice.sliceAdjust
 simp only [h1,if_false]
 refine Prod.ext ?_ ?_
 ·cases lo with
  | none=>rfl
  | some v=>exact ue v n 0
 ·cases hi with
  | none=>rfl
  | some v=>exact ue v n n
theorem re (i j:Nat):Builtin.Slice.slicePlaces (i:Int) (j:Int) 1=j - i:=by
 unfold Builtin.Slice.slicePlaces
 have h1:(1:Int) > 0:=by omega
 simp only [h1,if_true,Int.ediv_one]
 split <;> lia
theorem kK (p:IsPart v o) (h:Q o s):wpAny (model prog w) A (Builtin.Slice.slicePartIndex v) Q E s:=by
 cases p with
 | none=>exact slicePart_none h
 | int i t=>exact slicePart_int h
theorem dZ {sl:Addr} {vl c:Value} {lo hi:Option Int} {n:Nat} (e:s.heap.IsSliceOf sl vl c .none) (pl:IsPart vl lo) (pu:IsPart c hi) (h:Q (((sIx n 0 lo:Nat):Int),1,sIx n n hi - sIx n 0 lo) s):wpAny (model prog w) A (Builtin.Slice.sliceApplied (.ref sl) (pure (n:Int))) Q E s:=by
 obtain ⟨os,b,d,a⟩:=id e
 unfold Builtin.Slice.sliceApplied Builtin.Slice.sliceFields
 refine E3 (E3 (wpAny_field b a (x:=vl) rfl (E3 (wpAny_field b a (x:=c) rfl (E3 (wpAny_field b a (x:=.none) rfl (E4 ?_)))))))
 refine E3 (slicePart_none ?_)
 show wpAny _ _ (if ((1:Int) == 0)=true then _ else _) _ _ s
 rw [if_neg (by decide)]
 refine E3 (kK pl (E3 (kK pu (E3 (E4 ?_)))))
 show wpAny _ _ (match Builtin.Slice.sliceAdjust lo hi 1 (n:Int) with | (lo,hi)=>pure (lo,(1:Int),Builtin.Slice.slicePlaces lo hi 1)) _ _ s
 rw [sF lo hi n]
 show wpAny _ _ (pure (((sIx n 0 lo:Nat):Int),(1:Int),Builtin.Slice.slicePlaces ((sIx n 0 lo:Nat):Int) ((sIx n n hi:Nat):Int) 1)) _ _ s
 rw [re]
 exact E4 h
theorem xM (xs:Array Value) (i k:Nat):((List.range k).filterMap fun (m:Nat)=>xs[((i:Int)+(m:Int) * 1).toNat]?).toArray=((xs.toList.drop i).take k).toArray:=by
 have e:(fun (m:Nat)=>xs[((i:Int)+(m:Int) * 1).toNat]?)=fun m=>xs[i+m]?:=by
  funext m
  have:((i:Int)+(m:Int) * 1).toNat=i+m:=by omega
  rw [this]
 rw [e]
 have:=pick_run xs i k
 rw [List.filterMap_map] at this
 have a:((fun x=>xs[x]?) ∘ fun x=>i+x)=fun m=>xs[i+m]?:=rfl
 rw [a] at this
 rw [this]
theorem getItem_tuple_cut {lo hi:Option Int} (b:IsTup s.heap t items) (g:s.heap.IsSliceOf sl vl vu .none) (pl:IsPart vl lo) (pu:IsPart vu hi) (hw:¬ (sIx items.size 0 lo=0/\sIx items.size items.size hi=items.size)) (h:Q (.ref s.heap.objs.size) { s with heap:=s.heap.push { cls:=.type "tuple",data:=.seq ((items.toList.drop (sIx items.size 0 lo)).take (sIx items.size items.size hi - sIx items.size 0 lo)).toArray } }) (hsz:items.size<=sizeLine):wpAny (model prog w) A (getItem (.ref t) (.ref sl)) Q E s:=by
 have a:sizeOk (.seq ((items.toList.drop (sIx items.size 0 lo)).take (sIx items.size items.size hi - sIx items.size 0 lo)).toArray):=by
  show ((items.toList.drop (sIx items.size 0 lo)).take (sIx items.size items.size hi - sIx items.size 0 lo)).toArray.size<=sizeLine
  rw [Ft,FD,List.length_drop,Array.length_toList]
  lia
 have l:sIx items.size items.size hi<=items.size:=C8 _ _ (Fq _) hi
 obtain ⟨os,f,e,i⟩:=id g
 have d:s.TypeIs (.ref sl) "slice":=⟨os,f,e⟩
 unfold getItem
 try with_reducible refine E5 ?_
 first | refine E3 (E4 ?_) | skip
 refine E3 (wpAny_sequenceKey b.typeIs (by decide) ?_)
 refine E3 (wpAny_callSpecial?_slot (name:=Str.ofString "__getitem__") b.typeIs PyProof.Rows.slot_tuple_getitem
  (wpAny_call_entry PyProof.Rows.slot_tuple_getitem b.typeIs entry_tuple_getitem ?_ (args_tuple_getitem _ _)))
 show wpAny _ _ (Builtin.Tuple.tupleItemsOf (.ref t) >>= _) _ _ s
 refine E3 (tupleItemsOf_ b ?_)
 refine E3 (wpAny_typeOf d ?_)
 rw [if_pos (by decide)]
 refine E3 (dZ g pl pu ?_)
 have c:¬ ((((sIx items.size 0 lo:Nat):Int) == 0 && (1:Int) == 1 && (sIx items.size items.size hi - sIx items.size 0 lo) == items.size)=true):=by
  intro q
  rw [Bool.and_eq_true,Bool.and_eq_true] at q
  have j:((sIx items.size 0 lo:Nat):Int)=0:=eq_of_beq q.1.1
  have k:sIx items.size items.size hi - sIx items.size 0 lo=items.size:=eq_of_beq q.2
  exact hw ⟨by omega,by omega⟩
 show wpAny _ _ (if (((sIx items.size 0 lo:Nat):Int) == 0 && (1:Int) == 1 && (sIx items.size items.size hi - sIx items.size 0 lo) == items.size)=true then _ else _) _ _ s
 rw [if_neg c,xM]
 first
  | exact E3 (m:=Builtin.Tuple.tupleExact _) (wpAny_newObj_type (E4 ⟨_,rfl,E4 h⟩) a)
  | exact E3 (m:=Builtin.Tuple.tupleExact _) (wpAny_newObj_type (E3 (E4 (E4 ⟨_,rfl,E4 h⟩))) a)
  | exact E3 (E3 (m:=Builtin.Tuple.tupleExact _) (wpAny_newObj_type (E4 (E4 ⟨_,rfl,E4 h⟩)) a))
  | exact E3 (E3 (m:=Builtin.Tuple.tupleExact _) (wpAny_newObj_type (E4 ⟨_,rfl,E4 h⟩) a))
end
end HT
namespace L2
open PySem PySem.Spec PyProof.Rows
abbrev TO:=St->Hp->(Option Int->Hp->Prop)->Prop
def PO (X:Cx) (e:Option Expr) (t:TO):Prop :=
 ∀ (pins:List (Addr × Obj)) (s:Shared) (σ:St) (H:Hp) (Q:Option Int->Hp->Prop),Inv X pins σ H s->t σ H Q ->
  wpAny (model X.prog X.w) X.A (evalPart e X.env) (fun u s'=>∃ o H',Inv X pins σ H' s'/\IsPart u o/\Q o H') X.xe s
def zT:TO:=fun _ H Q=>Q none H
def tPart (t:TE):TO:=fun σ H Q=>t σ H fun x H1=>∃ i,x=.int i/\Q (some i) H1
theorem iE:∀ {us:List Value},Vals (ns.map V.int) us->IntsAre us ns:=by
 induction ns with
 | nil=>intro us r;rw [List.map_nil] at r;cases r;exact .nil
 | cons n ns ih =>
  intro us r
  rw [Fu] at r
  cases r with
  | cons r1 r2 =>
   obtain ⟨t,e⟩:=r1
   subst e
   exact .cons n t (ih r2)
section
variable {X:Cx} {e:Expr} {te:TE} {lo hi:Option Expr} {tl th:TO} {pos p2:Pos}
theorem AQ:PO X none zT:=by
 intro pins s σ H Q I h
 rw [evalPart_none]
 exact E4 ⟨none,H,I,.none,h⟩
theorem AO (h:PE X e te):PO X (some e) (tPart te):=by
 intro pins s σ H Q I hw
 rw [evalPart_some]
 refine thn (h pins s σ H _ I hw) fun u s1 ⟨x,H1,c,b,a⟩=>?_
 obtain ⟨i,rfl,q⟩:=a
 obtain ⟨t,rfl⟩:=b
 exact ⟨some i,H1,c,.int i t,q⟩
def SlR (X:Cx) (r:V->Option Int->Option Int->Hp->VK->Prop):Prop :=
 ∀ (pins:List (Addr × Obj)) (s:Shared) (σ:St) (H:Hp) (x:V) (v vl a:Value) (lo hi:Option Int) (sl:Addr) (Q:VK),Inv X pins σ H s->RelV x v->s.heap.IsSliceOf sl vl a .none->IsPart vl lo->IsPart a hi->r x lo hi H Q ->
  ∃ T id,typeLookup (.type T) "__getitem__"=pure (some (.builtin id))/\s.TypeIs v T/\wpAny (model X.prog X.w) X.A (getItem v (.ref sl)) (EP X pins σ Q) X.xe s
theorem SlR.or (h:SlR X r) (h':SlR X r'):SlR X (fun x lo hi H Q=>r x lo hi H Q\/r' x lo hi H Q):=by
 intro pins s σ H x v vl c lo hi sl Q I a b pl pu q
 rcases q with q | q
 ·exact h pins s σ H x v vl c lo hi sl Q I a b pl pu q
 ·exact h' pins s σ H x v vl c lo hi sl Q I a b pl pu q
def tSl (r:V->Option Int->Option Int->Hp->VK->Prop) (te:TE) (tl th:TO):TE:=fun σ H Q=>te σ H fun x H1=>tl σ H1 fun l H2=>th σ H2 fun u a=>r x l u a Q
theorem xO (d:SlR X r) (he:PE X e te) (i:PO X lo tl) (hu:PO X hi th):PE X (.Subscript e (.Slice lo hi none p2) pos) (tSl r te tl th):=by
 intro pins s σ H Q I h
 refine Subscript_ (thn (he pins s σ H _ I h) fun v s1 ⟨x,H1,z,n,j⟩=>?_)
 refine wpAny_Slice (thn (i pins s1 σ H1 _ z j) fun vl s2 ⟨l,H2,g,pl,t⟩=>thn (hu pins s2 σ H2 _ g t) fun a s3 ⟨u,c,o,pu,m⟩=>?_)
 rw [evalPart_none]
 refine E4 ?_
 have p:Inv X pins σ c { s3 with heap:=s3.heap.push { cls:=.type "slice",data:=.fields #[vl,a,.none] } }:=o.kept (t':=s3.toks) fun b ob q=>E8 _ q
 obtain ⟨T,id,f,y,k⟩:=d pins { s3 with heap:=s3.heap.push { cls:=.type "slice",data:=.fields #[vl,a,.none] } } σ c x v vl a l u s3.heap.objs.size Q p n (Heap.IsSliceOf.new ..) pl pu m
 show wpAny (model X.prog X.w) X.A (subscriptTail e (.Slice lo hi none p2) v (.ref s3.heap.objs.size)) (EP X pins σ Q) X.xe { s3 with heap:=s3.heap.push { cls:=.type "slice",data:=.fields #[vl,a,.none] } }
 exact tail_any (ops:=[.ref s3.heap.objs.size,v]) y f k (by with_unfolding_all rfl)
def qi (xs:List V) (lo hi:Option Int):List V:=(xs.drop (HT.sIx xs.length 0 lo)).take (HT.sIx xs.length xs.length hi - HT.sIx xs.length 0 lo)
theorem j9 (xs:List V) (lo hi:Option Int):(qi xs lo hi).length<=xs.length:=by
 unfold qi
 rw [FD,List.length_drop]
 lia
def Dx (K:FG):V->Option Int->Option Int->Hp->VK->Prop:=fun x lo hi H Q=>∃ a xs,x=.ref a/\SqT K H a xs /\
 ¬ (HT.sIx xs.length 0 lo=0/\HT.sIx xs.length xs.length hi=xs.length)/\∀ p,H p=none->Q (.ref p) (upd H p (.tup (qi xs lo hi)))
theorem sl_tup:SlR X (Dx X.K):=by
 intro pins s σ H x v vl g lo hi sl Q I d f pl pu h
 obtain ⟨a,xs,rfl,e,hw,q⟩:=h
 cases d
 obtain ⟨its,r,c,hz⟩:=I.tuple e
 have hlen:its.toArray.size=xs.length:=by rw [Ft];exact r.length.symm
 refine ⟨"tuple",_,PyProof.Rows.slot_tuple_getitem.lookup,c.typeIs,?_⟩
 refine HT.getItem_tuple_cut c f pl pu (by rw [hlen];exact hw) ?_ (by rw [hlen];exact hz)
 rw [hlen]
 refine ⟨.ref s.heap.objs.size,_,I.laid (t':=s.toks) (o:=.tup (qi xs lo hi)) (fun b ob q=>E8 _ q) (Fq _) ?_,rfl,q _ (I.hok.fresh (Fq _))⟩
 exact ⟨FN (j9 xs lo hi) hz,_,(r.drop (HT.sIx xs.length 0 lo)).take (HT.sIx xs.length xs.length hi - HT.sIx xs.length 0 lo),IsTupD.new _ _⟩
def tf (K:FG):R2:=fun x y H Q=>∃ a b xs ys,x=.ref a/\y=.ref b/\SqT K H a xs/\SqT K H b ys/\xs ≠ []/\xs.length+ys.length<=sizeLine /\
 (ys=[]->Q (.ref a) H)/\(ys ≠ []->∀ p,H p=none->Q (.ref p) (upd H p (.tup (xs ++ ys))))
theorem Vals.nil_iff (r:Vals xs us):us=[] ↔ xs=[]:=by
 cases r with
 | nil=>simp
 | cons _ _=>simp
theorem op_catT:OpR X (binaryOp .Add) (tf X.K):=by
 intro pins s σ H x y v u Q I f i h
 obtain ⟨a,b,xs,ys,rfl,rfl,l,j,n,hz,g,m⟩:=h
 cases f
 cases i
 obtain ⟨its,d,k,_⟩:=I.tuple l
 obtain ⟨e,c,p2,_⟩:=I.tuple j
 refine HT.cat_tup k p2 (fun z=>n (d.nil_iff.mp z)) (fun z=>⟨.ref a,H,I,rfl,g (c.nil_iff.mp z)⟩) (fun z=>?_) (by rw [<- d.length,<- c.length];exact hz)
 refine ⟨.ref s.heap.objs.size,_,I.laid (t':=s.toks) (o:=.tup (xs ++ ys)) (fun b ob q=>E8 _ q) (Fq _) ?_,rfl,m (fun w=>z (c.nil_iff.mpr w)) _ (I.hok.fresh (Fq _))⟩
 exact ⟨by rw [FB];exact hz,_,d.append c,IsTupD.new _ _⟩
end
end L2
namespace L2
open PySem PySem.Spec PyProof.Rows
def ixN (n:Nat) (i:Int):Option Nat:=if 0<=i then (if i < n then some i.toNat else none) else if -(n:Int)<=i then some (i+n).toNat else none
def atI {α:Type} (xs:List α) (i:Int):Option α:=(ixN xs.length i).bind fun j=>xs[j]?
theorem tU {n:Nat} {i:Int} {j:Nat} (h:ixN n i=some j):seqIndex? i n=some j/\j < n/\-(n:Int)<=i/\i < n:=by
 unfold ixN at h
 by_cases h0:0<=i
 ·rw [if_pos h0] at h
  by_cases h1:i < n
  ·rw [if_pos h1] at h
   have e:i.toNat=j:=FS h
   exact ⟨by rw [seqIndex_of h0 h1,e],by omega,by omega,h1⟩
  ·rw [if_neg h1] at h;cases h
 ·rw [if_neg h0] at h
  by_cases h1:-(n:Int)<=i
  ·rw [if_pos h1] at h
   have e:(i+n).toNat=j:=FS h
   exact ⟨by rw [seqIndex_neg (by omega) h1,e],by omega,h1,by omega⟩
  ·rw [if_neg h1] at h;cases h
theorem uo {i:Int} (h:atI xs i=some v):∃ j,seqIndex? i xs.length=some j/\xs[j]?=some v/\j < xs.length/\-(xs.length:Int)<=i/\i < xs.length:=by
 unfold atI at h
 cases e:ixN xs.length i with
 | none=>rw [e] at h;cases h
 | some j =>
  rw [e] at h
  obtain ⟨h1,h2,h3,a⟩:=tU e
  exact ⟨j,h1,h,h2,h3,a⟩
def uu (b:Expr):Prop:=∀ o i,subscripted b false o i=operate [o,i] (getItem o i)
def IxR (X:Cx) (r:R2):Prop :=
 ∀ (value slice:Expr) (pins:List (Addr × Obj)) (s:Shared) (σ:St) (H:Hp) (x y:V) (v u:Value) (Q:VK),Inv X pins σ H s->RelV x v->RelV y u->r x y H Q ->
  subscripted slice false v u=operate [v,u] (getItem v u)->wpAny (model X.prog X.w) X.A (subscriptTail value slice v u) (EP X pins σ Q) X.xe s
def MtR (X:Cx) (id:String) (r:V->List V->Hp->VK->Prop):Prop :=
 ∀ (pins:List (Addr × Obj)) (s:Shared) (σ:St) (H:Hp) (x:V) (xs:List V) (v:Value) (us:List Value) (Q:VK),Inv X pins σ H s->RelV x v->Vals xs us->r x xs H Q ->
  wpAny (model X.prog X.w) X.A (call (.builtin id) (v :: us)) (EP X pins σ Q) X.xe s
section
variable {X:Cx} {a b:Expr} {ta tb:TE} {pos:Pos}
theorem IxR.or (h:IxR X r) (h':IxR X r'):IxR X (fun x y H Q=>r x y H Q\/r' x y H Q):=by
 intro value slice pins s σ H x y v u Q I a b q c
 rcases q with q | q
 ·exact h value slice pins s σ H x y v u Q I a b q c
 ·exact h' value slice pins s σ H x y v u Q I a b q c
theorem pe_ix (d:IxR X r) (g:PE X a ta) (e:PE X b tb) (j:uu b):PE X (.Subscript a b pos) (tOp r ta tb):=by
 intro pins s σ H Q I h
 exact Subscript_ (ER g e I h fun v u s2 x y H2 i c f q=>d a b pins s2 σ H2 x y v u Q i c f q (j _ _))
def xE (K:FG):R2:=fun x y H Q=>∃ p xs i v,x=.ref p/\y=.int i/\SqL K H p xs/\atI xs i=some v/\Q v H
def xD (K:FG):R2:=fun x y H Q=>∃ p xs i v,x=.ref p/\y=.int i/\SqT K H p xs/\atI xs i=some v/\Q v H
theorem ix_list:IxR X (xE X.K):=by
 intro value slice pins s σ H x y v u Q I k e h d
 obtain ⟨p,xs,i,z,rfl,rfl,m,he,q⟩:=h
 cases k
 obtain ⟨t,rfl⟩:=e
 obtain ⟨its,r,pl,hz⟩:=I.list m
 obtain ⟨j,h1,h2,h3,f,l⟩:=uo he
 obtain ⟨w,c,a⟩:=r.get h2
 have g:=r.length
 have n:=nY
 have fin:EP X pins σ Q w s:=⟨z,H,I,a,q⟩
 by_cases h0:0<=i
 ·have b:i.toNat=j:=by
   rw [seqIndex_of h0 l] at h1
   exact FS h1
  exact item_listR pl.isList h0 (by omega) (by rw [b];simpa using c) fin d
 ·have b:(i+(its.toArray.size:Int)).toNat=j:=by
   rw [seqIndex_neg (by omega) f] at h1
   rw [Ft,<- g]
   exact FS h1
  exact subscriptTail_builtinR (x:=w) pl.isList.typeIs slot_list_getitem.lookup
   (wpAny_getItem_list_neg (Q:=fun r s'=>r=w/\EP X pins σ Q r s') pl.isList (by omega) (by rw [Ft] <;> omega) (by omega) (by rw [b];simpa using c) ⟨rfl,fin⟩) d
theorem Ew:IxR X (xD X.K):=by
 intro value slice pins s σ H x y v u Q I f b h d
 obtain ⟨p,xs,i,z,rfl,rfl,g,he,q⟩:=h
 cases f
 obtain ⟨t,rfl⟩:=b
 obtain ⟨its,r,pl,hz⟩:=I.tuple g
 obtain ⟨j,h1,h2,h3,k,m⟩:=uo he
 obtain ⟨w,c,a⟩:=r.get h2
 have e:=r.length
 have l:=nY
 have fin:EP X pins σ Q w s:=⟨z,H,I,a,q⟩
 exact subscriptTail_builtinR (x:=w) pl.typeIs slot_tuple_getitem.lookup
  (getItem_tuple (j:=j) (Q:=fun r s'=>r=w/\EP X pins σ Q r s') pl (by omega) (by omega) (by rw [Ft,<- e];exact h1) (by simpa using c) ⟨rfl,fin⟩) d
theorem rE (its:List Value) (n j:Nat) (u:Value):Obj.mapSeq (·.setIfInBounds j u) { cls:=.type "list",data:=.seq its.toArray n } = { cls:=.type "list",data:=.seq (its.set j u).toArray n }:=by
 simp [Obj.mapSeq]
theorem Inv.lst {pins:List (Addr × Obj)} {σ:St} {H:Hp} {s:Shared} {p:Addr} {xs:List V} (I:Inv X pins σ H s) (h:H p=some (.lst xs)) :
  ∃ (its:List Value) (n:Nat),Vals xs its/\s.heap.get? p=some { cls:=.type "list",data:=.seq its.toArray n }/\xs.length<=sizeLine:=by
 obtain ⟨z,its,n,r,e⟩:=I.hok p _ h
 exact ⟨its,n,r,e,z⟩
theorem Inv.lstUpd {its its':List Value} {n a:Nat} (I:Inv X pins σ H s) (h:H p=some (.lst xs)) (d:s.heap.get? p=some { cls:=.type "list",data:=.seq its.toArray n }) (hf:f { cls:=.type "list",data:=.seq its.toArray n } = { cls:=.type "list",data:=.seq its'.toArray a }) (r:Vals ys its') (hz:ys.length<=sizeLine) (t:Nat) :
  Inv X pins σ (upd H p (.lst ys)) { s with heap:=s.heap.update p f,toks:=t }:=by
 have e:(s.heap.update p f).get? p=some { cls:=.type "list",data:=.seq its'.toArray a }:=by
  rw [FA f d (by rw [hf] <;> rfl),hf]
 refine I.write (x:=p) (e:=p) (by rw [h];trivial) (.inl rfl) (fun b u c q=>(FK _ _ (Ne.symm c)).trans q) ⟨_,e⟩ ?_
 exact ⟨hz,its',a,r,e⟩
def sW:V->V->V->Hp->(Hp->Prop)->Prop:=fun o i v H Q=>∃ p xs k j,o=.ref p/\i=.int k/\H p=some (.lst xs)/\ixN xs.length k=some j/\Q (upd H p (.lst (xs.set j v)))
theorem wO:zG X sW:=by
 intro pins s σ H o i v x z u Q I m g l h
 obtain ⟨p,xs,k,j,rfl,rfl,f,w,q⟩:=h
 cases m
 obtain ⟨t,rfl⟩:=g
 obtain ⟨its,n,r,c,hz⟩:=I.lst f
 obtain ⟨h1,h2,h3,e⟩:=tU w
 have b:=r.length
 have y:=nY
 have d:Inv X pins σ (upd H p (.lst (xs.set j v))) { s with heap:=s.heap.update p (Obj.mapSeq (·.setIfInBounds j u)) } :=
  I.lstUpd f c (rE its n j u) (r.set l j) (by rw [List.length_set];exact hz) s.toks
 by_cases h0:0<=k
 ·have a:k.toNat=j:=by
   rw [seqIndex_of h0 e] at h1
   exact FS h1
  exact PySem.W.ki_setAt c h0 (by omega) (by rw [Ft,<- b];exact e) (by rw [a];exact ⟨_,d,q⟩)
 ·have a:(k+(its.toArray.size:Int)).toNat=j:=by
   rw [seqIndex_neg (by omega) h3] at h1
   rw [Ft,<- b]
   exact FS h1
  exact PySem.W.ki_setBack c (by omega) (by rw [Ft,<- b];exact h3) (by omega) (by rw [a];exact ⟨_,d,q⟩)
theorem nz (lo hi:Option Int) (n:Nat):(sliceBounds lo hi none n).1=((HT.sIx n 0 lo:Nat):Int)/\(sliceBounds lo hi none n).2.1=((HT.sIx n n hi:Nat):Int)/\(sliceBounds lo hi none n).2.2=1:=by
 refine ⟨?_,?_,rfl⟩
 ·cases lo with
  | none=>simp [sliceBounds,HT.sIx]
  | some i =>
   simp only [sliceBounds,HT.sIx,Option.getD_none,show (1:Int) > 0 by decide,if_true]
   by_cases h:i < 0
   ·simp only [h,if_true] <;> omega
   ·simp only [h,if_false] <;> omega
 ·cases hi with
  | none=>simp [sliceBounds,HT.sIx]
  | some i =>
   simp only [sliceBounds,HT.sIx,Option.getD_none,show (1:Int) > 0 by decide,if_true]
   by_cases h:i < 0
   ·simp only [h,if_true] <;> omega
   ·simp only [h,if_false] <;> omega
theorem lT (its:List Value) (lo hi:Option Int):slicePick its.toArray lo hi none=((its.drop (HT.sIx its.length 0 lo)).take (HT.sIx its.length its.length hi - HT.sIx its.length 0 lo)).toArray:=by
 obtain ⟨h1,h2,h3⟩:=nz lo hi its.toArray.size
 unfold slicePick
 rw [h1,h2,h3]
 simp only [sliceRange_one,pick_run,Ft] <;> rfl
def Dy (K:FG):V->Option Int->Option Int->Hp->VK->Prop:=fun x lo hi H Q=>∃ a xs,x=.ref a/\SqL K H a xs/\∀ p,H p=none->Q (.ref p) (upd H p (.lst (qi xs lo hi)))
theorem sl_list:SlR X (Dy X.K):=by
 intro pins s σ H x v vl g lo hi sl Q I d f pl pu h
 obtain ⟨a,xs,rfl,e,q⟩:=h
 cases d
 obtain ⟨its,r,c,hz⟩:=I.list e
 have hlen:=r.length
 refine ⟨"list",_,slot_list_getitem.lookup,c.isList.typeIs,?_⟩
 refine wpAny_getItem_list_slice c.isList f pl pu .none (by simp) ?_ (by rw [Ft] <;> omega)
 rw [lT,<- hlen]
 refine ⟨.ref s.heap.objs.size,_,I.laid (t':=s.toks) (o:=.lst (qi xs lo hi)) (fun b ob q=>E8 _ q) (Fq _) ?_,rfl,q _ (I.hok.fresh (Fq _))⟩
 exact ⟨FN (j9 xs lo hi) hz,_,0,(r.drop (HT.sIx xs.length 0 lo)).take (HT.sIx xs.length xs.length hi - HT.sIx xs.length 0 lo),Fg _ rfl⟩
theorem ot:CallR X (.builtin "len") (fun xs H Q=>∃ p ys,xs=[.ref p]/\(SqL X.K H p ys\/SqT X.K H p ys)/\Q (.int ys.length) H):=by
 intro pins s σ H xs us Q I r h
 obtain ⟨p,ys,rfl,a,q⟩:=h
 obtain ⟨u,rfl,c⟩:=bR r
 cases c
 have d:=nY
 rcases a with a | a
 ·obtain ⟨its,b,pl,hz⟩:=I.list a
  have hlen:=b.length
  exact Calls.call_len_list pl.isList (by simp only [Ft] <;> omega) ⟨.int ys.length,H,I.tok _,⟨s.toks+1,by rw [Ft,hlen]⟩,q⟩
 ·obtain ⟨its,b,pl,hz⟩:=I.tuple a
  have hlen:=b.length
  exact len_tuple pl (by simp only [Ft] <;> omega) ⟨.int ys.length,H,I.tok _,⟨s.toks+1,by rw [Ft,hlen]⟩,q⟩
theorem CallR.or (h:CallR X f r) (h':CallR X f r'):CallR X f (fun xs H Q=>r xs H Q\/r' xs H Q):=by
 intro pins s σ H xs us Q I rs q
 rcases q with q | q
 ·exact h pins s σ H xs us Q I rs q
 ·exact h' pins s σ H xs us Q I rs q
theorem oq:CallR X (.type "list") (fun xs H Q=>∃ p ys,xs=[.ref p]/\(SqL X.K H p ys\/SqT X.K H p ys)/\∀ l,H l=none->Q (.ref l) (upd H l (.lst ys))):=by
 intro pins s σ H xs us Q I r h
 obtain ⟨p,ys,rfl,d,q⟩:=h
 obtain ⟨u,rfl,i⟩:=bR r
 cases i
 have fin:∀ (its:List Value),Vals ys its->ys.length<=sizeLine->∀ (h':Heap) (a:Nat),(∀ b o',s.heap.get? b=some o'->h'.get? b=some o') ->
   h'.get? s.heap.objs.size=some { cls:=.type "list",dict:=none,data:=.seq its.toArray a,slots:=#[] }->EP X pins σ Q (.ref s.heap.objs.size) { s with heap:=h' }:=fun its c hz h' a kp e =>
  ⟨.ref s.heap.objs.size,_,I.laid (t':=s.toks) kp (Fq _) (show ObjOk X.prog X.w _ h' _ (.lst ys) from ⟨hz,its,a,c,e⟩),rfl,q _ (I.hok.fresh (Fq _))⟩
 rcases d with d | d
 ·obtain ⟨its,c,pl,hz⟩:=I.list d
  have hlen:=c.length
  obtain ⟨o,g,f,n,hd⟩:=pl.isList
  exact call_list_seq p (.inl rfl) g f hd (fun h' a kp e=>fin its c hz h' a kp e) (by simp only [Ft] <;> omega)
 ·obtain ⟨its,c,pl,hz⟩:=I.tuple d
  have hlen:=c.length
  obtain ⟨o,g,f,n,hd⟩:=pl
  exact call_list_seq p (.inr rfl) g f hd (fun h' a kp e=>fin its c hz h' a kp e) (by simp only [Ft] <;> omega)
theorem l8:CallR X (.type "tuple") (fun xs H Q=>∃ p ys,xs=[.ref p]/\((SqL X.K H p ys/\∀ l,H l=none->Q (.ref l) (upd H l (.tup ys)))\/(SqT X.K H p ys/\Q (.ref p) H))):=by
 intro pins s σ H xs us Q I r h
 obtain ⟨p,ys,rfl,h⟩:=h
 obtain ⟨u,rfl,f⟩:=bR r
 cases f
 rcases h with ⟨c,q⟩ | ⟨c,q⟩
 ·obtain ⟨its,a,pl,hz⟩:=I.list c
  have hlen:=a.length
  refine call_tuple_list pl.isList (fun h' kp=>?_) (by simp only [Ft] <;> omega)
  have d:Inv X pins σ H { s with heap:=h' }:=I.kept (t':=s.toks) kp
  have g:Inv X pins σ (upd H h'.objs.size (.tup ys)) { s with heap:=h'.push { cls:=.type "tuple",data:=.seq its.toArray } } :=
   d.laid (t':=s.toks) (fun b o e=>E8 _ e) (Fq _) (show ObjOk X.prog X.w _ _ _ (.tup ys) from ⟨hz,its,a,IsTupD.new _ _⟩)
  exact ⟨.ref h'.objs.size,_,g,rfl,q _ (d.hok.fresh (Fq _))⟩
 ·obtain ⟨its,a,pl,hz⟩:=I.tuple c
  exact call_tuple_same pl ⟨.ref p,H,I,rfl,q⟩
def tyV (K:FG) (T:String) (x:V) (H:Hp):Prop:=match x with
 | .str _=>T = "str"
 | .int _=>T = "int"
 | .ref p=>(T = "list"/\∃ xs,SqL K H p xs)\/(T = "tuple"/\((∃ o,K.lookup p=some o/\o.cls=.type "tuple"/\o.dict=none)\/∃ xs,H p=some (.tup xs))) \/
   (T = "dict"/\((∃ kvs,H p=some (.dK kvs))\/∃ kvs,H p=some (.dT kvs)))\/(T = "set"/\∃ S n,H p=some (.set S n))
 | _=>False
theorem wn (I:Inv X pins σ H s) (r:RelV x v) (ty:tyV X.K T x H) :
  s.TypeIs v T/\∀ a,v=.ref a->∃ ob,s.heap.get? a=some ob/\ob.dict=none:=by
 cases x with
 | str z =>
  obtain ⟨t,rfl⟩:=r
  cases (show T = "str" from ty)
  exact ⟨typeIs_str s z t,fun _ e=>nomatch e⟩
 | int i =>
  obtain ⟨t,rfl⟩:=r
  cases (show T = "int" from ty)
  exact ⟨typeIs_int s i t,fun _ e=>nomatch e⟩
 | ref p =>
  cases r
  rcases ty with ⟨rfl,xs,j⟩ | ⟨rfl,⟨o,b,h,hd⟩ | ⟨xs,g⟩⟩ | ⟨rfl,b⟩ | ⟨rfl,S,n,b⟩
  ·obtain ⟨its,_,pl,_⟩:=I.list j
   refine ⟨pl.isList.typeIs,fun a e=>?_⟩
   cases e
   obtain ⟨o,n,e,c,hd,_⟩:=pl
   exact ⟨o,e,hd⟩
  ·refine ⟨⟨o,I.kIn p o b,h⟩,fun a e=>?_⟩
   cases e
   exact ⟨o,I.kIn _ o b,hd⟩
  ·obtain ⟨_,its,_,o,e,c,n,d⟩:=I.hok p _ g
   refine ⟨⟨o,e,c⟩,fun a f=>?_⟩
   cases f
   exact ⟨o,e,congrArg Prod.snd d⟩
  ·have z:∃ o,s.heap.get? p=some o/\o.ExactDict:=by
    rcases b with ⟨kvs,b⟩ | ⟨kvs,b⟩
    ·obtain ⟨_,_,_,_,o,_,_,e,ex,_⟩:=I.hok p _ b
     exact ⟨o,e,ex⟩
    ·obtain ⟨_,_,_,_,o,_,_,e,ex,_⟩:=I.hok p _ b
     exact ⟨o,e,ex⟩
   obtain ⟨o,e,ex⟩:=z
   refine ⟨⟨o,e,ex.1⟩,fun a f=>?_⟩
   cases f
   exact ⟨o,e,ex.2.1⟩
  ·obtain ⟨o,_,_,_,e,ex,_⟩:=I.hok p _ b
   refine ⟨⟨o,e,ex.1⟩,fun a f=>?_⟩
   cases f
   exact ⟨o,e,ex.2.1⟩
 | _=>exact False.elim ty
def tBM0 (K:FG) (T:String) (r:V->List V->Hp->VK->Prop) (to:TE):TE:=fun σ H Q=>to σ H fun x H1=>tyV K T x H1/\r x [] H1 Q
def tBM (K:FG) (T:String) (r:V->List V->Hp->VK->Prop) (to:TE) (t:TA):TE:=fun σ H Q=>to σ H fun x H1=>tyV K T x H1/\t σ H1 fun xs H2=>r x xs H2 Q
variable {o e:Expr} {es:List Expr} {to:TE} {t:TA} {name:Str} {apos cpos:Pos} {T id:String} {r:V->List V->Hp->VK->Prop}
theorem DR (i:PlainAttrs T) (slot:Slot T name id) (c:typeOf (.builtin id)=pure (.type "method_descriptor")) (hm:MtR X id r) (g:PE X o to)
  (b:attributeBase o name X.env (eval o X.env)=eval o X.env:=by rfl) (a:(apos.endLine == cpos.line)=true:=by rfl):PE X (.Call (.Attribute o name apos) [] [] cpos) (tBM0 X.K T r to):=by
 intro pins s σ H Q I h
 refine wpAny_Call_method0_late b a (thn (g pins s σ H _ I h) fun v s1 ⟨x,H1,e,d,ty,f⟩=>?_)
 obtain ⟨h1,h2⟩:=wn e d ty
 exact ⟨T,id,i,slot,c,h1,h2,Calls.callWith_builtin rfl (PySem.evalArgs_none (hm pins s1 σ H1 x [] v [] Q e d .nil f))⟩
theorem pe_bm (y:PlainAttrs T) (slot:Slot T name id) (f:typeOf (.builtin id)=pure (.type "method_descriptor")) (hm:MtR X id r) (q:PE X o to) (n:PA X (e :: es) t)
  (c:attributeBase o name X.env (eval o X.env)=eval o X.env:=by rfl)
  (d:((backTo cpos (starEach (e :: es) X.env)).all (fun x=>!x.1) && (backToKw cpos (keywordEach [] X.env)).all (fun x=>x.1.isSome)
   && decide ((e :: es).length+([]:List Keyword).length+(if ([]:List Keyword).isEmpty then 0 else 1) < 30))=true:=by rfl)
  (b:(apos.endLine == cpos.line)=true:=by rfl) (w:starEach (e :: es) X.env=(false,eval e X.env) :: starEach es X.env:=by rfl) (a:(backTo cpos (starEach es X.env)).any (·.1)=false:=by rfl) :
  PE X (.Call (.Attribute o name apos) (e :: es) [] cpos) (tBM X.K T r to t):=by
 intro pins s σ H Q I h
 refine wpAny_Call_method_late c d b rfl (thn (q pins s σ H _ I h) fun v s1 ⟨x,H1,j,i,ty,k⟩=>?_)
 obtain ⟨h1,h2⟩:=wn j i ty
 refine ⟨T,id,y,slot,f,h1,h2,?_⟩
 have g:=n cpos pins s1 σ H1 _ j k
 rw [w] at g ⊢
 refine Calls.callWith_builtin (by show (false || (backTo cpos (starEach es X.env)).any (·.1))=false;rw [a] <;> rfl) (Calls.evalArgs_plain ?_)
 exact thn g fun us s2 ⟨m,H2,u,l,p⟩=>hm pins s2 σ H2 x m v us Q u i l p
end
end L2
namespace L2
open PySem PySem.Spec PyProof.Rows
def MtM (X:Cx) (id:String) (r:V->List V->Hp->VK->Prop):Prop :=
 ∀ (pins:List (Addr × Obj)) (s:Shared) (σ:St) (H:Hp) (x:V) (xs:List V) (v:Value) (us:List Value) (Q:VK),Inv X pins σ H s->RelV x v->Vals xs us->r x xs H Q ->
  wpAny (model X.prog X.w) X.A (call (.builtin id) (v :: us)) (EP X pins σ Q) X.xe s
theorem Vals.one:∀ {x:V} {us:List Value},Vals [x] us->∃ u,us=[u]/\RelV x u
 | _,_,.cons r .nil=>⟨_,rfl,r⟩
theorem Vals.two:∀ {x y:V} {us:List Value},Vals [x,y] us->∃ u v,us=[u,v]/\RelV x u/\RelV y v
 | _,_,_,.cons r (.cons q .nil)=>⟨_,_,rfl,r,q⟩
theorem Vals.rep (h:Vals xs us):∀ k:Nat,Vals (List.replicate k xs).flatten (List.replicate k us).flatten
 | 0=>.nil
 | k+1=>by
  rw [List.replicate_succ,List.replicate_succ,List.flatten_cons,List.flatten_cons]
  exact Vals.append h (Vals.rep h k)
section
variable {X:Cx} {pins:List (Addr × Obj)} {σ:St} {H:Hp} {s:Shared} {l b:Addr} {xs ys zs:List V}
theorem Inv.lset {its its':List Value} {n:Nat} {t':Nat} (I:Inv X pins σ H s) (c:H l=some (.lst xs)) (e:s.heap.get? l=some { cls:=.type "list",data:=.seq its.toArray n }) (hf:f its.toArray=its'.toArray) (b:Vals ys its') (hz:ys.length<=sizeLine) :
  Inv X pins σ (upd H l (.lst ys)) { s with heap:=s.heap.update l (Obj.mapSeq f),toks:=t' }:=by
 have q:=PySem.IsL.update e f
 rw [hf] at q
 refine I.write (x:=l) (e:=l) (by rw [c];exact trivial) (.inl rfl) (fun d u a hu=>(FK s.heap (Obj.mapSeq f) (Ne.symm a)).trans hu) ⟨_,q⟩ ?_
 exact ⟨hz,its',_,b,q⟩
theorem Inv.lnew {t':Nat} (I:Inv X pins σ H s) (a:Vals ys its) (hz:ys.length<=sizeLine) :
  Inv X pins σ (upd H s.heap.objs.size (.lst ys)) { s with heap:=s.heap.push { cls:=.type "list",data:=.seq its.toArray },toks:=t' } :=
 I.laid (fun _ _ q=>E8 _ q) (Fq _) ⟨hz,its,0,a,Fg _ rfl⟩
theorem Inv.fresh (I:Inv X pins σ H s):H s.heap.objs.size=none:=I.hok.fresh (Fq _)
theorem Inv.lstM (I:Inv X pins σ H s) (a:H l=some (.lst xs)):xs.length<=sizeLine/\∃ (its:List Value) (n:Nat),Vals xs its/\xs.length=its.length/\s.heap.get? l=some { cls:=.type "list",data:=.seq its.toArray n }:=by
 obtain ⟨z,its,n,r,e⟩:=I.hok l _ a
 exact ⟨z,its,n,r,r.length,e⟩
theorem xZ {n:Nat} (h:n<=sizeLine):Builtin.List.listTooLong n=false:=by
 unfold Builtin.List.listTooLong
 exact Fw (by omega)
end
section
variable {X:Cx}
def tj:V->List V->Hp->VK->Prop:=fun x a H Q=>∃ l xs y,x=.ref l/\a=[y]/\H l=some (.lst xs)/\xs.length < sizeLine/\Q .non (upd H l (.lst (xs ++ [y])))
theorem vd:MtM X "list.append" tj:=by
 intro pins s σ H x f v us Q I b d h
 obtain ⟨l,xs,y,rfl,rfl,a,hz,q⟩:=h
 cases b
 obtain ⟨u,rfl,c⟩:=d.one
 obtain ⟨z,its,n,r,g,e⟩:=I.lstM a
 refine call_meets F.slot_list_append ⟨_,e,rfl⟩ F.entry_list_append (F.args_list_append_2 _ _) (PySem.list_append l its.toArray n u (by rw [Ft];omega)) ⟨e,?_⟩
 refine ⟨.non,_,I.lset (its':=its ++ [u]) a e (by simp) (r.append (.cons c .nil)) ?_,rfl,q⟩
 rw [FB,List.length_singleton]
 lia
def sZ:V->List V->Hp->VK->Prop:=fun x a H Q=>∃ l b xs zs,x=.ref l/\a=[.ref b]/\H l=some (.lst xs)/\H b=some (.lst zs)/\xs.length+zs.length<=sizeLine/\Q .non (upd H l (.lst (xs ++ zs)))
theorem u9:MtM X "list.extend" sZ:=by
 intro pins s σ H x t v us Q I f o h
 obtain ⟨l,b,xs,zs,rfl,rfl,d,i,hz,q⟩:=h
 cases f
 obtain ⟨u,rfl,m⟩:=o.one
 cases m
 obtain ⟨z,its,n,r,y,e⟩:=I.lstM d
 obtain ⟨w,a,j,g,p,k⟩:=I.lstM i
 have hsz:its.toArray.size+a.toArray.size<=sizeLine:=by rw [Ft,Ft];omega
 have c:¬ (!its.toArray.isEmpty && Builtin.List.listTooLong (its.toArray.size+a.toArray.size))=true:=by
  rw [xZ hsz,Bool.and_false]
  exact Fr
 refine call_meets F.slot_list_extend ⟨_,e,rfl⟩ F.entry_list_extend (F.args_list_extend_2 _ _)
  (AutoSeq1.list_extend_list_list_0 l its.toArray n b a.toArray j c (by rw [Ft];omega) (by omega)) ⟨e,k,?_⟩
 refine ⟨.non,_,I.lset (its':=its ++ a) d e (by simp) (r.append g) ?_,rfl,q⟩
 rw [FB]
 lia
def AD:R2:=fun x y H Q=>∃ l b xs zs,x=.ref l/\y=.ref b/\H l=some (.lst xs)/\H b=some (.lst zs)/\xs.length+zs.length<=sizeLine/\∀ p,H p=none->Q (.ref p) (upd H p (.lst (xs ++ zs)))
theorem Ea:OpR X (binaryOp .Add) AD:=by
 intro pins s σ H x y v u Q I c i h
 obtain ⟨l,b,xs,zs,rfl,rfl,j,f,hz,q⟩:=h
 cases c
 cases i
 obtain ⟨z,its,n,r,t,e⟩:=I.lstM j
 obtain ⟨p,a,o,d,k,g⟩:=I.lstM f
 refine PySem.P.add_list e g ?_ (by rw [Ft,Ft];omega)
 have m:its.toArray ++ a.toArray=(its ++ a).toArray:=by simp
 rw [m]
 exact ⟨.ref _,_,I.lnew (t':=s.toks) (r.append d) (by rw [FB];omega),rfl,q _ I.fresh⟩
end
end L2
namespace Att
open PySem PySem.W PySem.Calls PyProof.Rows
theorem kh:∀ (ns:List Int) (c:List Value),WellAll P h c (ns.map WData.int)->IntsAre c ns:=by
 intro ns
 induction ns with
 | nil =>
  intro c w
  rw [List.map_nil] at w
  cases w
  exact .nil
 | cons n ns ih =>
  intro c w
  rw [Fu] at w
  cases w with
  | cons a b =>
   cases a
   exact .cons _ _ (ih _ b)
theorem uK {l:OpenLaw} {n:Nat} (m:l.most=some n) (b:l.row.toRowW.claim.pre args=true) (g:WellAll P h vals args) :
  ∃ a i ns,vals=[Value.ref a]/\args=[WData.list (ns.map WData.int)]/\h.get? a=some { cls:=.type "list",data:=.seq i.toArray }/\IntsAre i ns/\ns.length<=n:=by
 have f:WShape.hasAll [] args [.list .int]=true:=(pre_splitW b).1
 have j:l.pre.holds [] { args:=args }=true:=(pre_splitW b).2
 obtain ⟨d,r,rfl,h1,h2⟩:=hasAllW_cons f
 obtain rfl:=hasAllW_nil h2
 obtain ⟨xs,rfl,h3⟩:=hasW_list h1
 obtain ⟨ns,rfl⟩:=items_int h3
 have hlen:ns.length<=n:=by
  unfold OpenLaw.pre at j
  have c:(WTm.not (.lt (.lit (.int (n:Int))) (.len (.arg 0)))).holds [] { args:=[.list (ns.map .int)] }=true:=by
   have c:=(holds_andW j).1
   rw [m] at c
   exact c
  have e:=condW_of c (w_not (w_lt w_lit (w_len_list (w_arg rfl))))
  rw [Fh] at e
  refine Nat.le_of_not_lt fun q=>?_
  have k:(n:Int) < ((ns.length:Nat):Int):=by omega
  first
   | (rw [Fv k] at e;exact absurd e (by decide))
   | (simp at e;omega)
 cases g with
 | cons w1 w2 =>
  cases w2
  cases w1 with
  | list ho hall=>exact ⟨_,_,ns,rfl,rfl,ho,kh ns _ hall,hlen⟩
theorem uW (l:OpenLaw) (args:List WData):l.row.toRowW.claim.post args (.bool true) args=true :=
 postW_of (r:=l.row.toRowW) (X:=(true == true))
  (show WShape.has [] (.bool true) .bool=true by first | rfl | decide | simp [WShape.has,WShape.arms,WShape.armsAll])
  (show (WTm.eq .res (.lit (.bool true))).value [] { args:=args,res:=some (.bool true),after:=args }=some (.bool (true == true)) from w_eq_bool (w_res rfl) w_lit) rfl
theorem attach_call {l:OpenLaw} {n:Nat} (u:l.most=some n) (j:d.params.defaults=[]) (call:∀ (w:World) (s₀ b:Shared) (mg mb:Str->Option Value) (e:Addr) (o:Obj) (pm cd doc:Value) (a:Addr) (c:List Value) (ns:List Int),
   Ground q loose [] XP w s₀ mg mb b.heap->YP w b.heap ->
   b.heap.get? e=some o->o.data=.func (docDef d.name d.params d.body d.scope pm cd doc)->b.heap.CodeRec cd d.name->mg d.name=some (.ref e) ->
   b.heap.get? a=some { cls:=.type "list",data:=.seq c.toArray }->IntsAre c ns->ns.length<=n->b.gens = #[] ->
   codeAny (model l.prog w) callerA (.call (.ref e) ⟨[.ref a],[]⟩) (fun r s'=>r=.ok (.ret (.bool true))/\OldK b.heap s'.heap/\s'.os=b.os/\AllBare s'.gens) b) :
  WalkO q loose XP YP l.row.toRowW d [] (fun f c=>PySem.call f c):=by
 intro w s₀ b mg mb G Y e o pm cd doc v kV z hd m s i y args vals as h p x k A
 obtain rfl:v=.none:=Dflts.none s j
 obtain rfl:kV=.none:=Dflts.noKw s
 obtain ⟨a,c,ns,rfl,rfl,g,hints,hlen⟩:=uK u h k
 refine enter_call (codeAny_mono (call w s₀ b mg mb e o pm cd doc a c ns G Y z (fd_plain hd) m i g hints hlen y) fun r s' B=>?_)
 obtain ⟨rfl,h2,h3,t⟩:=B
 exact ⟨.inl ⟨.bool true,.bool true,[],rfl,fun _=>rfl,.bool true,uW l _,fun _=>⟨List.Pairwise.nil,fun _ hm=>(nomatch hm)⟩⟩,h2,h3,t⟩
end Att
namespace L2
open PySem PySem.Spec PyProof.Rows
theorem mi:∀ {a:List Value} {ns:List Int},IntsAre a ns->Vals (ns.map V.int) a
 | _,_,.nil=>.nil
 | _,_,.cons n t h=>.cons ⟨t,rfl⟩ (mi h)
def B0 (H:Hp):Prop:=∀ b,H b=none\/∃ o xs,H b=some (.frz o (.lst xs))
set_option tactic.hygienic true in
theorem yD {K:FG} {k:Nat} (M:K.In s₁.heap) (l:s₁.heap.Ns mainGlobals mg) (f:s₁.heap.Ns builtinsNs mb) (E:∀ x:Str,x ≠ "__name__"->mb x=bootBuiltins x) (B:s₁.heap.NoLimit) (hg:s₁.gens = #[]) (C:s₁.heap.get? a=some { cls:=.type "list",data:=.seq vs.toArray }) (hi:IntsAre vs ns) (O:ns.length<=sizeLine) (S:Room k callerA) (F:∀ base:Heap,K.In base->base.Ns mainGlobals mg->FnOk P w K mg base CX k fa fd [x] sp) (i:∀ (s:Shared) (u:Value),BindsTo s fd ⟨[u],[]⟩ [(x,u)]) (D:∀ H:Hp,B0 H->SqL K H a (ns.map V.int)->sp [.ref a] H (fun v _=>v=.bl true) fun _ _ _=>False) (J:∀ H e s',CX [] H s₁ (fun _ _ _=>False) e s'->False) :
  codeAny (model P w) callerA (.call (.ref fa) ⟨[.ref a],[]⟩) (fun r s'=>r=.ok (.ret (.bool true))/\OldK s₁.heap s'.heap/\s'.os=s₁.os/\AllBare s'.gens) s₁:=by
 have N:=mi hi
 have t:=hi.length
 have core:∀ H:Hp,B0 H->SqL K H a (ns.map V.int)->HOk P w H s₁.heap->(∀ b,H b ≠ none->b=a)->(H a ≠ none->K.lookup a=none) ->
   codeAny (model P w) callerA (.call (.ref fa) ⟨[.ref a],[]⟩) (fun r s'=>r=.ok (.ret (.bool true))/\OldK s₁.heap s'.heap/\s'.os=s₁.os/\AllBare s'.gens) s₁:=by
  intro H R hS hok Q W
  have c:∀ {b:Addr} {o:Obj},s₁.heap.get? b=some o->H b=none->(n6 s₁.heap H).get? b=some o:=fun e n=>yT e n
  have L:∀ {b:Addr} {o:Obj} {es:Array DictEntry} {y:Nat},s₁.heap.get? b=some o->o.data=.dict es y->H b=none:=fun {b o es y} e d=>by
   cases q:H b with
   | none=>rfl
   | some u =>
    have I:b=a:=Q b (by rw [q];simp)
    subst I
    rw [C] at e;cases e
    have d':Data.seq vs.toArray _=Data.dict es y:=d
    cases d'
  have g:∀ {b:Addr} {m:Str->Option Value},s₁.heap.Ns b m->(n6 s₁.heap H).Ns b m:=fun {b m} ⟨o,es,y,e,d,r⟩=>⟨o,es,y,c e (L e d),d,r⟩
  have A:K.In (n6 s₁.heap H):=fun b o e=>c (M b o e) (by
   cases q:H b with
   | none=>rfl
   | some u =>
    have I:b=a:=Q b (by rw [q];simp)
    subst I
    rw [W (by rw [q];simp)] at e;cases e)
  have Z:Mod K mg (n6 s₁.heap H):=⟨A,g l,⟨mb,g f,E⟩,let ⟨mc,h1,h2⟩:=B;⟨mc,g h1,h2⟩⟩
  have T:Env0 P w K mg (n6 s₁.heap H) callerA [] s₁ H:=⟨rfl,Z,fun b o e=>A4 e,Nat.le_of_eq (vA _ _),trivial,fun b f=>absurd (show b ∈ ([]:List Addr) from f) (by simp),hok,.of_eq hg⟩
  refine codeAny_mono ((F _ A (g l)).run callerA [] s₁ H ⟨[.ref a],[]⟩ [.ref a] [.ref a] _ _ S T (i s₁ (.ref a)) (.cons rfl .nil) (D H R hS)) fun r s' h=>?_
  cases r with
  | error e=>exact (J H e s' h).elim
  | ok fl =>
   cases fl with
   | next=>exact False.elim h
   | brk=>exact False.elim h
   | cont=>exact False.elim h
   | ret u =>
    obtain ⟨v,H',os,bare,un,p,r',q⟩:=h
    have X:v=.bl true:=q
    subst X
    obtain rfl:u=Value.bool true:=r'
    refine ⟨rfl,OldK.of_keep fun b o e=>?_,os,bare⟩
    cases q:H b with
    | none=>exact un.keep b o e q (by intro z;exact absurd (show b ∈ ([]:List Addr) from z) (by simp)) (by simp)
    | some u =>
     rcases R b with z | ⟨ob,xs,z⟩
     ·rw [q] at z;cases z
     ·have U:=un.frzs b ob _ z
      obtain ⟨e1,_⟩:=hok b _ z
      obtain ⟨Y,_⟩:=p b _ U
      rw [e] at e1;cases e1
      exact Y
 cases G:K.lookup a with
 | some o =>
  have e:=M a o G
  rw [C] at e
  cases e
  refine core (fun _=>none) (fun _=>.inl rfl) (.inr ⟨_,vs.toArray,_,G,rfl,rfl,rfl,by rw [Ft,t];exact O,by simpa using N⟩) (fun b u z=>by have j:(none:Option HO)=some u:=z;cases j) (fun b z=>absurd rfl z) fun z=>absurd rfl z
 | none =>
  refine core (fun b=>if b=a then some (.frz { cls:=.type "list",data:=.seq vs.toArray } (.lst (ns.map V.int))) else none) (fun b=>?_) (.inl (.inr ⟨{ cls:=.type "list",data:=.seq vs.toArray },if_pos rfl⟩)) (fun b u z=>?_) (fun b z=>?_) fun _=>G
  ·by_cases f:b=a
   ·exact .inr ⟨_,_,if_pos f⟩
   ·exact .inl (if_neg f)
  ·by_cases f:b=a
   ·have j:=(if_pos f).symm.trans z
    cases j
    subst f
    exact ⟨C,by rw [Fh];exact O,vs,_,N,C⟩
   ·have j:=(if_neg f).symm.trans z
    cases j
  ·by_cases f:b=a
   ·exact f
   ·exact absurd (if_neg f) z
end L2
namespace L2
open PySem PySem.Spec PyProof.Rows
end L2
namespace L2
open PySem PySem.Spec PyProof.Rows
abbrev CX0:CXT:=fun _ _ _ _ _ _=>False
abbrev E0:XK:=fun _ _ _=>False
theorem pass0:sG CX0 X E0:=fun _ _ _ _ _ _ _ h=>h.elim
structure Fun (K:FG) (x qual:Str) (st:Stmt) (f:Addr) (fd:FuncData):Prop where
 ex:∃ (oc:Value) (od:Option Addr) (kV doc pm:Value) (an:Option Addr) (cdv ct:Value) (osl:Array (Option Value)),
  fd=PySem.W.fnOf x qual (aQ st) (aJ st) (ag st) .none kV doc pm an cdv ct/\K.lookup f=some ⟨oc,od,.func fd,osl⟩/\PySem.W.codeIn K cdv qual=true
 kp:PySem.W.keepIn K (.ref f)=true
section
variable {P:Program} {w:World} {K:FG} {mg:Str->Option Value} {base:Heap}
theorem Fun.ok {st:Stmt} {k:Nat} (F:Fun K x qual st f fd) (S:FnScope N ps (ag st)) (len:∀ b H Q E,sp b H Q E->b.length=ps.length) (c:∀ (a:Value) (A:Around) (outer:List Env) (s:Shared) (H:Hp) (b:List V) (Q:VK) (E:XK),Room k (A.deeper (envOfC qual (ag st) s.heap.objs.size f a))->sp b H Q E ->
   ∃ t,PSs (qh CX0 P w K mg base N qual (ag st) f a A outer s H E).nox (aJ st) t/\t { nx:=fun _ H'=>Q .non H',rt:=Q } (jO N b) H):FnOk P w K mg base CX0 (k+1) f fd ps sp:=by
 obtain ⟨m,l,kV,doc,pm,an,a,ct,j,rfl,g,e⟩:=F.ex
 refine fn_of g e S len fun A outer s H b Q E i d=>?_
 obtain ⟨t,h,q⟩:=c a A outer s H b Q E i d
 exact ⟨t,h.nox,q⟩
theorem Fun.binds {st:Stmt} (F:Fun K x qual st f fd) (h:∀ (kV doc pm:Value) (an:Option Addr) (a ct:Value) (us:List Value),us.length=ps.length->bindArgs (PySem.W.fnOf x qual (aQ st) (aJ st) (ag st) .none kV doc pm an a ct) ⟨us,[]⟩=pure (ps.zip us)):Binds K fd ps []:=by
 obtain ⟨g,e,kV,doc,pm,an,a,ct,b,rfl,d,c⟩:=F.ex
 exact .all (h kV doc pm an a ct)
theorem EC {st:Stmt} {kV doc pm a ct:Value} (l:K.lookup f=some ⟨oc,od,.func (PySem.W.fnOf x qual (aQ st) (aJ st) (ag st) .none kV doc pm an a ct),osl⟩) (c:PySem.W.codeIn K a qual=true) (k:PySem.W.keepIn K (.ref f)=true):Fun K x qual st f (PySem.W.fnOf x qual (aQ st) (aJ st) (ag st) .none kV doc pm an a ct):=⟨⟨oc,od,kV,doc,pm,an,a,ct,osl,rfl,l,c⟩,k⟩
end
theorem hu_of {k:Nat} (a:Room k A):A.units+1 < cLine:=Nat.lt_of_le_of_lt (Nat.add_le_add_left (by decide:1<=64) _) a.units
def Same (H H':Hp):Prop:=∀ b o,H b=some o->H' b=some o
theorem Same.refl (H:Hp):Same H H:=fun _ _ h=>h
theorem Same.trans (a:Same H H1) (b:Same H1 H2):Same H H2:=fun c o h=>b c o (a c o h)
theorem Same.free (e:Same H H') (h:H' l=Option.none):H l=Option.none:=by
 cases q:H l with
 | none=>rfl
 | some o =>
  rw [e l o q] at h
  cases h
end L2
end
section
namespace L2
open PySem PySem.Spec PyProof.Rows
section
variable {prog:Program} {w:World} {A:Around} {E:Value->Shared->Prop} {s:Shared}
theorem oU (ty:s.TypeIs (.ref d) "dict") (h:wpAny (model prog w) A.in1 (dictSet d k v) Q E s) :
  wpAny (model prog w) A (setItem (.ref d) k v) Q E s:=by
 unfold setItem
 refine E5 (E3 (wpAny_sequenceKey ty (by decide) (E3 (wpAny_callSpecial?_slot ty slot_dict_setitem (wpAny_call_entry slot_dict_setitem ty entry_dict_setitem ?_ (args_dict_setitem _ _ _))))))
 refine E3 (wpAny_notOrdered_dict ty ?_)
 refine (?_:wpAny _ _ (dictSet d k v >>= _) _ _ s)
 exact E3 (wpAny_mono h (fun _ _ z=>E4 ⟨_,rfl,E4 z⟩) fun _ _ z=>z)
theorem mq {c:Int} {b:Nat} {F:Option Nat->Prop} (a:s.heap.get? d=some o) (g:o.ExactDict) (hd:o.data=.dict es b) (hz:es.size<=sizeLine) (find:wpAny (model prog w) A (dictFind d key c) (fun r s'=>s'=s/\F r) E s) (old:∀ i h' o',F (some i)->h'.get? d=some o'->o'.ExactDict->o'.data=.dict (es.modify i fun e=>{ e with val:=v }) b->Heap.SameBut d s.heap h'->Q () { s with heap:=h' }) (new:∀ h' o',F none->h'.get? d=some o'->o'.ExactDict->o'.data=.dict (es.push ⟨c,key,v⟩) (b+1)->Heap.SameBut d s.heap h'->Q () { s with heap:=h' }) :
  wpAny (model prog w) A (dictSetHashed d key c v) Q E s:=by
 unfold dictSetHashed
 refine E5 (E3 (wpAny_mono find ?_ fun _ _ z=>z))
 rintro (_ | i) _ ⟨rfl,f⟩
 ·exact E3 (wpAny_rule (wpAny_updateDictKeys (hz:=hz) a hd (new _ _ f (FA _ a (Obj.isFreed_of_dict (Obj.data_mapDictKeys hd _))) (g.mapDictKeys _) (Obj.data_mapDictKeys hd _) (Heap.SameBut.update ..))))
 ·exact E3 (wpAny_rule (E3 (wpAny_updateDict a hd (wpAny_point (old i _ _ f (FA _ a (Obj.isFreed_of_dict (Obj.data_mapDict hd _))) (g.mapDict _) (Obj.data_mapDict hd _) (Heap.SameBut.update ..))))))
end
section
variable {prog:Program} {w:World} {K:Type} [DecidableEq K] {A:Around} {E:Value->Shared->Prop} {s:Shared} {d:Addr} {k:K}
section
variable {knd:HeapKind prog w K}
def DictOfHE (knd:HeapKind prog w K) (h:Heap) (d:Addr) (xs:List (K × Addr × Value)):Prop :=
 ∃ o es a,h.get? d=some o/\o.ExactDict/\o.data=.dict es a/\es.toList=xs.map (entryOfKey knd)/\(∀ x ∈ xs,knd.is h x.1 x.2.1)/\(xs.map (·.1)).Nodup/\a=es.size
theorem DictOfHE.of (x:DictOfHE knd h d xs):h.DictOfH knd d xs:=let ⟨o,es,a,h1,h2,h3,e,b,c,_⟩:=x;⟨o,es,a,h1,h2,h3,e,b,c⟩
theorem u8 {y:Addr × Value} (c:(xs.map (·.1)).Nodup) (h:k ∉ xs.map (·.1)):((xs ++ [(k,y)]).map (·.1)).Nodup:=by
 rw [List.map_append]
 exact List.nodup_append.mpr ⟨c,List.nodup_cons.mpr ⟨List.not_mem_nil,List.nodup_nil⟩,fun x a y b e=>h (by have:=FH.mp b;subst this;exact e ▸ a)⟩
theorem l7 (hu:knd.room A) (b:knd.is s.heap k a) (hm:DictOfHE knd s.heap d xs) (n:∀ h',DictOfHE knd h' d (storedH xs k a v)->Heap.SameBut d s.heap h'->Q () { s with heap:=h',toks:=s.toks+knd.draws k }) (hsz:xs.length<=sizeLine:=by size_fits):wpAny (model prog w) A (dictSet d (.ref a) v) Q E s:=by
 obtain ⟨o,es,t,m,r,hd,he,c,l,rfl⟩:=hm
 unfold dictSet
 refine E5 (E3 (knd.pyHash hu b ?_))
 refine mq (s:={ s with toks:=s.toks+knd.draws k }) (F:=fun | none=>∀ (j:Nat) (p:Addr × Value),xs[j]? ≠ some (k,p) | some j=>∃ p,xs[j]?=some (k,p)) m r hd (size_of_entries he ▸ hsz)
  (wpAny_dictFind_heap (s:={ s with toks:=s.toks+knd.draws k }) hu b m hd he c l (fun z=>⟨rfl,z⟩) fun j p z=>⟨rfl,p,z⟩) ?_ ?_
 ·rintro i h' o' ⟨p,f⟩ g1 g2 g3 h
  have at':=storedH_old (atKey_of_get l f) a v
  refine n h' ⟨o',_,_,g1,g2,g3,?_,?_,?_,?_⟩ h <;> try rw [at']
  ·rw [Array.toList_modify,he]
   exact modify_map_putAt (entryOfKey knd) _ k v (fun _ _=>rfl) l f
  ·intro x g
   obtain ⟨y,q,rfl⟩:=Fo.mp g
   have:=knd.keeps (c y q) m hd h
   by_cases e:y.1=k <;> simpa [putAt,e] using this
  ·exact (keys_map_putAt xs k v).symm ▸ l
  ·exact (Array.size_modify).symm
 ·intro h' o' f g1 g2 g3 h
  have at':=storedH_new (atKey_none_of_get f) a v
  refine n h' ⟨o',_,_,g1,g2,g3,?_,?_,?_,?_⟩ h <;> try rw [at']
  ·simp [he,entryOfKey]
  ·intro x g
   rcases Ff.mp g with g | g
   ·exact knd.keeps (c x g) m hd h
   ·cases FH.mp g;exact knd.keeps b m hd h
  ·exact u8 l (not_mem_keys_of_get f)
  ·simp
theorem lU (hu:knd.room A.in1) (b:knd.is s.heap k a) (hm:DictOfHE knd s.heap d xs) (c:∀ h',DictOfHE knd h' d (storedH xs k a v)->Heap.SameBut d s.heap h'->Q () { s with heap:=h',toks:=s.toks+knd.draws k }) (hsz:xs.length<=sizeLine:=by size_fits):wpAny (model prog w) A (setItem (.ref d) (.ref a) v) Q E s :=
 oU hm.of.typeIs (l7 (hsz:=hsz) hu b hm c)
end
section
variable {knd:KeyKind prog w K} {key:Value}
theorem lF (a:knd.is k key=true) (hm:DictOfE knd s.heap d kvs) (l:∀ h',DictOfE knd h' d (stored kvs k v)->Heap.SameBut d s.heap h'->Q () { s with heap:=h',toks:=s.toks+1 }) (hsz:kvs.length<=sizeLine:=by size_fits):wpAny (model prog w) A (dictSet d key v) Q E s:=by
 obtain ⟨o,⟨es⟩,t,m,p,hd,c,b,h,rfl⟩:=hm
 have same:=b.findIdx k
 have hz:(⟨es⟩:Array DictEntry).size<=sizeLine:=by have:=b.length;simp at this ⊢;omega
 unfold dictSet
 refine E5 (E3 (knd.pyHash a ?_))
 refine mq (s:={ s with toks:=s.toks+1 }) (F:=fun r=>es.findIdx? (fun e=>knd.is k e.key)=r) m p hd hz
  (wpAny_dictFind_of (s:={ s with toks:=s.toks+1 }) a m hd c ⟨rfl,by simp⟩) ?_ ?_
 ·intro i h' o' f g1 g2 g3 g
  have at':stored kvs k v=_:=if_pos (any_of_findIdx_some (same.symm.trans f))
  refine l h' ⟨o',_,_,g1,g2,g3,c.modify _ _,?_,?_,(Array.size_modify).symm⟩ g <;> rw [at']
  ·simpa using b.modify h f v
  ·exact (keys_map_store kvs k v).symm ▸ h
 ·intro h' o' f g1 g2 g3 g
  have no:=not_mem_of_findIdx_none (same.symm.trans f)
  have at':stored kvs k v=_:=if_neg fun z=>by
   obtain ⟨x,j,e⟩:=List.any_eq_true.mp z
   exact no (Fo.mpr ⟨x,j,of_decide_eq_true e⟩)
  refine l h' ⟨o',_,_,g1,g2,g3,c.push a _,?_,?_,by simp⟩ g <;> rw [at']
  ·simpa using b.append a (knd.hash k) v
  ·rw [List.map_append]
   exact List.nodup_append.mpr ⟨h,List.nodup_cons.mpr ⟨List.not_mem_nil,List.nodup_nil⟩,fun x j y n e=>no (by cases FH.mp n;have q:x=k:=e;exact q ▸ j)⟩
theorem kN (a:knd.is k key=true) (hm:DictOfE knd s.heap d kvs) (b:∀ h',DictOfE knd h' d (stored kvs k v)->Heap.SameBut d s.heap h'->Q () { s with heap:=h',toks:=s.toks+1 }) (hsz:kvs.length<=sizeLine:=by size_fits):wpAny (model prog w) A (setItem (.ref d) key v) Q E s :=
 oU hm.of.typeIs (lF (hsz:=hsz) a hm b)
end
end
section
variable {κ:Type} [DecidableEq κ]
def kb (kvs:List (κ × V)) (k:κ):Option V:=(kvs.find? fun a=>decide (a.1=k)).map (·.2)
def ff (kvs:List (κ × V)) (k:κ) (v:V):List (κ × V) :=
 if (kvs.any fun a=>decide (a.1=k))=true then kvs.map (fun a=>if a.1=k then (a.1,v) else a) else kvs ++ [(k,v)]
theorem iK {p:κ × V} {k:κ} (e:p.1=k):kb (p :: r) k=some p.2:=by simp [kb,List.find?_cons,e]
theorem iL {p:κ × V} {k:κ} (e:¬ p.1=k):kb (p :: r) k=kb r k:=by simp [kb,List.find?_cons,e]
theorem oN (k:κ):∀ kvs:List (κ × V),(kvs.any fun a=>decide (a.1=k))=(kb kvs k).isSome
 | []=>rfl
 | p :: r=>by
  rw [List.any_cons]
  by_cases e:p.1=k
  ·simp only [iK e,Fv e,Bool.true_or,Option.isSome_some]
  ·rw [iL e,Fw e,Bool.false_or];exact oN k r
theorem j4 (kvs:List (κ × V)) (k:κ) (v:V):(ff kvs k v).length<=kvs.length+1:=by
 unfold ff
 split
 ·rw [Fh];omega
 ·rw [FB,FC,List.length_nil];omega
theorem RelO.isSome_eq (r:RelO o u):o.isSome=u.isSome:=by
 cases o with
 | none=>cases u with
  | none=>rfl
  | some _=>exact (show False from r).elim
 | some _=>cases u with
  | none=>exact (show False from r).elim
  | some _=>rfl
theorem RelO.getD (r:RelO o u) (a:RelV d d'):RelV (o.getD d) (u.getD d'):=by
 cases o with
 | none=>cases u with
  | none=>exact a
  | some _=>exact (show False from r).elim
 | some _=>cases u with
  | none=>exact (show False from r).elim
  | some _=>exact r
theorem KV.val (r:KV kvs vs) (k:κ):RelO (kb kvs k) (valueAt vs k):=by
 unfold KV at r
 induction r with
 | nil=>exact True.intro
 | @cons p q ps qs h t ih =>
  obtain ⟨h1,h2⟩:=h
  by_cases e:p.1=k
  ·have a:q.1=k:=h1.symm.trans e
   have b:valueAt (q :: qs) k=some q.2:=by simp [valueAt,List.find?_cons,a]
   rw [iK e,b];exact h2
  ·have a:¬ q.1=k:=fun z=>e (h1.trans z)
   have b:valueAt (q :: qs) k=valueAt qs k:=by simp [valueAt,List.find?_cons,a]
   rw [iL e,b];exact ih
theorem KV.any (r:KV kvs vs) (k:κ):(kvs.any fun a=>decide (a.1=k))=vs.any fun a=>decide (a.1=k):=by
 unfold KV at r
 induction r with
 | nil=>rfl
 | cons h t ih=>rw [List.any_cons,List.any_cons,ih,h.1]
theorem KV.repl (r:KV kvs vs) (k:κ) (b:RelV y u) :
  KV (kvs.map fun a=>if a.1=k then (a.1,y) else a) (vs.map fun a=>if a.1=k then (a.1,u) else a):=by
 unfold KV at r ⊢
 induction r with
 | nil=>exact .nil
 | @cons p q ps qs h t ih =>
  rw [Fu,Fu]
  refine .cons ?_ ih
  obtain ⟨h1,h2⟩:=h
  by_cases e:p.1=k
  ·rw [if_pos e,if_pos (h1.symm.trans e)];exact ⟨h1,b⟩
  ·rw [if_neg e,if_neg (fun z=>e (h1.trans z))];exact ⟨h1,h2⟩
theorem KV.put (r:KV kvs vs) (k:κ) (a:RelV y u):KV (ff kvs k y) (stored vs k u):=by
 unfold ff stored
 rw [r.any k]
 by_cases e:(vs.any fun b=>decide (b.1=k))=true
 ·rw [if_pos e,if_pos e];exact r.repl k a
 ·rw [if_neg e,if_neg e];exact Paired.snoc r ⟨rfl,a⟩
theorem KV.length {kvs:List (κ × V)} (r:KV kvs vs):kvs.length=vs.length:=Paired.length r
end
theorem yK (r:RelV (kV k) u):(bt P w).is k u=true:=by
 cases k with
 | inl i=>obtain ⟨t,e⟩:=(show ∃ t,u=Value.int i t from r);subst e;exact pM P w i t
 | inr x=>obtain ⟨t,e⟩:=(show ∃ t,u=Value.str x t from r);subst e;exact pL P w x t
theorem mZ:∀ {ks:List Key} {us:List Value},Vals (ks.map kV) us->ItemsAre (bt P w) ks us
 | [],_,r=>by rw [List.map_nil] at r;cases r;exact .nil
 | k :: ks,_,r=>by
  rw [Fu] at r
  cases r with
  | cons h t=>exact .cons (yK h) (mZ t)
abbrev KT (H:Hp):List (List Key × V)->List (List Key × Addr × Value)->Prop:=Paired fun p q=>p.1=q.1/\H q.2.1=some (.tup (p.1.map kV))/\RelV p.2 q.2.2
theorem KT.val (r:KT H kvs xs) (k:List Key):RelO (kb kvs k) ((atKey xs k).map (·.2)):=by
 induction r with
 | nil=>exact True.intro
 | @cons p q ps qs h t ih =>
  obtain ⟨h1,_,h2⟩:=h
  by_cases e:p.1=k
  ·have a:q.1=k:=h1.symm.trans e
   have b:atKey (q :: qs) k=some q.2:=by simp [atKey,List.find?_cons,a]
   rw [iK e,b];exact h2
  ·have a:¬ q.1=k:=fun z=>e (h1.trans z)
   have b:atKey (q :: qs) k=atKey qs k:=by simp [atKey,List.find?_cons,a]
   rw [iL e,b];exact ih
theorem KT.repl (r:KT H kvs xs) (k:List Key) (b:RelV y u) :
  KT H (kvs.map fun a=>if a.1=k then (a.1,y) else a) (xs.map (putAt k u)):=by
 induction r with
 | nil=>exact .nil
 | @cons p q ps qs h t ih =>
  rw [Fu,Fu]
  refine .cons ?_ ih
  obtain ⟨h1,h2,h3⟩:=h
  unfold putAt
  by_cases e:p.1=k
  ·rw [if_pos e,if_pos (h1.symm.trans e)];exact ⟨h1,h2,b⟩
  ·rw [if_neg e,if_neg (fun z=>e (h1.trans z))];exact ⟨h1,h2,h3⟩
theorem KT.put (r:KT H kvs xs) (k:List Key) (d:H b=some (.tup (k.map kV))) (a:RelV y u) :
  KT H (ff kvs k y) (storedH xs k b u):=by
 have e:(kvs.any fun c=>decide (c.1=k))=(atKey xs k).isSome:=by
  rw [oN,(r.val k).isSome_eq,Option.isSome_map]
 unfold ff storedH
 rw [e]
 by_cases q:(atKey xs k).isSome=true
 ·rw [if_pos q,if_pos q];exact r.repl k a
 ·rw [if_neg q,if_neg q];exact Paired.snoc r ⟨rfl,d,a⟩
theorem KT.keeps (r:KT H kvs xs) (a:∀ b ys,H b=some (.tup ys)->H' b=some (.tup ys)):KT H' kvs xs :=
 Paired.mapP r fun _ _ z=>⟨z.1,a _ _ z.2.1,z.2.2⟩
section
variable {P:Program} {w:World} {H:Hp} {h:Heap} {a:Addr}
theorem Ca (ok:HOk P w H h) (e:Rd H a u):ObjOk P w H h a u:=e.ok ok
theorem zd (ok:HOk P w H h) (e:Rd H a (.dK kvs)):kvs.length<=sizeLine/\(a == sysModules)=false/\∃ b,KV kvs b/\DictOfE (bt P w) h a b :=
 show ObjOk P w H h a (.dK kvs) from Ca ok e
theorem Cw (ok:HOk P w H h) (e:Rd H a (.dK kvs)):kvs.length<=sizeLine/\(a == sysModules)=false/\∃ b,KV kvs b/\h.DictOf (bt P w) a b:=let ⟨z,y,b,r,d⟩:=zd ok e;⟨z,y,b,r,d.of⟩
theorem rQ (ok:HOk P w H h) (e:H a=some (.tup (ks.map kV))):(tupleKind (bt P w)).is h ks a:=by
 obtain ⟨_,its,r,o,h1,h2,n,h3⟩:=(show ObjOk P w H h a (.tup (ks.map kV)) from ok a _ e)
 exact ⟨o,its.toArray,n,h1,h2,congrArg Prod.fst h3,by simpa using mZ r⟩
theorem rW (ok:HOk P w H h) (e:Rd H a (.dT kvs)):kvs.length<=sizeLine/\(a == sysModules)=false /\
  ∃ xs,KT H kvs xs/\DictOfHE (tupleKind (bt P w)) h a xs:=by
 obtain ⟨z,y,xs,r,o,es,c,h1,h2,h3,d,f⟩:=(show ObjOk P w H h a (.dT kvs) from Ca ok e)
 refine ⟨z,y,xs,r,o,es,c,h1,h2,h3,d,fun x b=>?_,f⟩
 have all:∀ {l:List (List Key × V)} {m:List (List Key × Addr × Value)},KT H l m->∀ x ∈ m,(tupleKind (bt P w)).is h x.1 x.2.1:=by
  intro l m q
  induction q with
  | nil=>intro x b;exact nomatch b
  | @cons p q ps qs hq t ih =>
   intro x b
   rcases Fc.mp b with e | b
   ·subst e
    exact rQ ok (by rw [<- hq.1];exact hq.2.1)
   ·exact ih x b
 exact all r x b
theorem Cv (ok:HOk P w H h) (e:Rd H a (.dT kvs)):kvs.length<=sizeLine/\(a == sysModules)=false /\
  ∃ xs,KT H kvs xs/\h.DictOfH (tupleKind (bt P w)) a xs:=let ⟨z,y,xs,r,d⟩:=rW ok e;⟨z,y,xs,r,d.of⟩
end
def DGet (H:Hp) (a:Addr) (y:V) (r:Option V):Prop :=
 (∃ kvs k,Rd H a (.dK kvs)/\y=kV k/\r=kb kvs k)\/∃ kvs k b,Rd H a (.dT kvs)/\y=.ref b/\H b=some (.tup (k.map kV))/\r=kb kvs k
def DPut (H:Hp) (a:Addr) (y v:V) (H':Hp):Prop :=
 (∃ kvs k,H a=some (.dK kvs)/\y=kV k/\kvs.length < sizeLine/\H'=upd H a (.dK (ff kvs k v))) \/
 ∃ kvs k b,H a=some (.dT kvs)/\y=.ref b/\H b=some (.tup (k.map kV))/\kvs.length < sizeLine/\H'=upd H a (.dT (ff kvs k v))
theorem DGet.t (e:H a=some (.dT kvs)) (c:H b=some (.tup (k.map kV))):DGet H a (.ref b) (kb kvs k):=.inr ⟨kvs,k,b,.inl e,rfl,c,rfl⟩
theorem DPut.t (e:H a=some (.dT kvs)) (c:H b=some (.tup (k.map kV))) (d:kvs.length < sizeLine) :
  DPut H a (.ref b) v (upd H a (.dT (ff kvs k v))):=.inr ⟨kvs,k,b,e,rfl,c,d,rfl⟩
section
variable {X:Cx} {pins:List (Addr × Obj)} {σ:St} {H:Hp} {s:Shared} {a:Addr} {y v:V} {u r:Value} {o:Option V} {A:Around} {E:Value->Shared->Prop}
theorem Inv.big (I:Inv X pins σ H s):sysModules < s.heap.objs.size:=by
 have h:mainGlobals < s.heap.objs.size:=(I.mod.glob.keeps I.bk).lt
 exact Nat.lt_trans (by decide) h
theorem vI (hu:A.units+1 < cLine) (I:Inv X pins σ H s) (g:DGet H a y (some v)) (m:RelV y u) (h:∀ d s',Inv X pins σ H s'->RelV v d->Q d s') :
  wpAny (model X.prog X.w) A (getItem (.ref a) u) Q E s:=by
 rcases g with ⟨kvs,k,e,i,l⟩ | ⟨kvs,k,b,e,i,r,l⟩
 ·subst i
  obtain ⟨z,hd,q,rel,j⟩:=Cw I.hok e
  obtain ⟨d,hw,c⟩:=RelO.some_of (v:=v) (o:=valueAt q k) (by rw [l];exact rel.val k)
  exact wpAny_getItem_of (yK m) j.mapOf hw (h d _ (I.tok _) c)
 ·subst i
  cases (show u=Value.ref b from m)
  obtain ⟨z,hd,xs,rel,j⟩:=Cv I.hok e
  obtain ⟨d,hw,c⟩:=RelO.some_of (v:=v) (o:=(atKey xs k).map (·.2)) (by rw [l];exact rel.val k)
  obtain ⟨p,n,f⟩:=E9.mp hw
  refine wpAny_getItem_heap (tupleKind_room_in1 hu) (rQ I.hok r) j n ?_
  rw [f]
  exact h d _ (I.tok _) c
theorem ub {t':Nat} (I:Inv X pins σ H s) (d:Mut (H a)) (f:Heap.SameBut a s.heap h') (he:∃ q,h'.get? a=some q) (new:ObjOk X.prog X.w (upd H a ob) h' a ob) :
  Inv X pins σ (upd H a ob) { s with heap:=h',toks:=t' } :=
 I.write (x:=a) (e:=a) d (.inl rfl) (fun b q c z=>(f.2 b c).trans z) he new
theorem EH (z:kvs.length<=sizeLine) (hd:(a == sysModules)=false) (rel:KV kvs vs) (b:DictOfE (bt P w) h' a vs) :
  ObjOk P w H' h' a (.dK kvs):=⟨z,hd,vs,rel,b⟩
theorem vH (hu:A.units+1 < cLine) (I:Inv X pins σ H s) (g:DPut H a y v H') (p:RelV y u) (t:RelV v r) (h:∀ s',Inv X pins σ H' s'->Q () s') :
  wpAny (model X.prog X.w) A (setItem (.ref a) u r) Q E s:=by
 rcases g with ⟨kvs,k,e,j,l,i⟩ | ⟨kvs,k,b,e,j,B,l,i⟩
 ·subst j i
  obtain ⟨z,hd,F,rel,o⟩:=zd I.hok (.inl e)
  have hz:F.length<=sizeLine:=by rw [<- rel.length];exact z
  have n:(ff kvs k v).length<=sizeLine:=by have:=j4 kvs k v;omega
  refine kN (hsz:=hz) (yK p) o fun h' d m=>h _ ?_
  have he:∃ q,h'.get? a=some q:=let ⟨q,_,_,f,_⟩:=d;⟨q,f⟩
  exact ub I (by rw [e];exact True.intro) m he (EH n hd (rel.put k t) d)
 ·subst j i
  cases (show u=Value.ref b from p)
  obtain ⟨z,hd,xs,rel,o⟩:=rW I.hok (.inl e)
  have hz:xs.length<=sizeLine:=by rw [<- Paired.length rel];exact z
  have n:(ff kvs k v).length<=sizeLine:=by have:=j4 kvs k v;omega
  refine lU (hsz:=hz) (tupleKind_room_in1 hu) (rQ I.hok B) o fun h' d m=>h _ ?_
  obtain ⟨q,es,D,f,h2,h3,C,_,G⟩:=d
  refine ub I (by rw [e];exact True.intro) m ⟨q,f⟩ ⟨n,hd,_,(rel.put k B t).keeps fun c ys x=>?_,q,es,D,f,h2,h3,C,G⟩
  rw [au (ne_of x e (fun z=>nomatch z))]
  exact x
end
theorem qg (I:Inv X pins σ H s) (g:DGet H a y o):s.TypeIs (.ref a) "dict":=by
 rcases g with ⟨kvs,k,e,_,_⟩ | ⟨kvs,k,b,e,_,_,_⟩
 ·obtain ⟨_,_,d,_,c⟩:=Cw I.hok e
  exact c.typeIs
 ·obtain ⟨_,_,xs,_,c⟩:=Cv I.hok e
  exact c.typeIs
theorem zb (h:Heap) (a:sysModules < h.objs.size):ObjOk P w H (h.push { cls:=.type "dict",data:=.dict #[] }) h.objs.size (.dT []) :=
 ⟨Nat.zero_le _,beq_eq_false_iff_ne.mpr (Ne.symm (Fs a)),[],.nil,_,#[],0,Fg _ rfl,⟨rfl,rfl,rfl⟩,rfl,rfl,List.nodup_nil,rfl⟩
def CZ:TE:=fun _ H Q=>∀ p,H p=none->Q (.ref p) (upd H p (.dT []))
section
variable {X:Cx} {pos:Pos}
theorem xQ:PE X (.Dict [] [] pos) CZ:=fun pins s σ H Q I h =>
 wpAny_Dict_empty ⟨.ref s.heap.objs.size,_,I.laid (a:=s.heap.objs.size) (o:=.dT []) (t':=s.toks) (fun _ _ q=>E8 _ q) (Fq _) (zb s.heap I.big),rfl,h _ (I.hok.fresh (Fq _))⟩
end
end L2
namespace L2
open PySem PySem.Spec PyProof.Rows
end L2
end
section
namespace L2
open PySem PySem.Spec PyProof.Rows
def kj (cells:List (Str × Addr)) (cs:List (Str × Addr)) (x:Str × NameKind):List (Str × Addr) :=
 if x.2 == .free then (match cells.lookup x.1 with | some c=>(x.1,c) :: cs | none=>cs) else cs
def clo (cells:List (Str × Addr)) (names:List (Str × NameKind)):List (Str × Addr):=names.foldl (kj cells) []
theorem ly {α β:Type} {f:α->β->Sem (ForInStep β)} {g:β->α->β}:∀ {l:List α} {c:β},(∀ x ∈ l,∀ c,f x c=pure (.yield (g c x)))->forIn l c f=pure (l.foldl g c)
 | [],c,_=>rfl
 | x :: l,c,h=>by
  rw [List.forIn_cons,h x E6,pure_bind]
  exact ly fun y a=>h y (E7 _ a)
theorem gq (h:∀ x ∈ scope.names,x.2=.free->∃ c,env.cells.lookup x.1=some c):closureFor scope env=pure (clo env.cells scope.names):=by
 simp only [closureFor]
 rw [ly (g:=kj env.cells) (fun x f c=>by
  obtain ⟨n,kind⟩:=x
  unfold kj
  by_cases b:kind=.free
  ·subst b
   obtain ⟨a,e⟩:=h _ f rfl
   have d:env.cells.lookup n=some a:=e
   simp [cellOf,d]
  ·have i:(kind == NameKind.free)=false:=by simpa using b
   simp [i])]
 rfl
theorem m5:∀ {l:List (Str × NameKind)} {cs:List (Str × Addr)},(∀ y d,cs.lookup y=some d->cells.lookup y=some d)->(l.foldl (kj cells) cs).lookup x=some c->cells.lookup x=some c
 | [],cs,h,e=>h x c e
 | y :: l,cs,h,e=>by
  refine m5 (l:=l) (cs:=kj cells cs y) (fun z d q=>?_) e
  unfold kj at q
  split at q
  ·cases b:cells.lookup y.1 with
   | none=>rw [b] at q;exact h z d q
   | some a =>
    rw [b] at q
    simp only [List.lookup_cons] at q
    cases hz:z == y.1 with
    | true=>rw [hz] at q;have:=eq_of_beq hz;subst this;rw [b];exact q
    | false=>rw [hz] at q;exact h z d q
  ·exact h z d q
theorem oi (e:(clo cells l).lookup x=some c):cells.lookup x=some c:=m5 (fun _ _ q=>by simp at q) e
theorem lz (b:cells.lookup x=some c):∀ {l:List (Str × NameKind)} {cs:List (Str × Addr)},cs.lookup x=some c->(l.foldl (kj cells) cs).lookup x=some c
 | [],_,e=>e
 | y :: l,cs,e=>by
  refine lz b (l:=l) (cs:=kj cells cs y) ?_
  unfold kj
  split
  ·cases d:cells.lookup y.1 with
   | none=>exact e
   | some a =>
    simp only [List.lookup_cons]
    cases hz:x == y.1 with
    | true=>have:=eq_of_beq hz;subst this;rw [b] at d;exact d.symm
    | false=>exact e
  ·exact e
theorem m7 (a:cells.lookup x=some c):∀ {l:List (Str × NameKind)} {cs:List (Str × Addr)},(x,NameKind.free) ∈ l->(l.foldl (kj cells) cs).lookup x=some c
 | [],_,m=>by simp at m
 | y :: l,cs,m=>by
  rcases Fc.mp m with rfl | m
  ·refine lz a (l:=l) ?_
   simp [kj,a]
  ·exact m7 a (l:=l) (cs:=kj cells cs y) m
theorem uc (a:cells.lookup x=some c) (m:(x,NameKind.free) ∈ l):(clo cells l).lookup x=some c:=m7 a m
theorem iW {env:Env}:∀ {names:List (Str × NameKind)} {x:Str},names.lookup x=some .free ->
  (names.map fun (n,k)=>if (k == NameKind.free && env.scope.kind == .function && env.kindOf n == some .cell) then (n,NameKind.cell) else (n,k)).lookup x=some .cell \/
  (names.map fun (n,k)=>if (k == NameKind.free && env.scope.kind == .function && env.kindOf n == some .cell) then (n,NameKind.cell) else (n,k)).lookup x=some .free
 | [],_,h=>by simp at h
 | (n,k) :: r,x,h=>by
  have b:=@iW env r x
  show List.lookup x ((if (k == NameKind.free && env.scope.kind == .function && env.kindOf n == some .cell)=true then (n,NameKind.cell) else (n,k)) :: _)=_ \/
   List.lookup x ((if (k == NameKind.free && env.scope.kind == .function && env.kindOf n == some .cell)=true then (n,NameKind.cell) else (n,k)) :: _)=_
  cases a:x == n with
  | true =>
   simp only [List.lookup_cons,a] at h
   cases h
   split
   ·left;simp [List.lookup_cons,a]
   ·right;simp [List.lookup_cons,a]
  | false =>
   simp only [List.lookup_cons,a] at h
   split
   ·simp only [List.lookup_cons,a];exact b h
   ·simp only [List.lookup_cons,a];exact b h
theorem kW {env:Env}:∀ {names:List (Str × NameKind)} {x:Str},(∀ y ∈ names,y.2 ≠ .cell) ->
  ((names.map fun (n,k)=>if (k == NameKind.free && env.scope.kind == .function && env.kindOf n == some .cell) then (n,NameKind.cell) else (n,k)).lookup x=some .cell \/
  (names.map fun (n,k)=>if (k == NameKind.free && env.scope.kind == .function && env.kindOf n == some .cell) then (n,NameKind.cell) else (n,k)).lookup x=some .free)->(x,NameKind.free) ∈ names
 | [],_,_,h=>by simp at h
 | (n,k) :: r,x,hc,h=>by
  have d:=@kW env r x (fun y c=>hc y (E7 _ c))
  have f:=hc (n,k) E6
  have h':List.lookup x ((if (k == NameKind.free && env.scope.kind == .function && env.kindOf n == some .cell)=true then (n,NameKind.cell) else (n,k)) :: (r.map fun (n,k)=>if (k == NameKind.free && env.scope.kind == .function && env.kindOf n == some .cell) then (n,NameKind.cell) else (n,k)))=some .cell \/
   List.lookup x ((if (k == NameKind.free && env.scope.kind == .function && env.kindOf n == some .cell)=true then (n,NameKind.cell) else (n,k)) :: (r.map fun (n,k)=>if (k == NameKind.free && env.scope.kind == .function && env.kindOf n == some .cell) then (n,NameKind.cell) else (n,k)))=some .free:=h
  cases a:x == n with
  | true =>
   have e:=eq_of_beq a
   subst e
   by_cases hf:k=.free
   ·subst hf;exact E6
   ·exfalso
    have b:(k == NameKind.free)=false:=by simpa using hf
    simp [b,List.lookup_cons] at h'
    rcases h' with q | q
    ·exact f q
    ·exact hf q
  | false =>
   refine E7 _ (d ?_)
   split at h'
   ·simpa only [List.lookup_cons,a] using h'
   ·simpa only [List.lookup_cons,a] using h'
def aD (X:Cx) (NY:List Str) (scope:Scope) (s:Shared) (H:Hp) (C:Addr) (fp:List Addr):Cx where
 prog:=X.prog
 w:=X.w
 K:=X.K
 mg:=X.mg
 base:=X.base
 A:=X.A
 N:=NY
 s₀:=s
 H₀:=H
 env:=compEnvC scope (clo X.env.cells scope.names) C X.env
 outer:=X.stack
 stack:=X.stack
 ex:=fp
 fn:=fun _=>false
 calm:=X.calm
 pn:=[]
 xe:=fun _ _=>False
def cap (ix:List (Option Nat)) (σ:St):St:=ix.map fun o=>match o with | some i=>(σ[i]?).getD none | none=>none
def gk (sc:Scope) (b:List Str) (a:Scope) (NY:List Str) (ix:List (Option Nat)):Bool :=
 sc.kind == .function && sc.names.all (fun y=>y.2 != .cell) && sc.names.all (fun y=>y.2 != .local || sc.names.lookup y.1 == some .local) && sc.names.all (fun y=>y.2 != .free || sc.names.lookup y.1 == some .free)
  && sc.names.all (fun y=>y.2 != .free || (a.names.lookup y.1 == some .cell || a.names.lookup y.1 == some .free))
  && ix.length == NY.length && (NY.zip ix).all fun p=>match p.2 with | none=>true | some i=>(b[i]? == some p.1) && sc.names.contains (p.1,NameKind.free)
structure CompOk (sc:Scope) (XN:List Str) (Xsc:Scope) (NY:List Str) (ix:List (Option Nat)):Prop where
 kind:sc.kind=.function
 nocell:∀ y ∈ sc.names,y.2 ≠ .cell
 loc:∀ y ∈ sc.names,y.2=.local->sc.names.lookup y.1=some .local
 fre:∀ y ∈ sc.names,y.2=.free->sc.names.lookup y.1=some .free
 out:∀ y ∈ sc.names,y.2=.free->Xsc.names.lookup y.1=some .cell\/Xsc.names.lookup y.1=some .free
 len:ix.length=NY.length
 cap:∀ (j:Nat) x i,NY[j]?=some x->ix[j]?=some (some i)->XN[i]?=some x/\(x,NameKind.free) ∈ sc.names
theorem CompOk.of (h:gk sc XN Xsc NY ix=true):CompOk sc XN Xsc NY ix:=by
 simp only [gk,Bool.and_eq_true,List.all_eq_true,beq_iff_eq] at h
 obtain ⟨⟨⟨⟨⟨⟨h1,h2⟩,h3⟩,f⟩,c⟩,d⟩,b⟩:=h
 refine ⟨h1,fun y a=>by simpa using h2 y a,fun y a e=>?_,fun y a e=>?_,fun y a e=>?_,d,fun j x i e1 g=>?_⟩
 ·have:=h3 y a;rw [e] at this;simpa using this
 ·have:=f y a;rw [e] at this;simpa using this
 ·have:=c y a;rw [e] at this;simpa using this
 ·have m:(x,some i) ∈ NY.zip ix:=by
   refine Fj (i:=j) ?_
   rw [List.getElem?_zip_eq_some]
   exact ⟨e1,g⟩
  have:=b _ m
  simpa using this
section
variable {X:Cx}
theorem FpOk.of_upd (f:FpOk X pins H b) (h:b ≠ D):FpOk X pins (upd H D o) b:=⟨by rw [au h];exact f.1,f.2⟩
theorem HOk.track (x:HOk P w H h) (f:H a=none) (new:ObjOk P w (upd H a o) h a o):HOk P w (upd H a o) h:=fun b u e=>by
 by_cases d:b=a
 ·subst d;rw [aT] at e;cases e;exact new
 ·rw [au d] at e
  exact (x b u e).stay (fun c v _ q=>q) (fun c q=>by rw [au (aL q f)];exact q) fun c xs q=>by rw [au (aL q f)];exact q
def PTs (Y:Cx) (ifs:List Expr) (t:TT):Prop :=
 ∀ (pins:List (Addr × Obj)) (s:Shared) (σ:St) (H:Hp) (Q:Bool->Hp->Prop),Inv Y pins σ H s->t σ H Q ->
  wpAny (model Y.prog Y.w) Y.A (forIn ifs true fun c r=>if r=true then do let ok <- isTrue c Y.env (eval c Y.env);pure (ForInStep.yield ok) else pure (ForInStep.yield r)) (TP Y pins σ Q) Y.xe s
def tYes:TT:=fun _ H Q=>Q true H
theorem AI:PTs Y [] tYes:=fun pins s σ H Q I h=>wpAny_tests_nil ⟨H,I,h⟩
theorem AH (h:PT Y c t):PTs Y [c] t:=fun pins s σ H Q I q=>wpAny_tests_one (h pins s σ H Q I q)
def qB (J:It) (g:TG) (tc:TT) (te:TE) (Z:List V->Hp->Prop) (τ0:St) (H1:Hp):Prop :=
 ∃ W:Nat->Nat->List V->St->Hp->Prop,(∃ m,W 0 m [] τ0 H1)/\∀ i m ys τ H,W i m ys τ H->ys.length < sizeLine /\
  ((J.stop i H/\Z ys H)\/(J.go i H/\∃ N:List V->St->Hp->Prop,(∀ a τ' H',N a τ' H'->∃ d,d < m/\W (i+1) d a τ' H')/\∀ x H',J.yld i H x H'->g x τ H' fun τ2 H2=>tc τ2 H2 fun b c =>
   if b=true then te τ2 c fun y e=>N (ys ++ [y]) τ2 e else N ys τ2 c))
def B5 (a:TI) (g:TG) (tc:TT) (te:TE) (ix:List (Option Nat)):TE:=fun σ H Q =>
 a σ H fun J H1=>qB J g tc te (fun ys H2=>∀ p,H2 p=none->Q (.ref p) (upd H2 p (.lst ys))) (cap ix σ) H1
theorem rX (d:CompOk scope X.N X.env.scope NY ix) (I:Inv X pins σ H s) (f:∀ b ∈ fp,FpOk X pins H b) (j:s.heap.objs.size<=C) (t:∀ b ∈ fp,b < s.heap.objs.size) (D:s4.os=s.os) (M:s4.gens=s.gens) (keep:∀ b o,s.heap.get? b=some o->s4.heap.get? b=some o) (ns:s4.heap.Ns C fun _=>none):Inv (aD X NY scope s H C fp) [] (cap ix σ) H s4:=by
 have F:FpOk X pins H C:=I.fpOk j (I.hok.fresh j)
 have cls:∀ x c,(clo X.env.cells scope.names).lookup x=some c->X.env.cells.lookup x=some c:=fun x c e=>oi e
 have h:∀ x,(x,NameKind.free) ∈ scope.names->∃ c,X.env.cells.lookup x=some c:=fun x m=>by
  rcases d.out _ m rfl with q | q
  ·exact I.ok.has x (.inl q)
  ·exact I.ok.has x (.inr q)
 refine ⟨⟨I.ok.mod,d.kind,I.ok.glob,I.ok.blt,j,fun x y c e1 n=>I.ok.inj x y c (cls x c e1) (cls y c n),fun x Q=>?_,fun x c e _=>(Fr e).elim,fun e=>I.ok.hd e,I.ok.frames,.inl rfl,fun b g=>⟨Fs (Fy (t b g) j),fun x c e=>(f b g).2.2.2.2.1 x c (cls x c e)⟩,
  I.bs,FN I.ok.bsz I.sz,fun b o e g=>?_,fun b g hz=>?_,I.stack,I.stkFree⟩,D,by rw [M];exact I.bare,Un.kept keep,⟨_,ns,fun i x v e1 n R=>?_⟩,fun x c e=>?_,F.1,fun x c e=>I.freeC x c (cls x c e),fun p L=>absurd (show p ∈ ([]:List (Addr × Obj)) from L) (by simp),I.hok.kept keep,?_⟩
 ·have m:(x,NameKind.free) ∈ scope.names:=kW d.nocell Q
  obtain ⟨c,e⟩:=h x m
  exact ⟨c,uc e m⟩
 ·rcases (f b g).2.2.2.1 with z | z
  ·exact I.ok.noex b o e z
  ·exact absurd (Fy (Fe e) (FN I.ok.bsz z)) (Nat.lt_irrefl _)
 ·rcases Fc.mp (I.stkSub b hz) with e | e
  ·exact (f b g).2.1 e
  ·exact (f b g).2.2.1 e
 ·-- a captured name
  have q:∃ k,ix[i]?=some (some k)/\σ[k]?=some (some v):=by
   unfold cap at n
   grind
  obtain ⟨k,O,ev⟩:=q
  obtain ⟨E,m⟩:=d.cap i x k e1 O
  obtain ⟨S,B,J⟩:=I.loc
  have P:Vis X.env.scope x:=by
   rcases d.out _ m rfl with q | q
   ·exact .inr (.inl q)
   ·exact .inr (.inr q)
  obtain ⟨u,r,l⟩:=J k x v E ev P
  refine ⟨u,r,.inr ?_⟩
  rcases l with ⟨A,_⟩ | ⟨_,c,G,K⟩
  ·exfalso
   rcases d.out _ m rfl with q | q
   ·have:=A.symm.trans q;cases this
   ·have:=A.symm.trans q;cases this
  ·obtain ⟨o,w,hd⟩:=K
   exact ⟨iW (d.fre _ m rfl),c,uc G m,o,keep c o w,hd⟩
 ·obtain ⟨v,o,w,hd⟩:=I.cell x c (cls x c e)
  exact ⟨v,o,keep c o w,hd⟩
 ·show (cap ix σ).length=NY.length
  unfold cap
  rw [Fh]
  exact d.len
set_option tactic.hygienic true in
theorem gp (I:Nat->Shared->Prop) (turn:∀ n s,I n s->wpAny (model prog w) A (pyNext it) (fun r d=>match r with
   | none=>R (.ok .next) d
   | some v=>wpAny (model prog w) A (letOwnedTupleGo target it v) (fun _ a=>wpAny (model prog w) A (assign target env v) (fun _ j =>
     wpAny (model prog w) A (forIn ifs true fun c r=>if r=true then do let ok <- isTrue c env (eval c env);pure (ForInStep.yield ok) else pure (ForInStep.yield r)) (fun ok b =>
      if ok=true then wpAny (model prog w) A (eval elt env) (fun x f =>
       wpAny (model prog w) A (call (.builtin "list.append") [acc,x]) (fun _ k=>∃ m,m < n/\I m k) (fun _ _=>False) f) (fun _ _=>False) b
      else ∃ m,m < n/\I m b) (fun _ _=>False) j) (fun _ _=>False) a) (fun _ _=>False) d) (fun _ _=>False) s) (n:Nat) (h:I n s) :
  codeAny (model prog w) A (.compLoop (.ListComp elt [⟨target,iter,ifs,0⟩] scope pos) 0 it acc env) R s:=by
 refine codeAny_loop rfl I (fun n s q=>?_) n h
 show wpAny _ A ((compTurn (.ListComp elt [⟨target,iter,ifs,0⟩] scope pos) 0 it acc env).onRaise (fun x=>do noteFrame x env;theTreesLotGoes x)) _ _ s
 refine wpAny_noted ?_
 rw [compTurn_list]
 refine E3 (wpAny_standAt (E3 (wpAny_mono (turn n s q) (fun r d i=>?_) fun _ _ h'=>h'.elim)))
 cases r with
 | none=>exact E4 i
 | some v =>
  refine E3 (wpAny_mono i (fun _ a e=>?_) fun _ _ h'=>h'.elim)
  refine E3 (wpAny_mono e (fun _ j o=>E3 (wpAny_mono o (fun ok b g=>?_) fun _ _ h'=>h'.elim)) fun _ _ h'=>h'.elim)
  cases ok with
  | false=>exact E4 ⟨rfl,g⟩
  | true =>
   exact E3 (E3 (wpAny_mono g (fun x f l=>E3 (wpAny_mono l (fun _ k p=>E4 (E4 ⟨rfl,p⟩)) fun _ _ h'=>h'.elim)) fun _ _ h'=>h'.elim))
set_option tactic.hygienic true in
theorem qj {RR:Value->Addr->Result->Shared->Prop} (hc:X.calm=true) (ck:CompOk scope X.N X.env.scope NY ix) (hg:∀ s H C fp,PG (aD X NY scope s H C fp) tg g) (ht:∀ s H C fp,PTs (aD X NY scope s H C fp) ifs tc) (he:∀ s H C fp,PE (aD X NY scope s H C fp) elt te) (I:Inv X pins σ H s) (T:Turn X.prog X.w X.K tg J fp it tn) (st:tn 0 s.heap) (f:∀ b ∈ fp,FpOk X pins H b) (hW:qB J g tc te Z (cap ix σ) H) (bb:∀ D C s' ys H' m,s'.heap.Ns C m->H' D=none->FpOk X pins (upd H' D (.lst ys)) C->Inv X pins σ (upd H' D (.lst ys)) s'->Z ys H'->RR (.ref D) C (.ok .next) s') :
  wpAny (model X.prog X.w) X.A (newList []) (fun acc s₃=>wpAny (model X.prog X.w) X.A (newFunctionEnv scope X.env.globals (clo X.env.cells scope.names) [] X.env.qual none .none (some X.env)) (fun F s₄ =>
   codeAny (model X.prog X.w) X.A (.compStart (.ListComp elt [⟨tg,iter,ifs,0⟩] scope pos) 0 (.ref it) acc { F with scope:=relabel scope X.env }) (RR acc F.locals) s₄) E s₃) E s:=by
 obtain ⟨W,⟨m0,w0⟩,turn⟩:=hW
 refine wpAny_newObj_type (wpAny_newFunctionEnv ck.nocell (by intro y hy;simp at hy) (fun h₁ l j=>?_) ck.kind)
 dsimp only at l j ⊢
 generalize L:s.heap.push { cls:=.type "list",dict:=none,data:=.seq ([]:List Value).toArray }=H2 at l j ⊢
 have ab:H2.objs.size=s.heap.objs.size+1:=by rw [<- L,FL]
 have B:s.heap.objs.size ≠ H2.objs.size:=by rw [ab];exact Fs (Nat.lt_succ_self _)
 have h:s.heap.objs.size<=H2.objs.size:=by rw [ab];exact Nat.le_succ _
 generalize G:s.heap.objs.size=D at *
 generalize hC:H2.objs.size=C at *
 have below:∀ b o,s.heap.get? b=some o->b < D:=fun b o e=>by rw [<- G];exact Fe e
 have old:∀ b o,s.heap.get? b=some o->h₁.get? b=some o:=fun b o e=>j.extBut b o (Fs (Fy (below b o e) h)) (E8 _ (L ▸ E8 _ e))
 have O:H2.get? D=some { cls:=.type "list",dict:=none,data:=.seq ([]:List Value).toArray }:=by
  rw [<- L,<- G];exact Fg _ rfl
 have U:h₁.PlainList D #[]:=⟨_,j.extBut _ _ B (E8 _ O)⟩
 have V:∀ b ∈ fp,b < s.heap.objs.size:=fun b a=>by
  obtain ⟨o,e,_⟩:=T.obj 0 _ st b a
  exact Fe e
 have k:∀ b ∈ fp,b < D:=fun b a=>by rw [<- G];exact V b a
 have IY:Inv (aD X NY scope s H C fp) [] (cap ix σ) H { s with heap:=h₁,toks:=s.toks+([]:List (Str × Value)).length } :=
  rX ck I f (by rw [G];exact h) V rfl rfl old l
 have bP:H D=none:=I.hok.fresh (by rw [G];exact Fq _)
 have t:∀ b ∈ frs X.stack,b < D:=fun b a=>by
  obtain ⟨_,o,ho,_⟩:=I.stack.mem a
  exact below b o ho
 have loop:∀ s₃:Shared,s₃ = { s with heap:=h₁,toks:=s.toks+([]:List (Str × Value)).length } ->
   codeAny (model X.prog X.w) X.A (.compLoop (.ListComp elt [⟨tg,iter,ifs,0⟩] scope pos) 0 (.ref it) (.ref D) (aD X NY scope s H C fp).env) (RR (.ref D) C) s₃:=by
  rintro s₃ rfl
  refine gp (fun n s'=>∃ i ys τ H' its,Inv (aD X NY scope s H C fp) [] τ H' s'/\H' D=none/\s'.heap.PlainList D its/\Vals ys its.toList/\tn i s'.heap/\(∀ b ∈ fp,H' b=none)/\W i n ys τ H') ?_ m0
   ⟨0,[],cap ix σ,H,#[],IY,bP,U,.nil,T.keep _ _ _ st fun b _ o e=>old b o e,fun b a=>(f b a).1,w0⟩
  rintro n s3 ⟨i,ys,τ,S,its,I3,d3,l3,v3,az,ar,w3⟩
  obtain ⟨nl,e3⟩:=id l3
  have Y:Inv (aD X NY scope s H C fp) [(D,{ cls:=.type "list",data:=.seq its nl })] τ S s3:=I3.pins_of fun p hp=>by
   have e:p=(D,{ cls:=.type "list",data:=.seq its nl }):=by simpa using hp
   subst e
   exact ⟨e3,d3,B,fun z=>Nat.lt_irrefl _ (t D z),fun v z=>by cases z⟩
  have P:∀ {H':Hp} {pl:List (Addr × Obj)},(∀ b ∈ fp,H' b=none)->(∀ p ∈ pl,p.1=D)->∀ b ∈ fp,FpOk (aD X NY scope s H C fp) pl H' b:=fun hn hp b a =>
   ⟨hn b a,Fs (Fy (k b a) h),fun z=>by
    rcases Fc.mp (I.stkSub b z) with e | e
    ·exact (f b a).2.1 e
    ·exact (f b a).2.2.1 e,.inl a,fun x c e=>(f b a).2.2.2.2.1 x c (oi e),fun p a5=>by
    have e:p.1=D:=hp p ((Ff.mp a5).elim (fun z=>absurd (show p ∈ ([]:List (Addr × Obj)) from z) (by simp)) fun z=>z)
    rw [e]
    exact Nat.ne_of_gt (k b a)⟩
  obtain ⟨zl,step⟩:=turn i n ys τ S w3
  have single:∀ p ∈ [(D,({ cls:=.type "list",data:=.seq its nl }:Obj))],p.1=D:=fun p hp=>by
   have e:p=(D,{ cls:=.type "list",data:=.seq its nl }):=by simpa using hp
   rw [e]
  rcases step with ⟨stop,qn⟩ | ⟨go,N,hN,step⟩
  ·refine wpAny_mono (T.done (aD X NY scope s H C fp) rfl rfl rfl hc i _ s3 τ S (fun _ _=>False) Y (P ar single) az stop) (fun r s4 ⟨hr,M⟩=>?_) fun _ _ e=>e
   subst hr
   obtain ⟨mC,be,_⟩:=id M.loc
   obtain ⟨e4,d4,_⟩:=M.pin (D,{ cls:=.type "list",data:=.seq its nl }) (by simp [aD])
   have a7:∀ b o,s.heap.get? b=some o->b ≠ D:=fun b o e=>Fs (below b o e)
   have Q:=M.base
   refine bb D C s4 ys S mC be d4 ?_ ?_ qn
   ·exact (I.fpOk (by rw [G];exact h) (by exact M.free)).of_upd (Ne.symm B)
   ·refine I.call' (ch:=fp) M.os (H':=upd S D (.lst ys)) ⟨Q.keep,Q.slot,fun b o e n hx=>?_,Q.there,fun b xs e=>?_,fun b o u e=>?_,fun b ps e=>?_⟩ ?_ M.bare fun b a=>?_
    ·rw [au (a7 b o e)];exact Q.free b o e n hx
    ·have q:=Q.tups b xs e;rw [au (aL q d4)];exact q
    ·have q:=Q.frzs b o u e;rw [au (aL q d4)];exact q
    ·obtain ⟨more,q⟩:=Q.tbls b ps e;exact ⟨more,by rw [au (aL q d4)];exact q⟩
    ·exact M.hok.track d4 ⟨Nat.le_of_lt zl,its.toList,nl,v3,by simpa using e4⟩
    ·exact ⟨(f b a).2.2.2.1,(f b a).2.1,(f b a).2.2.2.2.1,(f b a).2.2.2.2.2⟩
  ·refine wpAny_mono (T.item (aD X NY scope s H C fp) rfl rfl rfl hc i _ s3 τ S (fun _ _=>False) Y (P ar single) az go) (fun r s4 ⟨u,hr,h4⟩=>?_) fun _ _ e=>e
   subst hr
   refine wpAny_mono h4 (fun _ s5 ⟨x,H5,I5,r5,y5,R,a6⟩=>?_) fun _ _ e=>e
   have a0:=I5.pinned (P a6 single) (T.obj _ _ R)
   refine wpAny_mono (hg s H C fp _ s5 τ H5 x u _ a0 r5 (step x H5 y5)) (fun _ s6 ⟨τ6,H6,I6,q6⟩=>?_) fun _ _ e=>e
   refine wpAny_mono (ht s H C fp _ s6 τ6 H6 _ I6 q6) (fun b s7 ⟨H7,I7,q7⟩=>?_) fun _ _ e=>e
   have after:∀ {s':Shared} {H':Hp},Inv (aD X NY scope s H C fp) ([(D,{ cls:=.type "list",data:=.seq its nl })] ++ kZ fp s5.heap) τ6 H' s'->tn (i+1) s'.heap/\(∀ b ∈ fp,H' b=none)/\H' D=none/\s'.heap.PlainList D its:=fun {s' H'} I' =>
    ⟨T.keep _ _ _ R fun b a o e=>(I'.pin (b,o) (Fb _ (Fb _ (fj a e)))).1,fun b a=>by
     obtain ⟨o,e,d⟩:=T.obj _ _ R b a
     exact (I'.pin (b,o) (Fb _ (Fb _ (fj a e)))).2.1,(I'.pin (D,_) (Fb _ (Fa _ (FH.mpr rfl)))).2.1,
     nl,(I'.pin (D,_) (Fb _ (Fa _ (FH.mpr rfl)))).1⟩
   cases b with
   | false =>
    rw [if_neg Fr]
    rw [if_neg Fr] at q7
    obtain ⟨m',hm,w7⟩:=hN _ _ _ q7
    obtain ⟨a1,a2,a3,a4⟩:=after I7
    exact ⟨m',hm,i+1,ys,τ6,H7,its,I7.pins_of (fun _ z=>absurd z (by simp)),a3,a4,v3,a1,a2,w7⟩
   | true =>
    rw [if_pos rfl]
    rw [if_pos rfl] at q7
    refine wpAny_mono (he s H C fp _ s7 τ6 H7 _ I7 q7) (fun y s8 ⟨yv,H8,I8,r8,n8⟩=>?_) fun _ _ e=>e
    obtain ⟨m',hm,w8⟩:=hN _ _ _ n8
    obtain ⟨a1,a2,a3,a4⟩:=after I8
    have bQ:ys.length=its.size:=by simpa using v3.length
    have hsz:its.size<=sizeLine:=by lia
    refine wpAny_list_append_plain (hsz:=hsz) a4 fun h9 l9 ax=>?_
    have I9:Inv (aD X NY scope s H C fp) [] τ6 H8 { s8 with heap:=h9,toks:=s8.toks }:=(I8.pins_of (pins':=[]) fun _ z=>absurd z (by simp)).turned (it:=D) (fun b o a e=>(ax.2 b a).trans e) a3 B (.inr (by show s.heap.objs.size<=D;rw [G];exact Fq _)) (fun x c e z=>?_) fun p z=>absurd (show p ∈ ([]:List (Addr × Obj)) from z) (by simp)
    ·refine ⟨m',hm,i+1,ys ++ [yv],τ6,H8,its.push y,I9,a3,l9,?_,T.keep _ _ _ a1 fun b a o e=>(ax.2 b (Fs (k b a))).trans e,a2,w8⟩
     rw [Array.toList_push]
     exact v3.append (.cons r8 .nil)
    ·obtain ⟨v,o,ho,_⟩:=I.cell x c (oi e)
     exact Nat.lt_irrefl _ (z ▸ below c o ho)
 exact codeAny_compStart_list (loop _ rfl) (T.self X.A 0 _ _ _ (T.keep _ _ _ st fun b _ o e=>old b o e) (loop _ rfl))
theorem AW (NY:List Str) (ix:List (Option Nat)) (p:X.calm=true) (hi:PI X tg iter wi) (u:∀ s H C fp,PG (aD X NY scope s H C fp) tg g) (B:∀ s H C fp,PTs (aD X NY scope s H C fp) ifs tc) (he:∀ s H C fp,PE (aD X NY scope s H C fp) elt te) (a:gk scope X.N X.env.scope NY ix=true) (l:∀ x,foldedSetIterable iter X.env x=pure x:=by intro _;rfl):PE X (.ListComp elt [⟨tg,iter,ifs,0⟩] scope pos) (B5 wi g tc te ix):=by
 intro pins s σ H Q I h
 have a:=CompOk.of a
 rw [eval_ListComp]
 refine wpAny_comprehension_free (use:=none) rfl l (gq (scope:=scope) (env:=X.env) fun x m e=>?_) a.kind a.loc (thn (hi pins s σ H _ I h) fun v s1 h1=>thn h1 fun d s2 h2=>?_)
 ·rcases a.out x m e with q | q
  ·exact I.ok.has x.1 (.inl q)
  ·exact I.ok.has x.1 (.inr q)
 ·obtain ⟨it,fp,F,J,H2,e,n,T,c,f2,t⟩:=h2
  subst e
  refine qj (RR:=fun acc C=>compPost (model X.prog X.w) X.A X.xe none (EP X pins σ Q) acc C) p a u B he n T c f2 t ?_
  intro D C s' ys H' m r y k j E
  obtain ⟨f0,f1,f2,i,f4,z⟩:=k
  exact ⟨m,r,fun h' sb=>⟨.ref D,_,j.turned (t':=s'.toks) (fun b o f e=>(sb.2 b f).trans e) f0 f1 i f4 z,rfl,E D y⟩⟩
def B8 (i:Nat) (a:TI) (g:TG) (tc:TT) (te:TE) (ix:List (Option Nat)):TS:=fun D σ H =>
 a σ H fun J H1=>qB J g tc te (fun ys H2=>∀ p,H2 p=none->D.nx (σ.set i (some (.ref p))) (upd H2 p (.lst ys))) (cap ix σ) H1
set_option tactic.hygienic true in
theorem q8 {i:Nat} (U:X.N.Nodup) (L:X.N[i]?=some y) (Y:Loc X.env.scope y) (NY:List Str) (ix:List (Option Nat)) (M:X.calm=true) (hi:PI X tg iter wi) (R:∀ s H C fp,PG (aD X NY scope s H C fp) tg g) (W:∀ s H C fp,PTs (aD X NY scope s H C fp) ifs tc) (he:∀ s H C fp,PE (aD X NY scope s H C fp) elt te) (c:gk scope X.N X.env.scope NY ix=true) (p:swapsWith (.ListComp elt [⟨tg,iter,ifs,0⟩] scope pos) (some (.Name y py)) spos.line X.env=pure true:=by rfl) (hf:X.fn y=true\/X.env.scope.names.lookup y=some .local:=by first | exact .inl rfl | exact .inr rfl | assumption) (K:∀ x,foldedSetIterable iter X.env x=pure x:=by intro _;rfl):PS X (.Assign [.Name y py] (.ListComp elt [⟨tg,iter,ifs,0⟩] scope pos) spos) (B8 i wi g tc te ix):=by
 intro pins s σ H D I h
 have c:=CompOk.of c
 rw [exec_Assign_Name_used _ _ _ _ p]
 refine E3 (wpAny_standAt (E3 ?_))
 show wpAny _ X.A (do let _ <- comprehension (.ListComp elt [⟨tg,iter,ifs,0⟩] scope pos) scope X.env _ (newList []) false (eval iter X.env) (some (assign (.Name y py) X.env))) _ _ s
 refine E3 (wpAny_mono (wpAny_comprehension_free (use:=some (assign (.Name y py) X.env)) (Q:=fun _ s'=>SP X pins D .next s') rfl K (gq (scope:=scope) (env:=X.env) fun x m e=>?_) c.kind c.loc
  (thn (hi pins s σ H _ I h) fun v s1 h1=>thn h1 fun r s2 h2=>?_)) (fun _ s' hq=>E4 (E4 hq)) fun _ _ e=>e)
 ·rcases c.out x m e with q | q
  ·exact I.ok.has x.1 (.inl q)
  ·exact I.ok.has x.1 (.inr q)
 ·obtain ⟨it,fp,tn,J,H2,e,G,T,l,f2,P⟩:=h2
  subst e
  refine qj (RR:=fun acc C=>compPost (model X.prog X.w) X.A X.xe (some (assign (.Name y py) X.env)) (fun _ s'=>SP X pins D .next s') acc C) M c R W he G T l f2 P ?_
  intro j C s' ys H' m O S E u Z
  obtain ⟨f0,f1,f2,B,f4,V⟩:=E
  show wpAny _ X.A (assign (.Name y py) X.env (.ref j)) _ _ _
  refine wpAny_assign_Name (mw u U L Y (v:=.ref j) rfl (fun d f ⟨a,sb,F⟩=>?_) hf)
  have k:C ≠ a:=by
   rcases F with e | e
   ·rw [e];exact f1
   ·exact fun z=>f4 y a e z.symm
  exact ⟨m,O.sameBut sb k,fun h' n=>⟨_,_,f.turned (t':=d.toks) (fun b o t e=>(n.2 b t).trans e) f0 f1 B f4 V,Z j S⟩⟩
end
end L2
end
section
namespace L2
open PySem PySem.Spec PyProof.Rows
section
variable {X:Cx}
inductive KindOf (K:FG) (H:Hp):V->String->Prop
 | int (i:Int):KindOf K H (.int i) "int"
 | bool (b:Bool):KindOf K H (.bl b) "bool"
 | str (x:Str):KindOf K H (.str x) "str"
 | non:KindOf K H .non "NoneType"
 | tuple {a:Addr} {xs:List V}:SqT K H a xs->KindOf K H (.ref a) "tuple"
 | list {a:Addr} {xs:List V}:SqL K H a xs->KindOf K H (.ref a) "list"
 | dK {a:Addr} {kvs}:H a=some (.dK kvs)->KindOf K H (.ref a) "dict"
 | dT {a:Addr} {kvs}:H a=some (.dT kvs)->KindOf K H (.ref a) "dict"
def kg (k t:String):Bool:=k == t || (k == "bool" && t == "int")
theorem Inv.clsK (I:Inv X pins σ H s) (h:KindOf X.K H (.ref a) k):∃ o,s.heap.get? a=some o/\o.cls=.type k:=by
 cases h with
 | tuple h=>obtain ⟨its,_,⟨o,e,c,_⟩,_⟩:=I.tuple h;exact ⟨o,e,c⟩
 | list h=>obtain ⟨its,_,⟨o,n,e,c,_⟩,_⟩:=I.list h;exact ⟨o,e,c⟩
 | dK h=>obtain ⟨_,_,_,_,o,_,_,e,c,_⟩:=I.hok a _ h;exact ⟨o,e,c.1⟩
 | dT h=>obtain ⟨_,_,_,_,o,_,_,e,c,_⟩:=I.hok a _ h;exact ⟨o,e,c.1⟩
theorem oA:CallR X (.builtin "isinstance") (fun xs H Q=>∃ x k,xs=[x,.ty "int"]/\KindOf X.K H x k/\Q (.bl (kg k "int")) H):=by
 intro pins s σ H xs us Q I r h
 obtain ⟨x,k,rfl,f,q⟩:=h
 obtain ⟨u,v,rfl,a,d⟩:=mj r
 cases (show v=Value.type "int" from d)
 cases f with
 | int i=>obtain ⟨tk,rfl⟩:=a;exact IsiPair.int_int ⟨.bl true,H,I,rfl,q⟩
 | bool b=>cases (show u=Value.bool b from a);exact IsiPair.bool_int ⟨.bl true,H,I,rfl,q⟩
 | str z=>obtain ⟨tk,rfl⟩:=a;exact IsiPair.str_int ⟨.bl false,H,I.tok _,rfl,q⟩
 | non=>cases (show u=Value.none from a);exact IsiPair.NoneType_int ⟨.bl false,H,I.tok _,rfl,q⟩
 | tuple hh=>cases a;obtain ⟨o,e,c⟩:=I.clsK (.tuple hh);exact IsiPair.tuple_int e c ⟨.bl false,H,I.tok _,rfl,q⟩
 | list hh=>cases a;obtain ⟨o,e,c⟩:=I.clsK (.list hh);exact IsiPair.list_int e c ⟨.bl false,H,I.tok _,rfl,q⟩
 | dK hh=>cases a;obtain ⟨o,e,c⟩:=I.clsK (.dK hh);exact IsiPair.dict_int e c ⟨.bl false,H,I.tok _,rfl,q⟩
 | dT hh=>cases a;obtain ⟨o,e,c⟩:=I.clsK (.dT hh);exact IsiPair.dict_int e c ⟨.bl false,H,I.tok _,rfl,q⟩
theorem md:CallR X (.builtin "isinstance") (fun xs H Q=>∃ x k,xs=[x,.ty "bool"]/\KindOf X.K H x k/\Q (.bl (kg k "bool")) H):=by
 intro pins s σ H xs us Q I r h
 obtain ⟨x,k,rfl,f,q⟩:=h
 obtain ⟨u,v,rfl,a,d⟩:=mj r
 cases (show v=Value.type "bool" from d)
 cases f with
 | int i=>obtain ⟨tk,rfl⟩:=a;exact IsiPair.int_bool ⟨.bl false,H,I.tok _,rfl,q⟩
 | bool b=>cases (show u=Value.bool b from a);exact IsiPair.bool_bool ⟨.bl true,H,I,rfl,q⟩
 | str z=>obtain ⟨tk,rfl⟩:=a;exact IsiPair.str_bool ⟨.bl false,H,I.tok _,rfl,q⟩
 | non=>cases (show u=Value.none from a);exact IsiPair.NoneType_bool ⟨.bl false,H,I.tok _,rfl,q⟩
 | tuple hh=>cases a;obtain ⟨o,e,c⟩:=I.clsK (.tuple hh);exact IsiPair.tuple_bool e c ⟨.bl false,H,I.tok _,rfl,q⟩
 | list hh=>cases a;obtain ⟨o,e,c⟩:=I.clsK (.list hh);exact IsiPair.list_bool e c ⟨.bl false,H,I.tok _,rfl,q⟩
 | dK hh=>cases a;obtain ⟨o,e,c⟩:=I.clsK (.dK hh);exact IsiPair.dict_bool e c ⟨.bl false,H,I.tok _,rfl,q⟩
 | dT hh=>cases a;obtain ⟨o,e,c⟩:=I.clsK (.dT hh);exact IsiPair.dict_bool e c ⟨.bl false,H,I.tok _,rfl,q⟩
theorem lG:CallR X (.builtin "isinstance") (fun xs H Q=>∃ x k,xs=[x,.ty "tuple"]/\KindOf X.K H x k/\Q (.bl (kg k "tuple")) H):=by
 intro pins s σ H xs us Q I r h
 obtain ⟨x,k,rfl,f,q⟩:=h
 obtain ⟨u,v,rfl,a,d⟩:=mj r
 cases (show v=Value.type "tuple" from d)
 cases f with
 | int i=>obtain ⟨tk,rfl⟩:=a;exact IsiPair.int_tuple ⟨.bl false,H,I.tok _,rfl,q⟩
 | bool b=>cases (show u=Value.bool b from a);exact IsiPair.bool_tuple ⟨.bl false,H,I.tok _,rfl,q⟩
 | str z=>obtain ⟨tk,rfl⟩:=a;exact IsiPair.str_tuple ⟨.bl false,H,I.tok _,rfl,q⟩
 | non=>cases (show u=Value.none from a);exact IsiPair.NoneType_tuple ⟨.bl false,H,I.tok _,rfl,q⟩
 | tuple hh=>cases a;obtain ⟨o,e,c⟩:=I.clsK (.tuple hh);exact IsiPair.tuple_tuple e c ⟨.bl true,H,I,rfl,q⟩
 | list hh=>cases a;obtain ⟨o,e,c⟩:=I.clsK (.list hh);exact IsiPair.list_tuple e c ⟨.bl false,H,I.tok _,rfl,q⟩
 | dK hh=>cases a;obtain ⟨o,e,c⟩:=I.clsK (.dK hh);exact IsiPair.dict_tuple e c ⟨.bl false,H,I.tok _,rfl,q⟩
 | dT hh=>cases a;obtain ⟨o,e,c⟩:=I.clsK (.dT hh);exact IsiPair.dict_tuple e c ⟨.bl false,H,I.tok _,rfl,q⟩
theorem we {bs:List Bool}:((List.range bs.length).all fun i=>bs.getD i false)=bs.all id:=by
 rw [Bool.eq_iff_iff]
 simp only [List.all_eq_true,List.mem_range,id]
 constructor
 ·intro h b a
  obtain ⟨i,hi,rfl⟩:=List.mem_iff_getElem.mp a
  simpa [List.getD,hi] using h i hi
 ·intro h i hi
  simpa [List.getD,hi] using h _ (List.getElem_mem hi)
theorem zp (t:X.calm=true):CallR X (.builtin "all") (fun xs H Q=>∃ (a:Addr) (bs:List Bool),xs=[.ref a]/\SqL X.K H a (bs.map V.bl)/\Q (.bl (bs.all id)) H):=by
 intro pins s σ H xs us Q I r h
 obtain ⟨a,bs,rfl,B,q⟩:=h
 obtain ⟨u,rfl,f⟩:=bR r
 cases f
 obtain ⟨its,k,p,hz⟩:=I.list B
 have l:=k.length
 rw [Fh] at l
 have g:a < s.heap.objs.size:=by obtain ⟨o,_,e,_⟩:=id p;exact Fe e
 refine call_all_walk (wpAny_pyIter_list p.isList ?_)
 refine ⟨s.heap.objs.size,_,_,_,_,_,fun i=>bs.getD i false,rfl,Walks.list (show X.A.in1.handled=none from I.ok.hd t) s.heap.objs.size a (Fs g) its.toArray,⟨⟨_,Fg _ rfl,rfl,rfl⟩,p.isList.at fun o e=>E8 _ e⟩,?_,?_⟩
 ·intro i v s' m C y j
  have d:its[i]?=some v:=by simpa using y
  have hi:i < bs.length:=by
   have:=(Fi.mp d).1
   lia
  obtain ⟨u,hu,f⟩:=k.get (i:=i) (x:=V.bl (bs[i])) (by simp [hi])
  rw [d] at hu
  cases hu
  cases (show v=Value.bool bs[i] from f)
  refine FM ?_
  have e:bs.getD i false=bs[i]:=by simp [List.getD,hi]
  have c:m (bs.getD i false) s':=j
  rw [e] at c
  exact c
 ·intro h' tk n
  have z:Inv X pins σ H { s with heap:=h',toks:=tk }:=I.kept fun b o e=>n b o (by
   intro hm
   have w:b=s.heap.objs.size:=by simpa using hm
   exact absurd (w ▸ Fe e) (Nat.lt_irrefl _)) (E8 _ e)
  refine ⟨.bl (bs.all id),H,z,?_,q⟩
  show Value.bool _=Value.bool _
  rw [Ft,<- l,we]
def Ite (K:FG) (a:Addr):It :=
 ⟨fun i H=>∃ xs x,SqL K H a xs/\xs[i]?=some x,fun i H x H'=>∃ T y,x=.ref T/\H T=none/\H'=upd H T (.tup [.int i,y])/\∀ xs,SqL K H a xs->xs[i]?=some y,fun i H=>∃ xs,SqL K H a xs/\xs.length<=i⟩
theorem Inv.two {tk:Nat} (I:Inv X pins σ H s) (g:FpOk X pins H e) (f:FpOk X pins H it) (k:∀ b o,b ≠ e->b ≠ it->s.heap.get? b=some o->h'.get? b=some o):Inv X pins σ H { s with heap:=h',toks:=tk }:=by
 have l:∀ b u,H b=some u->b ≠ e/\b ≠ it:=fun b u q=>⟨aL q g.1,aL q f.1⟩
 have a:∀ b,b ∉ [e,it]->b ≠ e/\b ≠ it:=fun b h=>⟨fun z=>h (by simp [z]),fun z=>h (by simp [z])⟩
 refine I.step (g':=s.gens) (d':=s.drawn) (ch:=[e,it]) (fun b h=>?_) (fun b o _ _ d q _=>k b o (a b d).1 (a b d).2 q) (fun b o _ _ d q _=>⟨o.slots,k b o (a b d).1 (a b d).2 q⟩) (fun _ _ _ _ n=>n)
  (fun b o d q=>⟨o,k b o (a b d).1 (a b d).2 q⟩) (fun _ _ q=>q) (fun _ _ _ q=>q) (fun b ps q=>⟨#[],by rw [q];simp⟩) (fun m hm=>?_) (fun b u q=>?_) I.bare
 ·have i:b=e\/b=it:=by simpa using h
  rcases i with rfl | rfl
  ·exact ⟨g.2.2.2.1,g.2.1,g.2.2.2.2.1,g.2.2.2.2.2⟩
  ·exact ⟨f.2.2.2.1,f.2.1,f.2.2.2.2.1,f.2.2.2.2.2⟩
 ·obtain ⟨o,es,j,p,r⟩:=hm
  exact ⟨o,es,j,k _ o (Ne.symm g.2.1) (Ne.symm f.2.1) p,r⟩
 ·refine (I.hok b u q).stay (fun c v d z=>?_) (fun _ z=>z) fun _ _ z=>z
  grind
theorem Inv.trackT (I:Inv X pins σ H s) (J:Inv X pins σ H s0) (f:s0.heap.objs.size<=T) (k:IsTupD s.heap T its.toArray) (t:Vals xs its) (hz:xs.length<=sizeLine):Inv X pins σ (upd H T (.tup xs)) s:=by
 have l:H T=none:=J.hok.fresh f
 obtain ⟨e1,z,A,a,B,E,F,G,C,h,g⟩:=id I
 have d:∀ b,H b=none->∀ o,s0.heap.get? b=some o->upd H T (.tup xs) b=none:=fun b r o e=>by
  rw [au (Fs (Fy (Fe e) f))];exact r
 have j:∀ b u,H b=some u->upd H T (.tup xs) b=some u:=fun b u e=>by rw [au (aL e l)];exact e
 have i:X.s₀.heap.objs.size<=T:=FN J.sz f
 refine ⟨e1,z,A,⟨a.keep,a.slot,fun b o q n k=>?_,a.there,fun b ys q=>j _ _ (a.tups b ys q),fun b o u q=>j _ _ (a.frzs b o u q),fun b ps q=>?_⟩,B,E,?_,fun x c q=>?_,fun p m=>?_,?_,g⟩
 ·rw [au (Fs (Fy (Fe q) i))];exact a.free b o q n k
 ·obtain ⟨more,w⟩:=a.tbls b ps q;exact ⟨more,j _ _ w⟩
 ·rw [au (Fs (Fy J.lt f))];exact F
 ·obtain ⟨v,o,D,_⟩:=J.cell x c q
  exact d c (G x c q) o D
 ·obtain ⟨a1,a2,y⟩:=C p m
  exact ⟨a1,d p.1 a2 p.2 (J.pin p m).1,y⟩
 ·exact h.track l ⟨hz,its,t,k⟩
theorem uB {P:Program} {w:World} {K:FG} {elts:List Expr} {k:Nat} {pos:Pos} (a e it:Addr) (j:e ≠ it):Turn P w K (.Tuple elts k pos) (Ite K a) [e,it] e (fun i h=>(∃ old,IsEnum h e it i old)/\h.IsListIter it a i) where
 mem:=by simp
 obj:=fun i h st b g=>by
  obtain ⟨⟨old,he⟩,o,l,c,d⟩:=st
  have M:b=e\/b=it:=by simpa using g
  rcases M with rfl | rfl
  ·exact ⟨_,he,fun v z=>by cases z⟩
  ·exact ⟨o,l,fun v z=>by rw [d] at z;cases z⟩
 keep:=fun i h h' st k=>⟨let ⟨old,he⟩:=st.1;⟨old,k e (by simp) _ he⟩,st.2.at fun o q=>k it (by simp) o q⟩
 item:=by
  intro X L hw G O i pins s σ H E I hf st N
  subst L hw G
  obtain ⟨xs,x,A,J⟩:=N
  obtain ⟨its,D,p,hz⟩:=I.list A
  obtain ⟨u,hu,U⟩:=D.get J
  obtain ⟨⟨old,he⟩,hit⟩:=st
  refine wpAny_pyNext_enum_item he hit p.isList (x:=u) (by simpa using hu) j fun h' C y Q hsz W=>?_
  refine ⟨_,rfl,wpAny_letOwnedTupleGo_enum C fun n t f=>?_⟩
  have m:e < s.heap.objs.size:=Fe he
  have I1:Inv X pins σ H { s with heap:=n,toks:=s.toks+1 }:=I.two (hf e (by simp)) (hf it (by simp)) fun b o hb1 hb2 q=>(f.2 b hb1).trans (W b o hb1 hb2 q)
  have F:n.get? s.heap.objs.size=some { cls:=.type "tuple",data:=.seq #[.int i s.toks,u] }:=(f.2 _ (Nat.ne_of_gt m)).trans Q
  have R:=I1.trackT (s0:=s) (T:=s.heap.objs.size) (xs:=[.int i,x]) (its:=[.int i s.toks,u]) I (Fq _) ⟨_,F,rfl,_,rfl⟩ (.cons ⟨_,rfl⟩ (.cons U .nil)) (by show 2<=sizeLine;decide)
  refine ⟨.ref s.heap.objs.size,_,R,rfl,⟨_,x,rfl,I.hok.fresh (Fq _),rfl,fun ys S=>by rw [I.list_inj S A];exact J⟩,⟨⟨_,by simpa using t⟩,?_⟩,fun b g=>?_⟩
  ·obtain ⟨o,l,r⟩:=y
   exact ⟨o,(f.2 it (Ne.symm j)).trans l,r⟩
  ·have B:b < s.heap.objs.size:=by
    have M:b=e\/b=it:=by simpa using g
    rcases M with rfl | rfl
    ·exact m
    ·obtain ⟨o,l,r⟩:=hit;exact Fe l
   rw [au (Fs B)]
   exact (hf b g).1
 done:=by
  intro X L hw G O i pins s σ H E I hf st N
  subst L hw G
  obtain ⟨xs,A,J⟩:=N
  obtain ⟨its,D,p,hz⟩:=I.list A
  obtain ⟨⟨old,he⟩,hit⟩:=st
  have hl:=D.length
  obtain ⟨f0,f1,f2,V,f4,Z⟩:=hf it (by simp)
  exact wpAny_pyNext_enum_end (I.ok.hd O) he hit p.isList (by simp;lia) fun h' Y=>⟨rfl,I.turned (t':=s.toks) (fun b o g q=>Y b o g q) f0 f1 V f4 Z⟩
 self:=fun _ _ _ _ _ st h=>let ⟨_,he⟩:=st.1;wpAny_pyIter_enum he h
def Ct (K:FG) (ta:TA):TI:=fun σ H R=>ta σ H fun b H1=>∃ a,b=[.ref a]/\(∃ xs,SqL K H1 a xs)/\R (Ite K a) H1
theorem AU {k:Nat} (n:Gl X "enumerate") (hm:X.mg "enumerate"=none) (i:PA X [a] ta) (l:starEach [a] X.env=[(false,eval a X.env)]:=by rfl):PI X (.Tuple elts k tp) (.Call (.Name "enumerate" p) [a] [] pos) (Ct X.K ta):=by
 intro pins s σ H R I h
 refine Call_ (gg I n hm boot_enumerate (PyProof.Rows.callWith_type1 (thn (i pos pins s σ H _ I h) fun us s1 ⟨w,H1,d,o,m⟩=>?_) l rfl))
 obtain ⟨a,e,⟨xs,r⟩,q⟩:=m
 subst e
 obtain ⟨u,rfl,f⟩:=bR o
 cases f
 obtain ⟨its,v,pl,hz⟩:=d.list r
 refine call_enumerate_list pl.isList fun h' he hit hsz g=>?_
 refine wpAny_pyIter_enum he ?_
 have j:Inv X pins σ H1 { s1 with heap:=h' }:=d.kept (t':=s1.toks) g
 refine ⟨s1.heap.objs.size+1,[s1.heap.objs.size+1,s1.heap.objs.size],_,_,H1,rfl,j,uB a _ _ (Nat.succ_ne_self _),⟨⟨_,he⟩,hit⟩,fun b t=>?_,q⟩
 have c:s1.heap.objs.size<=b:=by
  grind
 exact d.fpOk c (d.hok.fresh c)
end
end L2
end
section
namespace L2
open PySem PySem.Spec PyProof.Rows
structure Callee (P:Program) (w:World) (K:FG) (mg:Str->Option Value) (base:Heap) (x:Str) (k:Nat) (ps:List Str) (sp:Sp):Prop where
 ex:∃ (f:Addr) (fd:FuncData),FnOk P w K mg base CX0 k f fd ps sp/\mg x=some (.ref f)/\PySem.W.keepIn K (.ref f)=true/\Binds K fd ps []
structure DefAt (K:FG) (mg:Str->Option Value) (x:Str) (st:Stmt) (f:Addr) (fd:FuncData):Prop where
 fn:Fun K x x st f fd
 mg:mg x=some (.ref f)
def Def (K:FG) (mg:Str->Option Value) (x:Str) (st:Stmt):Prop:=∃ f fd,DefAt K mg x st f fd
theorem Def.callee {K:FG} {st:Stmt} {k:Nat} (D:Def K mg x st) (b:∀ (kV doc pm:Value) (an:Option Addr) (a ct:Value) (us:List Value),us.length=ps.length->bindArgs (PySem.W.fnOf x x (aQ st) (aJ st) (ag st) .none kV doc pm an a ct) ⟨us,[]⟩=pure (ps.zip us)) (h:∀ f fd,Fun K x x st f fd->FnOk P w K mg base CX0 k f fd ps sp):Callee P w K mg base x k ps sp :=
 let ⟨f,fd,d⟩:=D
 ⟨f,fd,h f fd d.fn,d.mg,d.fn.kp,d.fn.binds b⟩
section
variable {X:Cx} {x:Str} {p pos:Pos} {e:Expr} {es:List Expr} {t:TA} {k:Nat} {ps:List Str} {sp:Sp}
def tFn (sp:Sp) (t:TA):TE:=fun σ H Q=>t σ H fun a H1=>sp a H1 Q E0
theorem pe_fn (c:Callee X.prog X.w X.K X.mg X.base x k ps sp) (g:Room k X.A) (m:PA X (e :: es) t) (i:Gl X x:=by rfl) (b:(x == ("__debug__":Str))=false:=by decide)
  (he:starEach (e :: es) X.env=(false,eval e X.env) :: starEach es X.env:=by rfl) (d:(backTo pos (starEach es X.env)).any (·.1)=false:=by rfl):PE X (.Call (.Name x p) (e :: es) [] pos) (tFn sp t):=by
 obtain ⟨f,fd,F,hm,l,j⟩:=c.ex
 have h:=AY (pos:=pos) (p:=p) (dvs:=[]) (E:=E0) F g i hm l j .nil pass0 m b he d
 intro pins s σ H Q I q
 refine h pins s σ H Q I ?_
 show t σ H fun a H1=>sp (a ++ []) H1 Q E0
 have n:t σ H (fun a H1=>sp a H1 Q E0):=q
 simpa using n
end
def But (p:Addr) (H H':Hp):Prop:=∀ b o,H b=some o->b ≠ p->H' b=some o
theorem But.trans (a:But p H H1) (b:But p H1 H2):But p H H2:=fun c o h n=>b c o (a c o h n) n
abbrev Pt:=Int × Int
def aS (p q r:Pt):Int:=(q.1 - p.1) * (r.2 - p.2) - (q.2 - p.2) * (r.1 - p.1)
def Small (p:Pt):Prop:=-(2 ^ 62) < p.1/\p.1 < 2 ^ 62/\-(2 ^ 62) < p.2/\p.2 < 2 ^ 62
def Rising (ps:List Pt):Prop:=∀ (i j:Nat) (p q:Pt),i < j->ps[i]?=some p->ps[j]?=some q->p.1 < q.1
def NoLine (ps:List Pt):Prop:=∀ (i j k:Nat) (p q r:Pt),i < j->j < k->ps[i]?=some p->ps[j]?=some q->ps[k]?=some r->aS p q r ≠ 0
structure GoodSh (ps:List Pt):Prop where
 pos:0 < ps.length
 most:ps.length<=24
 small:∀ p ∈ ps,Small p
 rising:Rising ps
 noline:NoLine ps
def jU:List Pt->List (Pt × Pt)
 | []=>[]
 | p :: r=>r.map (fun q=>(p,q)) ++ jU r
theorem mR:∀ {ps:List Pt} {i j:Nat} {p q:Pt},i < j->ps[i]?=some p->ps[j]?=some q->(p,q) ∈ jU ps
 | [],_,_,_,_,_,h,_=>by simp at h
 | a :: r,0,0,_,_,h,_,_=>by lia
 | a :: r,0,j+1,p,q,_,h1,h2=>by
  simp at h1 h2;subst h1
  exact Fa _ (Fo.mpr ⟨q,Fj h2,rfl⟩)
 | a :: r,i+1,0,_,_,h,_,_=>by lia
 | a :: r,i+1,j+1,p,q,h,h1,h2=>Fb _ (mR (ps:=r) (i:=i) (j:=j) (by lia) (by simpa using h1) (by simpa using h2))
theorem pE:∀ {ps:List Pt} {p q:Pt},(p,q) ∈ jU ps->∃ i j:Nat,i < j/\ps[i]?=some p/\ps[j]?=some q
 | [],_,_,h=>by simp [jU] at h
 | a :: r,p,q,h=>by
  rcases Ff.mp h with h | h
  ·obtain ⟨z,hz,e⟩:=Fo.mp h
   cases e
   obtain ⟨j,b,e⟩:=List.mem_iff_getElem.mp hz
   exact ⟨0,j+1,by lia,rfl,by simp [b,e]⟩
  ·obtain ⟨i,j,h0,h1,h2⟩:=pE h
   exact ⟨i+1,j+1,by lia,by simpa using h1,by simpa using h2⟩
theorem mK:∀ ps:List Pt,(jU ps).length<=ps.length * ps.length
 | []=>by simp [jU]
 | a :: r=>by
  have b:=mK r
  simp only [jU,FB,Fh,FC]
  have:(r.length+1) * (r.length+1)=r.length * r.length+2 * r.length+1:=by
   rw [Nat.add_mul,Nat.mul_add];lia
  lia
def zJ (ps:List Pt) (z:Pt):Prop:=∀ (i j:Nat) (p q:Pt),i < j->ps[i]?=some p->ps[j]?=some q->aS p q z ≠ 0
def above (ps:List Pt) (x y:Int):Nat:=((jU ps).filter fun pr=>decide (aS pr.1 pr.2 (x,y)<=0)).length
theorem zh {α:Type} {p q:α->Bool}:∀ {l:List α},(∀ a ∈ l,p a=true->q a=true)->(l.filter p).length<=(l.filter q).length
 | [],_=>by simp
 | a :: l,h=>by
  have d:=zh (l:=l) fun b g=>h b (E7 _ g)
  have f:=h a E6
  cases c:p a with
  | true=>rw [List.filter_cons_of_pos c,List.filter_cons_of_pos (f c)];simpa using d
  | false =>
   rw [List.filter_cons_of_neg (by simp [c])]
   cases e:q a with
   | true=>rw [List.filter_cons_of_pos e];simp;lia
   | false=>rw [List.filter_cons_of_neg (by simp [e])];exact d
theorem zg {α:Type} {p q:α->Bool}:∀ {l:List α} {z:α},(∀ a ∈ l,p a=true->q a=true)->z ∈ l->q z=true->p z=false->(l.filter p).length < (l.filter q).length
 | [],_,_,hz,_,_=>by simp at hz
 | a :: l,z,h,hz,h1,h2=>by
  have d:∀ b ∈ l,p b=true->q b=true:=fun b i=>h b (E7 _ i)
  rcases Fc.mp hz with rfl | hz
  ·rw [List.filter_cons_of_neg (by simp [h2]),List.filter_cons_of_pos h1]
   have:=zh d
   simp;lia
  ·have e:=zg d hz h1 h2
   have g:=h a E6
   cases c:p a with
   | true=>rw [List.filter_cons_of_pos c,List.filter_cons_of_pos (g c)];simpa using e
   | false =>
    rw [List.filter_cons_of_neg (by simp [c])]
    cases f:q a with
    | true=>rw [List.filter_cons_of_pos f];simp;lia
    | false=>rw [List.filter_cons_of_neg (by simp [f])];exact e
theorem ui (p q:Pt) (x y:Int):aS p q (x,y+1)=aS p q (x,y)+(q.1 - p.1):=by
 unfold aS
 grind
theorem zD {x y:Int} (R:Rising ps) {i j:Nat} (a:i < j) (hi:ps[i]?=some p) (c:ps[j]?=some q) (h0:aS p q (x,y)=0):above ps x (y+1) < above ps x y:=by
 refine zg (z:=(p,q)) (fun pr b h=>?_) (mR a hi c) (by simp [h0]) ?_
 ·obtain ⟨f,e,h',e1,d⟩:=pE (p:=pr.1) (q:=pr.2) b
  have:=R f e _ _ h' e1 d
  have h:=of_decide_eq_true h
  rw [ui] at h
  exact Fv (by lia)
 ·have:=R i j _ _ a hi c
  show decide (aS p q (x,y+1)<=0)=false
  rw [ui,h0]
  exact Fw (by lia)
theorem zE (ps:List Pt) (x y:Int):above ps x y<=ps.length * ps.length:=FN (List.length_filter_le _ _) (mK ps)
theorem cU {α:Type} {l:List α} {z a:α} {i:Nat} (h:(l ++ [z])[i]?=some a):(l[i]?=some a/\i < l.length)\/(a=z/\i=l.length):=by grind
theorem Rising.snoc (R:Rising ps) (h:∀ p ∈ ps,p.1 < z.1):Rising (ps ++ [z]):=fun i j p q a h1 h2=>by
 rcases cU h1 with ⟨a1,b1⟩ | ⟨rfl,b1⟩
 ·rcases cU h2 with ⟨a2,b2⟩ | ⟨rfl,b2⟩
  ·exact R i j p q a a1 a2
  ·exact h p (Fj a1)
 ·rcases cU h2 with ⟨a2,b2⟩ | ⟨rfl,b2⟩
  ·lia
  ·lia
theorem NoLine.snoc (N:NoLine ps) (F:zJ ps z):NoLine (ps ++ [z]):=fun i j k p q r a b h1 h2 h3=>by
 rcases cU h1 with ⟨a1,b1⟩ | ⟨rfl,b1⟩
 ·rcases cU h2 with ⟨a2,b2⟩ | ⟨rfl,b2⟩
  ·rcases cU h3 with ⟨d,c⟩ | ⟨rfl,c⟩
   ·exact N i j k p q r a b a1 a2 d
   ·exact F i j p q a a1 a2
  ·rcases cU h3 with ⟨d,c⟩ | ⟨rfl,c⟩ <;> lia
 ·rcases cU h2 with ⟨a2,b2⟩ | ⟨rfl,b2⟩ <;> lia
def iA (a b c:Int) (p:Pt):Pt:=(a * p.1+c,b * p.2)
theorem sB (a b c:Int) (p q r:Pt):aS (iA a b c p) (iA a b c q) (iA a b c r)=(a * b) * aS p q r:=by
 unfold aS iA
 grind
theorem Rising.scale {a b c:Int} (g:0 < a) (R:Rising ps):Rising (ps.map (iA a b c)):=fun i j p q f h1 h2=>by
 rw [Fp] at h1 h2
 obtain ⟨d,e1,rfl⟩:=E9.mp h1
 obtain ⟨e,h,rfl⟩:=E9.mp h2
 have:=R i j d e f e1 h
 have h3:a * d.1 < a * e.1:=Int.mul_lt_mul_of_pos_left this g
 show a * d.1+c < a * e.1+c
 lia
theorem NoLine.scale {a b c:Int} (o:0 < a) (n:0 < b) (N:NoLine ps):NoLine (ps.map (iA a b c)):=fun i j k p q r e d h1 h2 h3=>by
 rw [Fp] at h1 h2 h3
 obtain ⟨h,e1,rfl⟩:=E9.mp h1
 obtain ⟨l,m,rfl⟩:=E9.mp h2
 obtain ⟨g,f,rfl⟩:=E9.mp h3
 rw [sB]
 exact Int.mul_ne_zero (Int.mul_ne_zero (by lia) (by lia)) (N i j k h l g e d e1 m f)
section InBlock
variable {X:Cx} {NY:List Str} {scope:Scope} {s:Shared} {H:Hp} {C:Addr} {fp:List Addr}
end InBlock
end L2
end
section
namespace L2
open PySem PySem.Spec PyProof.Rows
mutual
inductive DV (K:FG) (H:Hp):V->PyData->Prop
 | non:DV K H .non .none
 | bl (b:Bool):DV K H (.bl b) (.bool b)
 | int (i:Int):DV K H (.int i) (.int i)
 | str (x:Str):DV K H (.str x) (.str x)
 | tup {a:Addr} {xs:List V} {ds:List PyData}:SqT K H a xs->DVs K H xs ds->DV K H (.ref a) (.tuple ds)
 | lst {a:Addr} {xs:List V} {ds:List PyData}:SqL K H a xs->DVs K H xs ds->DV K H (.ref a) (.list ds)
inductive DVs (K:FG) (H:Hp):List V->List PyData->Prop
 | nil:DVs K H [] []
 | cons {x:V} {d:PyData} {xs:List V} {ds:List PyData}:DV K H x d->DVs K H xs ds->DVs K H (x :: xs) (d :: ds)
end
section
variable {X:Cx} {pins:List (Addr × Obj)} {σ:St} {H:Hp} {s:Shared}
mutual
theorem DV.reads (I:Inv X pins σ H s):∀ {v:V} {d:PyData} {u:Value},DV X.K H v d->RelV v u->∃ as,Reads s.heap u d as
 | _,_,u,.non,r=>by cases (show u=Value.none from r);exact ⟨_,.none⟩
 | _,_,u,.bl b,r=>by cases (show u=Value.bool b from r);exact ⟨_,.bool b⟩
 | _,_,u,.int i,r=>by obtain ⟨t,rfl⟩:=r;exact ⟨_,.int i t⟩
 | _,_,u,.str x,r=>by obtain ⟨t,rfl⟩:=r;exact ⟨_,.str x t⟩
 | _,_,u,.tup (a:=a) h rs,r=>by
  cases (show u=Value.ref a from r)
  obtain ⟨its,f,⟨o,e,c,n,d⟩,_⟩:=I.tuple h
  obtain ⟨as,q⟩:=DVs.reads I rs f
  exact ⟨_,.tuple e c d (by simpa using q)⟩
 | _,_,u,.lst (a:=a) h rs,r=>by
  cases (show u=Value.ref a from r)
  obtain ⟨its,f,⟨o,n,e,c,_,d⟩,_⟩:=I.list h
  obtain ⟨as,q⟩:=DVs.reads I rs f
  exact ⟨_,.list e c d (by simpa using q)⟩
theorem DVs.reads (I:Inv X pins σ H s):∀ {v:List V} {d:List PyData} {us:List Value},DVs X.K H v d->Vals v us->∃ as,ReadsAll s.heap us d as
 | _,_,_,.nil,.nil=>⟨_,.nil⟩
 | _,_,_,.cons h r,.cons q t=>by
  obtain ⟨as,e1⟩:=DV.reads I h q
  obtain ⟨bs,a⟩:=DVs.reads I r t
  exact ⟨_,.cons e1 a⟩
end
end
end L2
end
section
namespace L2
open PySem PySem.Spec PyProof.Rows
abbrev Be (i:Int):Str:=Str.ofString (toString i)
end L2
end
section
namespace L2
open PySem PySem.Spec PyProof.Rows
end L2
end
section
namespace L2
open PySem PySem.Spec PyProof.Rows
end L2
end
section
namespace L2
open PySem PySem.Spec PyProof.Rows
end L2
end
section
namespace L2
open PySem PySem.Spec PyProof.Rows
section
variable {X:Cx}
theorem jc (r:Vals (ns.map V.int) us):∃ xs:Array (Int × Tok),us.toArray=intItems xs/\ns=xs.toList.map (·.1):=by
 induction ns generalizing us with
 | nil=>cases r;exact ⟨#[],by simp [intItems],rfl⟩
 | cons n ns ih =>
  cases r with
  | cons q t =>
   obtain ⟨k,rfl⟩:=q
   obtain ⟨xs,e1,b⟩:=ih t
   refine ⟨((n,k) :: xs.toList).toArray,?_,by simp [b]⟩
   have a:=congrArg Array.toList e1
   simp only [intItems,List.toList_toArray,Array.toList_map] at a
   simp [intItems,a]
theorem ee {i:Nat} (h:i < xs.size):numAt xs i ∈ xs.toList.map (·.1):=by
 have e:(xs.toList.map (·.1))[i]?=some (numAt xs i):=by simp [numAt,h]
 exact Fj e
theorem eg {n:Int} (h:n ∈ xs.toList.map (·.1)):∃ i,i < xs.size/\numAt xs i=n:=by
 obtain ⟨i,hi,e⟩:=List.mem_iff_getElem.mp h
 have a:i < xs.size:=by simpa using hi
 refine ⟨i,a,?_⟩
 rw [<- e]
 simp [numAt,a]
theorem vW (g:X.calm=true):CallR X (.builtin "max") (fun xs H Q=>∃ (l:Addr) (ns:List Int),xs=[.ref l]/\SqL X.K H l (ns.map V.int)/\ns ≠ []/\∀ m,m ∈ ns->(∀ n ∈ ns,n<=m)->Q (.int m) H):=by
 intro pins s σ H xs us Q I r h
 obtain ⟨l,ns,rfl,f,k,q⟩:=h
 obtain ⟨u,rfl,b⟩:=bR r
 cases (show u=Value.ref l from b)
 obtain ⟨its,c,p,hz⟩:=I.list f
 obtain ⟨ys,e1,a⟩:=jc c
 have e:0 < ys.size:=by
  grind
 have pl:=p.isList
 rw [e1] at pl
 refine max_intList (I.ok.hd g) pl e fun v h' tk j d=>?_
 obtain ⟨t,rfl⟩:=intItems_at j
 obtain ⟨b1,b2⟩:=argBest_gt (numAt ys) (ys.size - 1)
 refine ⟨.int _,H,I.kept d,⟨t,rfl⟩,q _ (by rw [a];exact ee (by omega)) fun n hm=>?_⟩
 rw [a] at hm
 obtain ⟨i,hi,rfl⟩:=eg hm
 exact b2 i (by omega)
theorem vQ (g:X.calm=true):CallR X (.builtin "min") (fun xs H Q=>∃ (l:Addr) (ns:List Int),xs=[.ref l]/\SqL X.K H l (ns.map V.int)/\ns ≠ []/\∀ m,m ∈ ns->(∀ n ∈ ns,m<=n)->Q (.int m) H):=by
 intro pins s σ H xs us Q I r h
 obtain ⟨l,ns,rfl,f,k,q⟩:=h
 obtain ⟨u,rfl,b⟩:=bR r
 cases (show u=Value.ref l from b)
 obtain ⟨its,c,p,hz⟩:=I.list f
 obtain ⟨ys,e1,a⟩:=jc c
 have e:0 < ys.size:=by
  grind
 have pl:=p.isList
 rw [e1] at pl
 refine min_intList (I.ok.hd g) pl e fun v h' tk j d=>?_
 obtain ⟨t,rfl⟩:=intItems_at j
 obtain ⟨b1,b2⟩:=argBest_lt (numAt ys) (ys.size - 1)
 refine ⟨.int _,H,I.kept d,⟨t,rfl⟩,q _ (by rw [a];exact ee (by omega)) fun n hm=>?_⟩
 rw [a] at hm
 obtain ⟨i,hi,rfl⟩:=eg hm
 exact b2 i (by omega)
end
end L2
end
section
namespace L2
open PySem PySem.Spec PyProof.Rows
def Cz (b:Option (Int × Tok)):Array Value:=match b with | none=>#[] | some p=>#[.int p.1 p.2,.int p.1 p.2]
def oG (xs:Array (Int × Tok)) (j:Nat) (b:Option (Int × Tok)):Prop:=match b with
 | none=>j=0
 | some p=>(∃ i,i < j/\numAt xs i=p.1)/\∀ i,i < j->numAt xs i<=p.1
section
variable {prog:Program} {w:World} {A:Around} {R:Result->Shared->Prop}
theorem vh (V:A.handled=none) (L:l ≠ I) (n:S ≠ I) (M:S ≠ l) (xs:Array (Int × Tok)) (d:Value):∀ (k j:Nat) (s:Shared) (b:Option (Int × Tok)) (c:Nat),xs.size - j=k->j<=xs.size->s.heap.IsListIter I l j->s.heap.IsList l (intItems xs) ->
  s.heap.get? S=some { cls:=.type "list",dict:=none,data:=.seq (Cz b) c,slots:=#[] }->oG xs j b ->
  (∀ v h' tk,((xs.size=0/\v=d)\/∃ p:Int × Tok,v=.int p.1 p.2/\oG xs xs.size (some p))->(∀ a o,a ≠ I->a ≠ S->s.heap.get? a=some o->h'.get? a=some o)->R (.ok (.ret v)) { s with heap:=h',toks:=tk }) ->
  codeAny (model prog w) A (.builtin "max.loop" ⟨[.ref I,.none,.ref S],[("default",d)]⟩) R s:=by
 have nm:(toString "max" ++ toString ".loop":String) = "max.loop":=by decide
 intro k
 induction k with
 | zero =>
  intro j s b c T X hit B y q fin
  obtain rfl:j=xs.size:=by lia
  refine codeAny_builtin F.entry_max_loop ?_
  rw [Around.under_plainId F.plain_max_loop _]
  show wpAny _ A.in1 (seqItems? (.ref S) >>= _) _ _ s
  refine E3 (wpAny_seqItems y rfl ?_)
  show wpAny _ A.in1 (tryCatch (pyNext (.ref I)) _ >>= _) _ _ s
  refine E3 (wpAny_tryCatch (wpAny_pyNext_list_end (show A.in1.handled=none from V) hit B (by simp [intItems]) fun h' J=>?_))
  cases b with
  | none =>
   have h0:xs.size=0:=q
   show wpAny _ A.in1 (rule _ >>= fun _=>ret d) _ _ _
   exact E3 (wpAny_rule (E4 (fin d h' s.toks (.inl ⟨h0,rfl⟩) fun a o g _ e=>J a o g e)))
  | some p =>
   have f:=J S _ n y
   show wpAny _ A.in1 (updateSeq S (fun _=>#[]) >>= _) _ _ _
   refine E3 (wpAny_updateSeq f rfl (E3 (wpAny_letGo (E4 ?_))) (hz:=by show 2<=sizeLine;decide))
   exact fin _ _ s.toks (.inr ⟨p,rfl,q⟩) fun a o g z e=>(FK _ _ (Ne.symm z)).trans (J a o g e)
 | succ k ih =>
  intro j s b c T X hit B y q fin
  have r:j < xs.size:=by lia
  obtain ⟨x,O⟩:∃ x,xs[j]?=some x:=⟨xs[j],by simp [r]⟩
  have U:(intItems xs)[j]?=some (.int x.1 x.2):=by simp [intItems,O]
  have h:numAt xs j=x.1:=by simp [numAt,O]
  refine codeAny_builtin F.entry_max_loop ?_
  rw [Around.under_plainId F.plain_max_loop _]
  show wpAny _ A.in1 (seqItems? (.ref S) >>= _) _ _ s
  refine E3 (wpAny_seqItems y rfl ?_)
  show wpAny _ A.in1 (tryCatch (pyNext (.ref I)) _ >>= _) _ _ s
  refine E3 (wpAny_tryCatch (wpAny_pyNext_list_item hit B U fun h' u sb=>?_))
  have f:h'.get? S=_:=(sb.2 S n).trans y
  have D:h'.IsList l (intItems xs):=B.at fun o e=>(sb.2 l L).trans e
  have on:∀ (h2:Heap) (tk:Nat) (C:Option (Int × Tok)) (K:Nat),(∀ a o,a ≠ S->h'.get? a=some o->h2.get? a=some o)->h2.get? S=some { cls:=.type "list",dict:=none,data:=.seq (Cz C) K,slots:=#[] }->oG xs (j+1) C ->
    codeAny (model prog w) A (.builtin "max.loop" ⟨[.ref I,.none,.ref S],[("default",d)]⟩) R { s with heap:=h2,toks:=tk }:=fun h2 tk C K k2 E H =>
   ih (j+1) _ C K (by lia) r (u.at fun o e=>k2 I o (Ne.symm n) e) (D.at fun o e=>k2 l o (Ne.symm M) e) E H fun v h3 G N k3=>fin v h3 G N fun a o g z e=>k3 a o g z (k2 a o z ((sb.2 a g).trans e))
  cases b with
  | none =>
   have h0:j=0:=q
   show wpAny _ A.in1 (updateSeq S (fun _=>#[.int x.1 x.2,.int x.1 x.2]) >>= _) _ _ _
   refine E3 (wpAny_updateSeq f rfl ?_)
   rw [nm]
   refine E4 ⟨plainId_quiet F.plain_max_loop _,on _ s.toks (some x) _ (fun a o g e=>(FK _ _ (Ne.symm g)).trans e) (FA _ f rfl) ⟨⟨j,by lia,h⟩,fun i hi=>?_⟩⟩
   obtain rfl:i=j:=by lia
   lia
  | some p =>
   obtain ⟨⟨Q,W,P⟩,hle⟩:=q
   show wpAny _ A.in1 (tryCatch (holding [.int x.1 x.2,.int x.1 x.2] (richCompare .Gt (.int x.1 x.2) (.int p.1 p.2) >>= _)) _ >>= _) _ _ _
   refine E3 (wpAny_tryCatch (E5 (E3 ?_)))
   refine (gt_int (a:=x.1) (b:=p.1) ?_:wpAny (model prog w) A.in1 (compareOp .Gt (.int x.1 x.2) (.int p.1 p.2)) _ _ _)
   refine E3 (E5 (FM (E3 (wpAny_letGo (E4 ?_)))))
   by_cases t:p.1 < x.1
   ·rw [Fv t,if_pos rfl]
    refine E3 (wpAny_updateSeq f rfl (E3 (wpAny_letGo ?_)) (hz:=by show 2<=sizeLine;decide))
    rw [nm]
    refine E4 ⟨plainId_quiet F.plain_max_loop _,on _ s.toks (some x) _ (fun a o g e=>(FK _ _ (Ne.symm g)).trans e) (FA _ f rfl) ⟨⟨j,by lia,h⟩,fun i hi=>?_⟩⟩
    by_cases m:i=j
    ·subst m;lia
    ·have:=hle i (by lia);lia
   ·rw [Fw t,if_neg Fr]
    refine E3 (wpAny_letGo ?_)
    rw [nm]
    refine E4 ⟨plainId_quiet F.plain_max_loop _,on h' s.toks (some p) c (fun a o _ e=>e) f ⟨⟨Q,by lia,P⟩,fun i hi=>?_⟩⟩
    by_cases m:i=j
    ·subst m;lia
    ·exact hle i (by lia)
end
end L2
end
section
namespace L2
open PySem PySem.Spec PyProof.Rows
section
variable {prog:Program} {w:World} {A:Around} {E:Value->Shared->Prop} {s:Shared} {l:Addr} {xs:Array (Int × Tok)}
theorem mN {h':Heap} (a:∀ b o,b ∉ [s.heap.objs.size]->(s.heap.push { cls:=.type "tuple_iterator",data:=.fields #[.ref t,.int 0 0] }).get? b=some o->h'.get? b=some o) :
  ∀ b o,s.heap.get? b=some o->h'.get? b=some o:=fun b o e=>by
 refine a b o (fun hm=>?_) (E8 _ e)
 rcases Fc.mp hm with e1 | hm
 ·exact absurd (e1 ▸ Fe e) (Nat.lt_irrefl _)
 ·cases hm
theorem iu (c:s.heap.IsTuple t items) (h:∀ a:Shared,a = { s with heap:=s.heap.push { cls:=.type "tuple_iterator",data:=.fields #[.ref t,.int 0 0] } } ->
   (a.heap.IsTupleIter s.heap.objs.size t 0/\a.heap.IsTuple t items)->(∀ b ∈ [s.heap.objs.size,t],b < a.heap.objs.size)->t ≠ s.heap.objs.size->Q (.ref s.heap.objs.size) a) :
  wpAny (model prog w) A (pyIter (.ref t)) Q E s:=by
 have d:t < s.heap.objs.size:=by obtain ⟨_,e,_⟩:=c;exact Fe e
 refine wpAny_pyIter_tuple c (h _ rfl ⟨⟨_,Fg _ rfl,rfl,rfl⟩,c.push _⟩ (fun b f=>?_) (Fs d))
 show b < (s.heap.push _).objs.size
 rw [FL]
 grind
theorem nR (g:A.handled=none) (l:s.heap.IsTuple t (intItems xs)) (a:0 < xs.size) (h:∀ v h' tk,(intItems xs)[argBest (fun i j=>decide (numAt xs i < numAt xs j)) (xs.size - 1)]?=some v->(∀ b o,s.heap.get? b=some o->h'.get? b=some o)->Q v { s with heap:=h',toks:=tk }) :
  wpAny (model prog w) A (call (.builtin "min") [.ref t]) Q E s:=by
 refine call_min_walk (iu l fun m e st d c=>?_)
 subst e
 refine ⟨_,_,_,_,_,_,_,rfl,Walks.tuple (A:=A.in1) g _ t c (intItems xs),st,d,by simpa [intItems] using a,CmpOf.ints_lt (numAt xs) (fun _ _=>intItems_at),fun v h' tk f k=>?_⟩
 exact h v h' tk (by simpa [intItems] using f) (mN k)
theorem nU (g:A.handled=none) (l:s.heap.IsTuple t (intItems xs)) (a:0 < xs.size) (h:∀ v h' tk,(intItems xs)[argBest (fun i j=>decide (numAt xs i > numAt xs j)) (xs.size - 1)]?=some v->(∀ b o,s.heap.get? b=some o->h'.get? b=some o)->Q v { s with heap:=h',toks:=tk }) :
  wpAny (model prog w) A (call (.builtin "max") [.ref t]) Q E s:=by
 refine call_max_walk (iu l fun m e st d c=>?_)
 subst e
 refine ⟨_,_,_,_,_,_,_,rfl,Walks.tuple (A:=A.in1) g _ t c (intItems xs),st,d,by simpa [intItems] using a,CmpOf.ints_gt (numAt xs) (fun _ _=>intItems_at),fun v h' tk f k=>?_⟩
 exact h v h' tk (by simpa [intItems] using f) (mN k)
end
section
variable {X:Cx}
theorem vO (g:X.calm=true):CallR X (.builtin "min") (fun xs H Q=>∃ (l:Addr) (ns:List Int),xs=[.ref l]/\SqT X.K H l (ns.map V.int)/\ns ≠ []/\∀ m,m ∈ ns->(∀ n ∈ ns,m<=n)->Q (.int m) H):=by
 intro pins s σ H xs us Q I r h
 obtain ⟨l,ns,rfl,f,k,q⟩:=h
 obtain ⟨u,rfl,b⟩:=bR r
 cases (show u=Value.ref l from b)
 obtain ⟨its,c,p,hz⟩:=I.tuple f
 obtain ⟨ys,e1,a⟩:=jc c
 have e:0 < ys.size:=by
  grind
 have pl:s.heap.IsTuple l its.toArray:=p
 rw [e1] at pl
 refine nR (I.ok.hd g) pl e fun v h' tk j d=>?_
 obtain ⟨t,rfl⟩:=intItems_at j
 obtain ⟨b1,b2⟩:=argBest_lt (numAt ys) (ys.size - 1)
 refine ⟨.int _,H,I.kept d,⟨t,rfl⟩,q _ (by rw [a];exact ee (by omega)) fun n hm=>?_⟩
 rw [a] at hm
 obtain ⟨i,hi,rfl⟩:=eg hm
 exact b2 i (by omega)
theorem vV (g:X.calm=true):CallR X (.builtin "max") (fun xs H Q=>∃ (l:Addr) (ns:List Int),xs=[.ref l]/\SqT X.K H l (ns.map V.int)/\ns ≠ []/\∀ m,m ∈ ns->(∀ n ∈ ns,n<=m)->Q (.int m) H):=by
 intro pins s σ H xs us Q I r h
 obtain ⟨l,ns,rfl,f,k,q⟩:=h
 obtain ⟨u,rfl,b⟩:=bR r
 cases (show u=Value.ref l from b)
 obtain ⟨its,c,p,hz⟩:=I.tuple f
 obtain ⟨ys,e1,a⟩:=jc c
 have e:0 < ys.size:=by
  grind
 have pl:s.heap.IsTuple l its.toArray:=p
 rw [e1] at pl
 refine nU (I.ok.hd g) pl e fun v h' tk j d=>?_
 obtain ⟨t,rfl⟩:=intItems_at j
 obtain ⟨b1,b2⟩:=argBest_gt (numAt ys) (ys.size - 1)
 refine ⟨.int _,H,I.kept d,⟨t,rfl⟩,q _ (by rw [a];exact ee (by omega)) fun n hm=>?_⟩
 rw [a] at hm
 obtain ⟨i,hi,rfl⟩:=eg hm
 exact b2 i (by omega)
end
end L2
end
section
namespace L2
open PySem PySem.Spec PyProof.Rows
end L2
end
section
namespace L2
open PySem PySem.Spec PyProof.Rows
section
variable {prog:Program} {w:World} {A:Around} {E:Value->Shared->Prop} {s:Shared}
theorem ie {id:String} (i:builtinKind id=none) (g:plainId id=true) (h:entryFor table id=some b) (c:argsOk id ⟨args,kw⟩) (d:wpAny (model prog w) A.in1 (b ⟨args,kw⟩) (fun fin s'=>match fin with
   | .done f=>(match (Except.ok f:Result) with | .ok (.ret v)=>Q v s' | .ok _=>False | .error e=>E e s')
   | .again c'=>c'.quiet=true/\codeAny (model prog w) A c' (fun r s'=>match r with | .ok (.ret v)=>Q v s' | .ok _=>False | .error e=>E e s') s') E s) :
  wpAny (model prog w) A (call (.builtin id) args kw) Q E s:=by
 refine wpAny_call (codeAny_call_builtin g h ?_)
 simp only [checkBuiltinCall,i]
 cases a:Manifest.signature? id with
 | none=>exact E4 d
 | some sig =>
  simp only [argsOk,a] at c
  have h2:Bind.checkArgs id sig ⟨args,kw⟩=pure ():=c
  show wpAny _ A.in1 (Bind.checkArgs id sig ⟨args,kw⟩) _ _ s
  rw [h2];exact E4 d
theorem wc (a d:Value):argsOk "max" ⟨[a],[("default",d)]⟩:=by unfold argsOk;kernel_rfl
theorem vT (j:A.handled=none) (g:s.heap.IsList l (intItems xs)) (h:∀ v h' tk,((xs.size=0/\v=d)\/∃ p:Int × Tok,v=.int p.1 p.2/\oG xs xs.size (some p))->(∀ b o,s.heap.get? b=some o->h'.get? b=some o)->Q v { s with heap:=h',toks:=tk }) :
  wpAny (model prog w) A (call (.builtin "max") [.ref l] [("default",d)]) Q E s:=by
 have a:(toString "max" ++ toString ".loop":String) = "max.loop":=by decide
 refine ie F.kind_max F.plain_max F.entry_max (wc _ _) ?_
 show wpAny _ A.in1 (Builtin.Builtins.bindParams "max" ["key","default"] 0 ⟨[],[("default",d)]⟩ >>= _) _ _ s
 refine E3 (wpAny_of_eq (show Builtin.Builtins.bindParams "max" ["key","default"] 0 ⟨[],[("default",d)]⟩=pure [none,some d] from rfl) ?_)
 refine E3 (E4 ?_)
 refine E3 (iter_intList g fun n e st m c=>?_)
 subst e
 refine E3 (wpAny_newObj_type ?_)
 rw [a]
 have f:l < s.heap.objs.size:=by obtain ⟨_,e,_⟩:=g;exact Fe e
 have hsz:(s.heap.push { cls:=.type "list_iterator",data:=.fields #[.ref l,.int 0 0] }).objs.size=s.heap.objs.size+1:=FL _ _
 have a1:(s.heap.push { cls:=.type "list_iterator",data:=.fields #[.ref l,.int 0 0] }).objs.size ≠ s.heap.objs.size:=by rw [hsz];exact Nat.succ_ne_self _
 have a2:(s.heap.push { cls:=.type "list_iterator",data:=.fields #[.ref l,.int 0 0] }).objs.size ≠ l:=by rw [hsz];exact Nat.ne_of_gt (Nat.lt_succ_of_lt f)
 refine E4 ⟨plainId_quiet F.plain_max_loop _,vh (A:=A) j c a1 a2 xs d xs.size 0 _ none 0 (by lia) (by lia)
  (st.1.at fun o e=>E8 _ e) (st.2.at fun o e=>E8 _ e) (Fg _ rfl) rfl fun v h' tk i k=>?_⟩
 refine h v h' tk i fun b o e=>k b o (fun q=>?_) (fun q=>?_) (E8 _ (E8 _ e))
 ·exact absurd q (Fs (Fe e))
 ·exact absurd (q.trans hsz) (Fs (Nat.lt_succ_of_lt (Fe e)))
end
section
variable {X:Cx}
theorem lS {xs:Array (Int × Tok)} (e:ns=xs.toList.map (·.1)):xs.size=0 ↔ ns=[]:=by
 rw [e];simp
def sY (K:FG) (P:List Int->Int->Prop) (x d:V) (H:Hp) (Q:VK):Prop:=∃ (l:Addr) (ns:List Int),x=.ref l/\SqL K H l (ns.map V.int)/\(ns=[]->Q d H)/\∀ m,m ∈ ns->P ns m->Q (.int m) H
theorem wX (k:X.calm=true) (I:Inv X pins σ H s) (o:RelV x u) (e:RelV d ud) (h:sY X.K (fun ns m=>∀ n ∈ ns,n<=m) x d H Q) :
  wpAny (model X.prog X.w) X.A (call (.builtin "max") [u] [("default",ud)]) (EP X pins σ Q) X.xe s:=by
 obtain ⟨l,ns,rfl,g,h0,h1⟩:=h
 cases (show u=Value.ref l from o)
 obtain ⟨its,c,p,hz⟩:=I.list g
 obtain ⟨ys,e1,a⟩:=jc c
 have pl:=p.isList
 rw [e1] at pl
 refine vT (I.ok.hd k) pl fun v h' tk r b=>?_
 rcases r with ⟨f,rfl⟩ | ⟨q,rfl,⟨⟨i,hi,y⟩,hle⟩⟩
 ·exact ⟨d,H,I.kept b,e,h0 ((lS a).mp f)⟩
 ·refine ⟨.int q.1,H,I.kept b,⟨q.2,rfl⟩,h1 _ (by rw [a,<- y];exact ee hi) fun n hm=>?_⟩
  rw [a] at hm
  obtain ⟨j,t,rfl⟩:=eg hm
  exact hle j t
def tKw1 (r:V->V->Hp->VK->Prop) (te a:TE):TE:=fun σ H Q=>te σ H fun x H1=>a σ H1 fun d H2=>r x d H2 Q
theorem DP {id:String} (c:∀ {pins:List (Addr × Obj)} {s:Shared} {σ:St} {H:Hp} {x d:V} {u m:Value} {Q:VK},Inv X pins σ H s->RelV x u->RelV d m->r x d H Q->wpAny (model X.prog X.w) X.A (call (.builtin id) [u] [("default",m)]) (EP X pins σ Q) X.xe s) (y:Gl X nm) (hm:X.mg nm=none) (B:bootBuiltins nm=some (.builtin id)) (he:PE X e te) (hd:PE X d td) (t:nm ≠ "__name__") (i:(nm == ("__debug__":Str))=false) (n:backTo pos (starEach [e] X.env)=(false,eval e X.env) :: backTo pos (starEach [] X.env)) (l:backTo pos (starEach [] X.env)=[]) (a:(backTo pos (starEach [e] X.env)).any (·.1)=false) (b:(backToKw pos (keywordEach [⟨some "default",d,kpos⟩] X.env)).all (·.1.isSome)=true) (j:(backToKw pos (keywordEach [⟨some "default",d,kpos⟩] X.env)).any (·.1.isNone)=false) (g:(backToKw pos (keywordEach [⟨some "default",d,kpos⟩] X.env)).filterMap (·.1)=(["default"]:List Str)) :
  PE X (.Call (.Name nm p) [e] [⟨some "default",d,kpos⟩] pos) (tKw1 r te td):=by
 intro pins s σ H Q I h
 refine wpAny_Call_Name_kw (gg I y hm B ?_ t i)
 refine PyProof.Rows.callWith_kw ?_ n a b j
 rw [n,l]
 refine Calls.spliced_cons (thn (he pins s σ H _ I h) fun u s1 ⟨x,H1,D,C,v⟩=>Calls.spliced_nil ?_)
 refine thn (AR (nm:=some "default") (kpos:=kpos) hd DH pos pins s1 σ H1 (fun z H2=>match z with | [d]=>r x d H2 Q | _=>False) D v) fun us s2 ⟨xs,H2,o,f,k⟩=>?_
 match xs,k,f with
 | [d'],k,f =>
  rw [g]
  obtain ⟨m,rfl,q⟩:=bR f
  exact c o C q k
end
end L2
end
section
namespace L2
open PySem PySem.Spec PyProof.Rows
def Itd (hi:Int) (n:Nat):It:=⟨fun i _=>i < n,fun i H x H'=>H'=H/\x=.int (hi - i),fun i _=>n<=i⟩
theorem oO {P:Program} {w:World} {K:FG} {tg:Expr} (it:Addr) (hi:Int) (n:Nat):Turn P w K tg (Itd hi n) [it] it (fun i h=>IsRangeIter h it (hi+(i:Nat) * (-1)) ((n:Int) - (i:Nat)) (-1)) where
 mem:=by simp
 obj:=fun i h st b a=>by
  grind
 keep:=fun i h h' st k=>k it (by simp) _ st
 item:=by
  intro X f hw g j i pins s σ H E I hf st l
  subst f hw g
  obtain ⟨f0,f1,f2,d,f4,m⟩:=hf it (by simp)
  have W:=Walks.range (prog:=X.prog) (w:=X.w) (I.ok.hd j) it hi (-1) n
  refine W.item i s _ _ l st fun v h' tk q c p=>?_
  obtain ⟨t,rfl⟩:=q
  have u:Inv X pins σ H { s with heap:=h',toks:=tk }:=I.turned (fun b o a e=>p b o (by simpa using a) e) f0 f1 d f4 m
  refine ⟨_,rfl,qa (s:={ s with heap:=h',toks:=tk }) (n:="range_iterator") c rfl rfl (by decide) ⟨.int (hi - i),H,u,⟨t,?_⟩,⟨rfl,rfl⟩,c,fun b a=>(hf b a).1⟩⟩
  rw [show hi+(i:Int) * (-1)=hi - i by omega]
 done:=by
  intro X f hw g j i pins s σ H E I hf st l
  subst f hw g
  obtain ⟨f0,f1,f2,d,f4,m⟩:=hf it (by simp)
  exact wpAny_pyNext_range_end (I.ok.hd j) st (by have:n<=i:=l;omega) fun h' r=>⟨rfl,I.turned (t':=s.toks) (fun b o a e=>r b o a e) f0 f1 d f4 m⟩
 self:=fun _ _ _ _ _ st h=>wpAny_pyIter_rangeiter st h
section
variable {X:Cx} {tg:Expr}
theorem fX (a b:Int):Builtin.Range.rangeSize a b (-1)=if a > b then a - b else 0:=by
 unfold Builtin.Range.rangeSize
 grind
theorem qN {a b:Int} (h1:-(2 ^ 62)<=a) (h2:a < 2 ^ 62) (h3:-(2 ^ 62)<=b) (d:b < 2 ^ 62):Builtin.Range.small a b (-1)=true:=by
 unfold Builtin.Range.small
 rw [fX]
 have c:¬ ((-1:Int) > 0):=by decide
 simp only [Builtin.Range.rangeFitsLong,Bool.and_eq_true,Bool.or_eq_true,decide_eq_true_eq,beq_iff_eq,c,if_false]
 split <;> lia
def Cp (ta:TA):TI:=fun σ H R=>ta σ H fun a H1=>∃ i j:Int,a=[.int i,.int j,.int (-1)]/\(-(2 ^ 62)<=i/\i < 2 ^ 62/\-(2 ^ 62)<=j/\j < 2 ^ 62)/\R (Itd i (i - j).toNat) H1
theorem uU {lo hi:Int} {tk:Nat} (I:Inv X pins σ H s) (h1:-(2 ^ 62)<=lo) (h2:lo < 2 ^ 62) (h3:-(2 ^ 62)<=hi) (d:hi < 2 ^ 62) (q:R (Itd lo (lo - hi).toNat) H):wpAny (model X.prog X.w) X.A (pyIter (.ref s.heap.objs.size)) (PIE X pins σ tg R) E { s with heap:=s.heap.push { cls:=.type "range",data:=.fields #[.int lo t,.int hi u,.int (-1) v] },toks:=tk }:=by
 refine wpAny_pyIter_range (IsRange.new ..) (qN h1 h2 h3 d) ?_
 have a:Inv X pins σ H { s with heap:=s.heap.push { cls:=.type "range",data:=.fields #[.int lo t,.int hi u,.int (-1) v] },toks:=tk }:=I.kept fun b o e=>E8 _ e
 refine ⟨(s.heap.push { cls:=.type "range",data:=.fields #[.int lo t,.int hi u,.int (-1) v] }).objs.size,[(s.heap.push { cls:=.type "range",data:=.fields #[.int lo t,.int hi u,.int (-1) v] }).objs.size],_,_,H,rfl,
  a.kept (t':=tk) fun b o e=>E8 _ e,oO _ lo (lo - hi).toNat,?_,fun b c=>?_,q⟩
 ·have e1:lo+((0:Nat):Int) * (-1)=lo:=by simp
  have f:(((lo - hi).toNat:Nat):Int) - ((0:Nat):Int)=Builtin.Range.rangeSize lo hi (-1):=by rw [fX];split <;> lia
  show IsRangeIter _ _ (lo+((0:Nat):Int) * (-1)) ((((lo - hi).toNat:Nat):Int) - ((0:Nat):Int)) (-1)
  rw [e1,f]
  exact Fg _ rfl
 ·have e:b=(s.heap.push { cls:=.type "range",data:=.fields #[.int lo t,.int hi u,.int (-1) v] }).objs.size:=by simpa using c
  subst e
  exact a.fpOk (Fq _) (a.hok.fresh (Fq _))
theorem uY (k:Gl X "range") (hm:X.mg "range"=none) (n:PA X [a,b,c] ta) (v:starEach [a,b,c] X.env=(false,eval a X.env) :: starEach [b,c] X.env) (f:(backTo pos (starEach [b,c] X.env)).any (·.1)=false) :
  PI X tg (.Call (.Name "range" p) [a,b,c] [] pos) (Cp ta):=by
 intro pins s σ H R I h
 refine Call_ (gg I k hm boot_range (PyProof.Rows.callWith_type1 (thn (n pos pins s σ H _ I h) fun us s1 ⟨x,H1,w,m,d⟩=>?_) v f))
 obtain ⟨i,j,e,⟨d,o,l,g⟩,q⟩:=d
 subst e
 cases m with
 | cons r rr =>
  cases rr with
  | cons r' rr =>
   cases rr with
   | cons r'' rr =>
    cases rr
    obtain ⟨t,rfl⟩:=r
    obtain ⟨t',rfl⟩:=r'
    obtain ⟨u,rfl⟩:=r''
    exact call_range_3 (by decide) (uU w d o l g q) (.inl (PyProof.noPylong_small (by decide)))
end
end L2
end
section
namespace PySem
open Sem (wp)
def RawAt (h:Heap) (d:Addr) (es:Array DictEntry) (a:Nat):Prop:=∃ o,h.get? d=some o/\o.ExactDict/\o.data=.dict es a
section
variable {prog:Program} {w:World} {A:Around} {E:Value->Shared->Prop} {s:Shared}
theorem RawAt.typeIs {a:Nat} (x:RawAt s.heap d es a):s.TypeIs (.ref d) "dict":=let ⟨o,c,b,_⟩:=x;⟨o,c,b.1⟩
theorem pq {i a:Nat} (hit:s.heap.IsKeyIter it d i es.size a) (hm:RawAt s.heap d es a) (e:i < es.size) (f:∀ h',h'.IsKeyIter it d (i+1) es.size a->Heap.SameBut it s.heap h'->Q (some es[i].key) { s with heap:=h' }) :
  wpAny (model prog w) A (pyNext (.ref it)) Q E s:=by
 have ty:=hit.typeIs
 obtain ⟨⟨c1,d1,l,s1⟩,h1,e1,c⟩:=hit
 obtain ⟨⟨c2,k,j,s2⟩,h2,_,b⟩:=hm
 obtain ⟨h,g,m,tk,os⟩:=s
 simp only at e1 c b
 subst e1 c b
 have hi:(if (i:Int) < 0 then none else es[(i:Int).toNat]?)=some es[i]:=by simp [e]
 unfold pyNext
 refine E3 (wpAny_attempt (wpAny_callSpecial?_slot ty F.slot_dict_keyiterator_next
  (wpAny_call_entry F.slot_dict_keyiterator_next ty F.entry_dict_keyiterator_next ?_ (F.args_dict_keyiterator_next_1 _))))
 wp_walk
 rw [hi]
 wp_walk
 exact ⟨_,rfl,E4 (f _ ⟨_,FA _ h1 rfl,rfl,rfl⟩ (Heap.SameBut.update ..))⟩
theorem qZ {i c:Nat} (h:A.handled=none) (hit:s.heap.IsKeyIter it d i es.size c) (hm:RawAt s.heap d es c) (j:es.size<=i) (k:∀ h',Heap.ExtBut it s.heap h'->Q none { s with heap:=h' }):wpAny (model prog w) A (pyNext (.ref it)) Q E s:=by
 have ty:=hit.typeIs
 obtain ⟨⟨c1,d1,o,s1⟩,h1,e1,f⟩:=hit
 obtain ⟨⟨c2,n,m,s2⟩,h2,_,e⟩:=hm
 obtain ⟨l,g,p,tk,os⟩:=s
 simp only at e1 f e
 subst e1 f e
 have hi:(if (i:Int) < 0 then none else es[(i:Int).toNat]?)=none:=by simp [j]
 have a:A.in1.handled=none:=h
 unfold pyNext
 refine E3 (wpAny_attempt (wpAny_callSpecial?_slot ty F.slot_dict_keyiterator_next
  (wpAny_call_entry F.slot_dict_keyiterator_next ty F.entry_dict_keyiterator_next ?_ (F.args_dict_keyiterator_next_1 _))))
 wp_walk
 rw [hi]
 wp_walk
 refine wpAny_raiseNew_none a ?_
 refine E3 (wpAny_isInstance (v:=.ref _) (T:="StopIteration") (b:=true) ?_ isSubtype_stop ?_)
 ·exact ⟨_,Fg _ rfl,rfl⟩
 ·exact E4 (k _ (((Heap.SameBut.update ..).extBut.push _).push _))
theorem pj {i a:Nat} (hit:s.heap.IsValIter it d i es.size a) (hm:RawAt s.heap d es a) (e:i < es.size) (f:∀ h',h'.IsValIter it d (i+1) es.size a->Heap.SameBut it s.heap h'->Q (some es[i].val) { s with heap:=h' }) :
  wpAny (model prog w) A (pyNext (.ref it)) Q E s:=by
 have ty:=hit.typeIs
 obtain ⟨⟨c1,d1,l,s1⟩,h1,e1,c⟩:=hit
 obtain ⟨⟨c2,k,j,s2⟩,h2,_,b⟩:=hm
 obtain ⟨h,g,m,tk,os⟩:=s
 simp only at e1 c b
 subst e1 c b
 have hi:(if (i:Int) < 0 then none else es[(i:Int).toNat]?)=some es[i]:=by simp [e]
 unfold pyNext
 refine E3 (wpAny_attempt (wpAny_callSpecial?_slot ty F.slot_dict_valueiterator_next
  (wpAny_call_entry F.slot_dict_valueiterator_next ty F.entry_dict_valueiterator_next ?_ (F.args_dict_valueiterator_next_1 _))))
 wp_walk
 rw [hi]
 wp_walk
 exact ⟨_,rfl,E4 (f _ ⟨_,FA _ h1 rfl,rfl,rfl⟩ (Heap.SameBut.update ..))⟩
theorem qY {i c:Nat} (h:A.handled=none) (hit:s.heap.IsValIter it d i es.size c) (hm:RawAt s.heap d es c) (j:es.size<=i) (k:∀ h',Heap.ExtBut it s.heap h'->Q none { s with heap:=h' }):wpAny (model prog w) A (pyNext (.ref it)) Q E s:=by
 have ty:=hit.typeIs
 obtain ⟨⟨c1,d1,o,s1⟩,h1,e1,f⟩:=hit
 obtain ⟨⟨c2,n,m,s2⟩,h2,_,e⟩:=hm
 obtain ⟨l,g,p,tk,os⟩:=s
 simp only at e1 f e
 subst e1 f e
 have hi:(if (i:Int) < 0 then none else es[(i:Int).toNat]?)=none:=by simp [j]
 have a:A.in1.handled=none:=h
 unfold pyNext
 refine E3 (wpAny_attempt (wpAny_callSpecial?_slot ty F.slot_dict_valueiterator_next
  (wpAny_call_entry F.slot_dict_valueiterator_next ty F.entry_dict_valueiterator_next ?_ (F.args_dict_valueiterator_next_1 _))))
 wp_walk
 rw [hi]
 wp_walk
 refine wpAny_raiseNew_none a ?_
 refine E3 (wpAny_isInstance (v:=.ref _) (T:="StopIteration") (b:=true) ?_ isSubtype_stop ?_)
 ·exact ⟨_,Fg _ rfl,rfl⟩
 ·exact E4 (k _ (((Heap.SameBut.update ..).extBut.push _).push _))
theorem nH {a:Nat} (hd:(d == sysModules)=false) (hm:RawAt s.heap d es a) (f:Q (.ref s.heap.objs.size) { s with heap:=s.heap.push { cls:=.type "dict_keyiterator",data:=.fields #[.ref d,.int 0 0,.int es.size 0,.int a 0] } }) :
  wpAny (model prog w) A (pyIter (.ref d)) Q E s:=by
 have ty:=hm.typeIs
 obtain ⟨⟨c2,j,i,s2⟩,h2,e,c⟩:=hm
 obtain ⟨h,g,k,tk,os⟩:=s
 obtain ⟨b,_⟩:=e
 simp only at c b
 subst c b
 refine wpAny_pyIter_slot ty F.slot_dict_iter (wpAny_call_entry F.slot_dict_iter ty F.entry_dict_iter ?_ (F.args_dict_iter_1 _))
 wp_walk
 exact ⟨_,rfl,"dict_keyiterator",_,⟨_,Fg _ rfl,rfl⟩,F.slot_dict_keyiterator_next.lookup,f⟩
theorem kc (d:Addr) (hd:(d == sysModules)=false) :
  MeetsIn prog w (Builtin.«dict.values» ⟨[.ref d],[]⟩) (fun _ R s=>(∃ es a,RawAt s.heap d es a) /\
   R (.ok (.ret (.ref s.heap.objs.size))) { s with heap:=s.heap.push { cls:=.type "dict_values",data:=.fields #[.ref d] } }) :=
 .of_wp fun A R s ⟨⟨es,a,hm⟩,h⟩=>by
  have ty:=hm.typeIs
  obtain ⟨⟨c2,j,i,s2⟩,h2,e,c⟩:=hm
  obtain ⟨f,g,k,tk,os⟩:=s
  obtain ⟨b,_⟩:=e
  simp only at c b
  subst c b
  wp_walk
  exact ⟨_,rfl,h⟩
theorem kX {a:Nat} (b:s.heap.IsValuesView v d) (hm:RawAt s.heap d es a) (f:Q (.ref s.heap.objs.size) { s with heap:=s.heap.push { cls:=.type "dict_valueiterator",data:=.fields #[.ref d,.int 0 0,.int es.size 0,.int a 0] } }) :
  wpAny (model prog w) A (pyIter (.ref v)) Q E s:=by
 have ty:=b.typeIs
 obtain ⟨⟨c1,d1,k,s1⟩,h1,e1,c⟩:=b
 obtain ⟨⟨c2,j,i,s2⟩,h2,_,e⟩:=hm
 obtain ⟨h,g,l,tk,os⟩:=s
 simp only at e1 c e
 subst e1 c e
 refine wpAny_pyIter_slot ty F.slot_dict_values_iter (wpAny_call_entry F.slot_dict_values_iter ty F.entry_dict_values_iter ?_ (F.args_dict_values_iter_1 _))
 wp_walk
 exact ⟨_,rfl,"dict_valueiterator",_,⟨_,Fg _ rfl,rfl⟩,F.slot_dict_valueiterator_next.lookup,f⟩
end
end PySem
end
section
namespace L2
open PySem PySem.Spec PyProof.Rows
theorem k8:∀ {d:List α} {c:List β},Paired F d c->∀ {i:Nat} {a:α},d[i]?=some a->∃ b,c[i]?=some b/\F a b
 | _,_,.nil,i,a,h=>by simp at h
 | _,_,.cons r t,0,a,h=>by
  simp only [List.getElem?_cons_zero,Option.some.injEq] at h
  subst h
  exact ⟨_,rfl,r⟩
 | _,_,.cons r t,i+1,a,h=>by
  simp only [List.getElem?_cons_succ] at h
  exact k8 t h
theorem Rd.dT_inj (h:Rd H a (.dT x)) (h':Rd H a (.dT y)):x=y:=by
 rcases h with h | ⟨o,h⟩ <;> rcases h' with h' | ⟨o',h'⟩ <;> rw [h] at h' <;> cases h' <;> rfl
section
variable {P:Program} {w:World} {H:Hp} {h:Heap} {a:Addr}
theorem lE (ok:HOk P w H h) (e:Rd H a (.dT kvs)):(a == sysModules)=false/\∃ es:Array DictEntry,RawAt h a es es.size/\es.size=kvs.length /\
  ∀ i (hi:i < es.size) c,kvs[i]?=some c->∃ b,es[i].key=.ref b/\H b=some (.tup (c.1.map kV))/\RelV c.2 es[i].val:=by
 obtain ⟨z,y,xs,r,o,es,m,h1,h2,h3,f,s,n,rfl⟩:=rW ok e
 have k:es.size=xs.length:=by rw [<- Array.length_toList,f,Fh]
 refine ⟨y,es,⟨o,h1,h2,h3⟩,by rw [k,<- Paired.length r],fun i hi c j=>?_⟩
 obtain ⟨q,l,f1,f2,g⟩:=k8 r j
 have p:es.toList[i]?=some (entryOfKey (tupleKind (bt P w)) q):=by rw [f,Fp,l];rfl
 have d:es[i]=entryOfKey (tupleKind (bt P w)) q:=by
  grind
 rw [d]
 exact ⟨q.2.1,rfl,f2,g⟩
end
def Itk (a:Addr) (n:Nat):It:=⟨fun i H=>∃ kvs,Rd H a (.dT kvs)/\kvs.length=n/\i < n,
 fun i H x H'=>H'=H/\∀ kvs c,Rd H a (.dT kvs)->kvs[i]?=some c->∃ b,x=.ref b/\H b=some (.tup (c.1.map kV)),fun i H=>∃ kvs,Rd H a (.dT kvs)/\kvs.length=n/\n<=i⟩
theorem uA {P:Program} {w:World} {K:FG} {tg:Expr} (a it:Addr) (n:Nat):Turn P w K tg (Itk a n) [it] it (fun i h=>h.IsKeyIter it a i n n) where
 mem:=by simp
 obj:=fun i h st b f=>by
  have e:b=it:=by simpa using f
  subst e
  obtain ⟨o,e,c,d⟩:=st
  exact ⟨o,e,fun v z=>by rw [d] at z;cases z⟩
 keep:=fun i h h' st k=>st.at fun o e=>k it (by simp) o e
 item:=by
  intro X q hw r B i pins s σ H E I hf st t
  subst q hw r
  obtain ⟨kvs,m,D,hi⟩:=t
  obtain ⟨y,es,raw,sz,ent⟩:=lE I.hok m
  obtain rfl:n=es.size:=by lia
  obtain ⟨f0,f1,f2,p,f4,A⟩:=hf it (by simp)
  obtain ⟨x,j⟩:∃ x,kvs[i]?=some x:=⟨kvs[i]'(by lia),Fd _⟩
  obtain ⟨b,b1,b2,L⟩:=ent i hi x j
  refine pq st raw hi fun h' l sb=>?_
  have J:Inv X pins σ H { s with heap:=h' }:=I.turned (t':=s.toks) (fun b o f e=>(sb.2 b f).trans e) f0 f1 p f4 A
  obtain ⟨o,e,c,d⟩:=id l
  refine ⟨_,rfl,qa (s:={ s with heap:=h' }) e c d (by decide) ⟨.ref b,H,J,b1,⟨rfl,fun C F u g=>?_⟩,l,fun b f=>(hf b f).1⟩⟩
  rw [u.dT_inj m,j] at g
  cases g
  exact ⟨b,rfl,b2⟩
 done:=by
  intro X q hw r B i pins s σ H E I hf st t
  subst q hw r
  obtain ⟨kvs,m,D,hi⟩:=t
  obtain ⟨y,es,raw,sz,ent⟩:=lE I.hok m
  obtain rfl:n=es.size:=by lia
  obtain ⟨f0,f1,f2,p,f4,A⟩:=hf it (by simp)
  exact qZ (I.ok.hd B) st raw hi fun h' G=>⟨rfl,I.turned (t':=s.toks) (fun b o f e=>G b o f e) f0 f1 p f4 A⟩
 self:=fun _ _ _ _ _ st h=>wpAny_pyIter_keyiter st h
def Cs (tl:TE):TI:=fun σ H R=>tl σ H fun x H1=>∃ a kvs,x=.ref a/\Rd H1 a (.dT kvs)/\R (Itk a kvs.length) H1
theorem AT (i:PE X l tl):PI X tg l (Cs tl):=by
 intro pins s σ H R I h
 exact thn (i pins s σ H _ I h) fun v s1 ⟨x,H1,c,g,d⟩=>by
  obtain ⟨a,kvs,e,j,q⟩:=d
  subst e
  cases g
  obtain ⟨y,es,raw,sz,ent⟩:=lE c.hok j
  refine nH y raw ?_
  refine ⟨s1.heap.objs.size,[s1.heap.objs.size],_,_,H1,rfl,c.kept (t':=s1.toks) fun b o e=>E8 _ e,uA a _ kvs.length,⟨_,Fg _ rfl,rfl,by rw [sz];rfl⟩,fun b f=>?_,q⟩
  have e:b=s1.heap.objs.size:=by simpa using f
  subst e
  exact c.fpOk (Fq _) (c.hok.fresh (Fq _))
section
variable {X:Cx}
def ll (p a:Addr):HO:=.ext fun h=>h.IsValuesView p a
theorem Bj:MtR X "dict.values" (fun x b H Q=>∃ a kvs,x=.ref a/\b=[]/\Rd H a (.dT kvs)/\∀ p,H p=none->Q (.ref p) (upd H p (ll p a))):=by
 intro pins s σ H x b v us Q I d f h
 obtain ⟨a,kvs,rfl,rfl,g,q⟩:=h
 cases d
 cases f
 obtain ⟨y,es,raw,sz,ent⟩:=lE I.hok g
 refine call_meetsIn PySem.F.slot_dict_values raw.typeIs PySem.F.entry_dict_values (PySem.F.args_dict_values_1 _) (kc a y) ⟨⟨es,_,raw⟩,?_⟩
 refine ⟨.ref s.heap.objs.size,_,I.laid (a:=s.heap.objs.size) (o:=ll s.heap.objs.size a) (t':=s.toks) (fun _ _ q=>E8 _ q) (Fq _) ?_,rfl,q _ (I.hok.fresh (Fq _))⟩
 exact ⟨⟨_,Fg _ rfl,rfl,rfl⟩,⟨_,Fg _ rfl⟩,fun h1 h2 ⟨o,e,c⟩ k=>⟨o,k o e,c⟩⟩
theorem Walks.rawVals {prog:Program} {w:World} {A:Around} (p:A.handled=none) (I d:Addr) (j:d ≠ I) (es:Array DictEntry) (m:Nat) :
  Walks prog w A I [I,d] [I] es.size (fun i v=>∃ h:i < es.size,v=es[i].val) (fun i h=>h.IsValIter I d i es.size m/\RawAt h d es m) where
 sub:=fun b a=>by simp at a;simp [a]
 frame:=fun _ _ _ st n=>⟨st.1.at fun o e=>n I (by simp) o e,let ⟨o,l,r⟩:=st.2;⟨o,n d (by simp) o l,r⟩⟩
 item:=fun i s Q E hi st c=>by
  refine pj st.1 st.2 hi fun h' f g=>?_
  exact c _ h' s.toks ⟨hi,rfl⟩ ⟨f,let ⟨o,l,r⟩:=st.2;⟨o,g.extBut d o j l,r⟩⟩ fun b o a e=>g.extBut b o (fun h=>a (by simp [h])) e
 done:=fun s Q E st c=>qY p st.1 st.2 (Fq _) fun h' k=>c h' s.toks fun b o a e=>k b o (fun h=>a (by simp [h])) e
 self:=fun _ _ _ _ st c=>wpAny_pyIter_valiter st.1 c
def Cd:List V->Hp->VK->Prop:=fun xs H Q=>∃ (p a:Addr) (kvs:List (List Key × V)) (ns:List Int),xs=[.ref p]/\H p=some (ll p a)/\Rd H a (.dT kvs)/\kvs.map (·.2)=ns.map V.int/\ns ≠ []/\∀ m,m ∈ ns->(∀ n ∈ ns,n<=m)->Q (.int m) H
theorem vU (C:X.calm=true):CallR X (.builtin "max") Cd:=by
 intro pins s σ H xs us Q I E h
 obtain ⟨p,a,kvs,ns,rfl,F,J,d,m,q⟩:=h
 obtain ⟨u,rfl,z⟩:=E.one
 cases z
 obtain ⟨y,es,raw,sz,ent⟩:=lE I.hok J
 have view:s.heap.IsValuesView p a:=(I.hok p _ F).1
 have hlen:kvs.length=ns.length:=by have:=congrArg List.length d;simpa using this
 have f:0 < es.size:=by rw [sz,hlen];exact List.length_pos_iff.mpr m
 have val:∀ i (hi:i < es.size),∃ t,es[i].val=.int (ns[i]'(by lia)) t:=fun i hi=>by
  have c:kvs[i]?=some (kvs[i]'(by lia)):=Fd _
  obtain ⟨b,_,_,r⟩:=ent i hi _ c
  have e:(kvs[i]'(by lia)).2=V.int (ns[i]'(by lia)):=by
   have:=congrArg (fun l=>l[i]?) d
   simp only [Fp] at this
   rw [c,Fd (show i < ns.length by lia)] at this
   simpa using this
  rw [e] at r
  exact r
 have g:a < s.heap.objs.size:=by obtain ⟨o,e,_⟩:=raw;exact Fe e
 refine call_max_walk (kX view raw ?_)
 refine ⟨s.heap.objs.size,_,_,_,_,_,fun i j=>decide ((ns[j]?).getD 0 < (ns[i]?).getD 0),rfl,Walks.rawVals (A:=X.A.in1) (I.ok.hd C) s.heap.objs.size a (Fs g) es es.size,⟨⟨_,Fg _ rfl,rfl,rfl⟩,let ⟨o,G,r⟩:=raw;⟨o,E8 _ G,r⟩⟩,?_,f,?_,?_⟩
 ·intro b k
  rw [FL]
  simp at k
  rcases k with e | e <;> rw [e]
  ·exact Nat.lt_succ_self _
  ·exact Nat.lt_succ_of_lt g
 ·have:=CmpOf.ints_gt (prog:=X.prog) (w:=X.w) (A:=X.A.in1) (P:=fun i v=>∃ h:i < es.size,v=es[i].val) (fun i=>(ns[i]?).getD 0) fun i v ⟨hi,e⟩=>by
   obtain ⟨t,x⟩:=val i hi
   exact ⟨t,by rw [e,x,Fd (show i < ns.length by lia)];rfl⟩
  exact this
 ·intro v h' tk ⟨k,e⟩ B
  obtain ⟨t,x⟩:=val _ k
  obtain ⟨b1,b2⟩:=argBest_gt (fun i=>(ns[i]?).getD 0) (es.size - 1)
  refine ⟨.int _,H,I.kept (fun b o e=>B b o (by simp;exact Fs (Fe e)) (E8 _ e)),⟨t,by rw [e,x]⟩,q _ (List.getElem_mem _) fun n D=>?_⟩
  obtain ⟨i,hi,rfl⟩:=List.getElem_of_mem D
  have:=b2 i (by lia)
  rw [Fd hi,Fd (show argBest _ (es.size - 1) < ns.length by lia)] at this
  exact this
end
end L2
end
section
namespace L2
open PySem PySem.Spec PyProof.Rows
def lR (h:Heap) (b:Addr) (n:Int × Int):Prop:=∃ o t u m,h.get? b=some o/\o.cls=.type "tuple"/\o.data=.seq #[.int n.1 t,.int n.2 u] m
def ltP (x y:Int × Int):Bool:=decide (x.1 < y.1\/(x.1=y.1/\x.2 < y.2))
section
variable {prog:Program} {w:World} {A:Around} {E:Value->Shared->Prop} {s:Shared}
theorem nO (n:lR s.heap a x) (o:lR s.heap b y) (h:P (.done (.ret (.bool (ltP x y)))) s) :
  wpAny (model prog w) A (Builtin.«tuple.__lt__» ⟨[.ref a,.ref b],[]⟩) P E s:=by
 obtain ⟨p,t1,g,na,j,m,i⟩:=n
 obtain ⟨ob,l,d,nb,c,k,f⟩:=o
 show wpAny _ _ (isInstance (.ref b) (.type "tuple") >>= _) _ _ s
 refine E3 (wpAny_isInstance (T:="tuple") ⟨ob,c,k⟩ isSubtype_tuple_tuple ?_)
 simp only [Bool.not_true,FI,if_false]
 refine E3 (wpAny_tupleItemsOf j i ?_)
 refine E3 (wpAny_tupleItemsOf c f ?_)
 refine E3 ?_
 show wpAny _ _ (forIn [(Value.int x.1 t1,Value.int y.1 l),(Value.int x.2 g,Value.int y.2 d)] _ _) _ _ s
 rw [List.forIn_cons]
 refine E3 ?_
 refine E3 ((intKind prog w).eqBool (a:=x.1) (b:=y.1) (by simp [intKind,Value.isInt]) (by simp [intKind,Value.isInt]) ?_)
 by_cases h1:x.1=y.1
 ·rw [Fv h1]
  simp only [Bool.not_true,FI,if_false]
  refine E4 ?_
  show wpAny _ _ (forIn [(Value.int x.2 g,Value.int y.2 d)] _ _) _ _ s
  rw [List.forIn_cons]
  refine E3 ?_
  refine E3 ((intKind prog w).eqBool (a:=x.2) (b:=y.2) (by simp [intKind,Value.isInt]) (by simp [intKind,Value.isInt]) ?_)
  by_cases h2:x.2=y.2
  ·rw [Fv h2]
   simp only [Bool.not_true,FI,if_false]
   refine E4 ?_
   show wpAny _ _ (forIn ([]:List (Value × Value)) _ _) _ _ s
   rw [List.forIn_nil]
   refine E4 (E4 ?_)
   have e:ltP x y=false:=by unfold ltP;simp;lia
   rw [e] at h
   exact h
  ·rw [Fw h2]
   simp only [Bool.not_false,if_true]
   refine E3 (wpAny_rule (E3 ?_))
   refine (lt_int (a:=x.2) (b:=y.2) ?_:wpAny (model prog w) A (compareOp .Lt (.int x.2 g) (.int y.2 d)) _ _ _)
   refine E3 (E4 (E4 (E4 (E4 ?_))))
   have e:ltP x y=decide (x.2 < y.2):=by unfold ltP;simp [h1]
   rw [e] at h
   exact h
 ·rw [Fw h1]
  simp only [Bool.not_false,if_true]
  refine E3 (wpAny_rule (E3 ?_))
  refine (lt_int (a:=x.1) (b:=y.1) ?_:wpAny (model prog w) A (compareOp .Lt (.int x.1 t1) (.int y.1 l)) _ _ _)
  refine E3 (E4 (E4 (E4 (E4 ?_))))
  have e:ltP x y=decide (x.1 < y.1):=by unfold ltP;simp [h1]
  rw [e] at h
  exact h
theorem AZ (hu:A.units < cLine) (d:lR s.heap a x) (f:lR s.heap b y) (h:Q (.bool (ltP x y)) s) :
  wpAny (model prog w) A (richCompare .Lt (.ref a) (.ref b)) Q E s:=by
 have ta:s.TypeIs (.ref a) "tuple":=let ⟨o,_,_,_,e,c,_⟩:=d;⟨o,e,c⟩
 have tb:s.TypeIs (.ref b) "tuple":=let ⟨o,_,_,_,e,c,_⟩:=f;⟨o,e,c⟩
 exact wpAny_richCompare_same_room (op:=.Lt) ta tb F.slot_tuple_lt (wpAny_call_entry F.slot_tuple_lt ta F.entry_tuple_lt (nO d f ⟨_,rfl,(fun e=>nomatch e),h⟩) (F.args_tuple_lt_2 _ _)) hu
end
def lO (ns:List (Int × Int)) (j:Nat) (k:Nat):Prop:=k < j/\∀ i,i < j->∀ x y,ns[i]?=some x->ns[k]?=some y->ltP x y=false
theorem vo (h1:ltP x y=true) (h2:ltP z y=false):ltP z x=false:=by
 unfold ltP at *
 simp at *
 lia
def lM (h:Heap) (bs:List Addr) (ns:List (Int × Int)):Prop:=∀ (i:Nat) (b:Addr),bs[i]?=some b->∃ n,ns[i]?=some n/\lR h b n
def uh (b:Option Addr):Array Value:=match b with | none=>#[] | some a=>#[.ref a,.ref a]
section
variable {prog:Program} {w:World} {A:Around} {R:Result->Shared->Prop}
theorem vf (hh:A.handled=none) (hu:A.units+1 < cLine) (az:l ≠ I) (z:S ≠ I) (Z:S ≠ l) (bs:List Addr) (ns:List (Int × Int)) (W:∀ b ∈ bs,b ≠ I) (ar:∀ b ∈ bs,b ≠ S) :
  ∀ (k j:Nat) (s:Shared) (m:Option Nat) (c:Nat),bs.length - j=k->j<=bs.length->s.heap.IsListIter I l j->s.heap.IsList l (bs.map Value.ref).toArray->lM s.heap bs ns ->
  s.heap.get? S=some { cls:=.type "list",dict:=none,data:=.seq (uh (m.bind (bs[·]?))) c,slots:=#[] }->(match m with | none=>j=0 | some m=>lO ns j m)->0 < bs.length ->
  (∀ m b h' tk,bs[m]?=some b->lO ns bs.length m->(∀ a o,a ≠ I->a ≠ S->s.heap.get? a=some o->h'.get? a=some o)->R (.ok (.ret (.ref b))) { s with heap:=h',toks:=tk }) ->
  codeAny (model prog w) A (.builtin "min.loop" ⟨[.ref I,.none,.ref S],[]⟩) R s:=by
 have nm:(toString "min" ++ toString ".loop":String) = "min.loop":=by decide
 intro k
 induction k with
 | zero =>
  intro j s m c hk hj hit N hp K f g fin
  obtain rfl:j=bs.length:=by lia
  refine codeAny_builtin F.entry_min_loop ?_
  rw [Around.under_plainId F.plain_min_loop _]
  show wpAny _ A.in1 (seqItems? (.ref S) >>= _) _ _ s
  refine E3 (wpAny_seqItems K rfl ?_)
  show wpAny _ A.in1 (tryCatch (pyNext (.ref I)) _ >>= _) _ _ s
  refine E3 (wpAny_tryCatch (wpAny_pyNext_list_end (show A.in1.handled=none from hh) hit N (by simp) fun h' eb=>?_))
  cases m with
  | none=>have:bs.length=0:=f;lia
  | some m =>
   have hm:m < bs.length:=f.1
   have J:bs[m]?=some bs[m]:=Fd hm
   have d:=eb S _ z K
   simp only [Option.bind_some,J] at d ⊢
   show wpAny _ A.in1 (updateSeq S (fun _=>#[]) >>= _) _ _ _
   refine E3 (wpAny_updateSeq d rfl (E3 (wpAny_letGo (E4 ?_))) (hz:=by show 2<=sizeLine;decide))
   exact fin m _ _ s.toks J f fun a o h Q e=>(FK _ _ (Ne.symm Q)).trans (eb a o h e)
 | succ k ih =>
  intro j s m c hk hj hit N hp K f g fin
  have H:j < bs.length:=by lia
  have O:bs[j]?=some bs[j]:=Fd H
  have hv:(bs.map Value.ref).toArray[j]?=some (.ref bs[j]):=by simp [O]
  refine codeAny_builtin F.entry_min_loop ?_
  rw [Around.under_plainId F.plain_min_loop _]
  show wpAny _ A.in1 (seqItems? (.ref S) >>= _) _ _ s
  refine E3 (wpAny_seqItems K rfl ?_)
  show wpAny _ A.in1 (tryCatch (pyNext (.ref I)) _ >>= _) _ _ s
  refine E3 (wpAny_tryCatch (wpAny_pyNext_list_item hit N hv fun h' L sb=>?_))
  have d:h'.get? S=_:=(sb.2 S z).trans K
  have T:h'.IsList l (bs.map Value.ref).toArray:=N.at fun o e=>(sb.2 l az).trans e
  have pk:∀ {h1 h2:Heap},(∀ b ∈ bs,∀ o,h1.get? b=some o->h2.get? b=some o)->lM h1 bs ns->lM h2 bs ns:=fun {h1 h2} k q i b e=>by
   obtain ⟨n,e1,o,t,u,m,e2,e3⟩:=q i b e
   exact ⟨n,e1,o,t,u,m,k b (Fj e) o e2,e3⟩
  have D:lM h' bs ns:=pk (fun b f o e=>(sb.2 b (W b f)).trans e) hp
  have on:∀ (h2:Heap) (tk:Nat) (P:Option Nat) (Y:Nat),(∀ a o,a ≠ S->h'.get? a=some o->h2.get? a=some o)->h2.get? S=some { cls:=.type "list",dict:=none,data:=.seq (uh (P.bind (bs[·]?))) Y,slots:=#[] }->(match P with | none=>j+1=0 | some m=>lO ns (j+1) m) ->
    codeAny (model prog w) A (.builtin "min.loop" ⟨[.ref I,.none,.ref S],[]⟩) R { s with heap:=h2,toks:=tk }:=fun h2 tk P Y k2 ab X =>
   ih (j+1) _ P Y (by lia) H (L.at fun o e=>k2 I o (Ne.symm z) e) (T.at fun o e=>k2 l o (Ne.symm Z) e) (pk (fun b f o e=>k2 b o (ar b f) e) D) ab X g fun v b h3 U a0 V k3=>fin v b h3 U a0 V fun a o h Q e=>k3 a o h Q (k2 a o Q ((sb.2 a h).trans e))
  obtain ⟨nj,G,ax⟩:=D j _ O
  cases m with
  | none =>
   have h0:j=0:=f
   show wpAny _ A.in1 (updateSeq S (fun _=>#[.ref bs[j],.ref bs[j]]) >>= _) _ _ _
   refine E3 (wpAny_updateSeq d rfl ?_ (hz:=by show 0<=sizeLine;exact Nat.zero_le _))
   rw [nm]
   refine E4 ⟨plainId_quiet F.plain_min_loop _,on _ s.toks (some j) (c+1) (fun a o h e=>(FK _ _ (Ne.symm h)).trans e) ?_ ⟨by lia,fun i hi x y h1 h2=>?_⟩⟩
   ·simp only [Option.bind_some,O]
    exact FA _ d rfl
   ·obtain rfl:i=j:=by lia
    rw [h1] at h2;cases h2
    unfold ltP;simp
  | some m =>
   obtain ⟨hm,hle⟩:=f
   have C:bs[m]?=some bs[m]:=Fd (by lia)
   obtain ⟨B,M,a3⟩:=D m _ C
   simp only [Option.bind_some,C] at d ⊢
   show wpAny _ A.in1 (tryCatch (holding [.ref bs[j],.ref bs[j]] (richCompare .Lt (.ref bs[j]) (.ref bs[m]) >>= _)) _ >>= _) _ _ _
   refine E3 (wpAny_tryCatch (E5 (E3 ?_)))
   refine AZ (A:=A.in1) (show A.units+1 < cLine from hu) ax a3 ?_
   refine E3 (E5 (FM (E3 (wpAny_letGo (E4 ?_)))))
   by_cases E:ltP nj B=true
   ·rw [E,if_pos rfl]
    refine E3 (wpAny_updateSeq d rfl (E3 (wpAny_letGo ?_)) (hz:=by show 2<=sizeLine;decide))
    rw [nm]
    refine E4 ⟨plainId_quiet F.plain_min_loop _,on _ s.toks (some j) c (fun a o h e=>(FK _ _ (Ne.symm h)).trans e) ?_ ⟨by lia,fun i hi x y h1 h2=>?_⟩⟩
    ·simp only [Option.bind_some,O]
     exact FA _ d rfl
    ·rw [G] at h2;cases h2
     by_cases r:i=j
     ·subst r
      rw [G] at h1;cases h1
      unfold ltP;simp
     ·exact vo E (hle i (by lia) x B h1 M)
   ·have p:ltP nj B=false:=by simpa using E
    rw [p,if_neg Fr]
    refine E3 (wpAny_letGo ?_)
    rw [nm]
    refine E4 ⟨plainId_quiet F.plain_min_loop _,on h' s.toks (some m) c (fun a o _ e=>e) (by simp only [Option.bind_some,C];exact d) ⟨by lia,fun i hi x y h1 h2=>?_⟩⟩
    by_cases r:i=j
    ·subst r
     rw [G] at h1;cases h1
     rw [M] at h2;cases h2
     exact p
    ·exact hle i (by lia) x y h1 h2
end
section
variable {prog:Program} {w:World} {A:Around} {E:Value->Shared->Prop} {s:Shared}
theorem vN (z:A.handled=none) (hu:A.units+1 < cLine) (k:s.heap.IsList l (bs.map Value.ref).toArray) (r:lM s.heap bs ns) (f:0 < bs.length) (h:∀ m b h' tk,bs[m]?=some b->lO ns bs.length m->(∀ b o,s.heap.get? b=some o->h'.get? b=some o)->Q (.ref b) { s with heap:=h',toks:=tk }) :
  wpAny (model prog w) A (call (.builtin "min") [.ref l]) Q E s:=by
 have a:(toString "min" ++ toString ".loop":String) = "min.loop":=by decide
 refine call_function_tree F.kind_min F.plain_min F.entry_min (F.args_min1 _) ?_
 show wpAny _ A.in1 (Builtin.Builtins.bindParams "min" ["key","default"] 0 ⟨[],[]⟩ >>= _) _ _ s
 refine E3 (wpAny_of_eq (show Builtin.Builtins.bindParams "min" ["key","default"] 0 ⟨[],[]⟩=pure [none,none] from rfl) ?_)
 refine E3 (E4 ?_)
 refine E3 (wpAny_pyIter_list k ?_)
 refine E3 (wpAny_newObj_type ?_)
 rw [a]
 have g:l < s.heap.objs.size:=by obtain ⟨_,e,_⟩:=k;exact Fe e
 have hsz:(s.heap.push { cls:=.type "list_iterator",data:=.fields #[.ref l,.int 0 0] }).objs.size=s.heap.objs.size+1:=FL _ _
 have a1:(s.heap.push { cls:=.type "list_iterator",data:=.fields #[.ref l,.int 0 0] }).objs.size ≠ s.heap.objs.size:=by rw [hsz];exact Nat.succ_ne_self _
 have a2:(s.heap.push { cls:=.type "list_iterator",data:=.fields #[.ref l,.int 0 0] }).objs.size ≠ l:=by rw [hsz];exact Nat.ne_of_gt (Nat.lt_succ_of_lt g)
 have j:∀ b ∈ bs,b < s.heap.objs.size:=fun b d=>by
  obtain ⟨i,hi,e⟩:=List.getElem_of_mem d
  obtain ⟨_,_,o,_,_,_,p,_⟩:=r i b (by rw [Fd hi,e])
  exact Fe p
 refine E4 ⟨plainId_quiet F.plain_min_loop _,vf (A:=A) z hu (I:=s.heap.objs.size) (l:=l) (Fs g) a1 a2 bs ns (fun b d=>Fs (j b d)) (fun b d=>by rw [hsz];exact Fs (Nat.lt_succ_of_lt (j b d))) bs.length 0 _ none 0 (by lia) (by lia)
  ⟨_,E8 _ (Fg _ rfl),rfl,rfl⟩ (k.at fun o e=>E8 _ (E8 _ e)) (fun i b e=>?_) (Fg _ rfl) rfl f fun m b h' tk hm x v=>?_⟩
 ·obtain ⟨n,e1,o,t,u,m,p,y⟩:=r i b e
  exact ⟨n,e1,o,t,u,m,E8 _ (E8 _ p),y⟩
 ·refine h m b h' tk hm x fun c o e=>v c o (fun q=>?_) (fun q=>?_) (E8 _ (E8 _ e))
  ·exact absurd q (Fs (Fe e))
  ·exact absurd (q.trans hsz) (Fs (Nat.lt_succ_of_lt (Fe e)))
end
section
variable {X:Cx}
def Cc (K:FG):List V->Hp->VK->Prop:=fun xs H Q=>∃ (l:Addr) (bs:List Addr) (ns:List (Int × Int)),xs=[.ref l]/\SqL K H l (bs.map V.ref)/\(∀ (i:Nat) (b:Addr),bs[i]?=some b->∃ n,ns[i]?=some n/\H b=some (.tup [.int n.1,.int n.2]))/\bs ≠ [] /\
 ∀ m b,bs[m]?=some b->lO ns bs.length m->Q (.ref b) H
theorem jl:∀ {bs:List Addr} {its:List Value},Vals (bs.map V.ref) its->its=bs.map Value.ref
 | [],_,.nil=>rfl
 | b :: bs,_,.cons r t=>by cases r;rw [jl t];rfl
theorem vP (j:X.calm=true) (hu:X.A.units+1 < cLine):CallR X (.builtin "min") (Cc X.K):=by
 intro pins s σ H xs us Q I y h
 obtain ⟨l,bs,ns,rfl,v,z,a,q⟩:=h
 obtain ⟨u,rfl,c⟩:=bR y
 cases (show u=Value.ref l from c)
 obtain ⟨its,d,p,hz⟩:=I.list v
 have pl:=p.isList
 rw [jl d] at pl
 refine vN (I.ok.hd j) hu pl (ns:=ns) (fun i b e=>?_) (List.length_pos_iff.mpr a) fun m b h' tk hm g f=>⟨.ref b,H,I.kept f,rfl,q m b hm g⟩
 obtain ⟨n,e1,x⟩:=z i b e
 obtain ⟨_,its,r,o,h1,h2,k,h3⟩:=(show ObjOk X.prog X.w H s.heap b (.tup [.int n.1,.int n.2]) from I.hok b _ x)
 refine ⟨n,e1,?_⟩
 cases r with
 | cons r1 r =>
  cases r with
  | cons r2 r =>
   cases r
   obtain ⟨t,rfl⟩:=r1
   obtain ⟨u,rfl⟩:=r2
   exact ⟨o,t,u,k,h1,h2,congrArg Prod.fst h3⟩
end
end L2
end
section
namespace L2
open PySem PySem.Spec PyProof.Rows
end L2
end
section
namespace PyProof.Rows
open PySem
end PyProof.Rows
end
section
namespace L2
open PySem PySem.Spec PyProof.Rows
theorem iJ:∀ {us:List Value} {ns:List Int},IntsAre us ns->Vals (ns.map V.int) us
 | _,_,.nil=>.nil
 | _,_,.cons n t h=>.cons ⟨t,rfl⟩ (iJ h)
end L2
end
section
namespace L2
open PySem PySem.Spec PyProof.Rows
end L2
end
section
namespace L2
open PySem PySem.Spec PyProof.Rows
def IsNts (h:Heap) (b:Addr) (n:List Int):Prop:=∃ it:Array Value,IsTup h b it/\IntsAre it.toList n
theorem eD:∀ x:List Int,HT.lexLt x x=false
 | []=>rfl
 | a :: x=>by rw [HT.lexLt_cons,if_pos rfl];exact eD x
theorem hU:∀ {x y z:List Int},HT.lexLt x y=true->HT.lexLt y z=true->HT.lexLt x z=true
 | [],[],_,h1,_=>by cases h1
 | [],_ :: _,[],_,h2=>by cases h2
 | [],_ :: _,_ :: _,_,_=>rfl
 | _ :: _,[],_,h1,_=>by cases h1
 | _ :: _,_ :: _,[],_,h2=>by cases h2
 | a :: x,b :: y,c :: z,h1,h2=>by
  rw [HT.lexLt_cons] at *
  by_cases e1:a=b
  ·rw [if_pos e1] at h1
   by_cases d:b=c
   ·rw [if_pos d] at h2
    rw [if_pos (e1.trans d)];exact hU h1 h2
   ·rw [if_neg d] at h2
    rw [if_neg (fun q=>d (e1.symm.trans q)),e1];exact h2
  ·rw [if_neg e1] at h1
   have e:=of_decide_eq_true h1
   by_cases d:b=c
   ·rw [if_neg (fun q=>e1 (q.trans d.symm)),<- d];exact h1
   ·rw [if_neg d] at h2
    have f:=of_decide_eq_true h2
    rw [if_neg (by lia)];exact Fv (by lia)
theorem kE:∀ {x y:List Int},HT.lexLt x y=false->HT.lexLt y x=false->x=y
 | [],[],_,_=>rfl
 | [],_ :: _,h,_=>by cases h
 | _ :: _,[],_,h=>by cases h
 | a :: x,b :: y,h1,h2=>by
  rw [HT.lexLt_cons] at *
  by_cases e:a=b
  ·rw [if_pos e] at h1
   rw [if_pos e.symm] at h2
   rw [e,kE h1 h2]
  ·rw [if_neg e] at h1
   rw [if_neg (Ne.symm e)] at h2
   have:=of_decide_eq_false h1
   have:=of_decide_eq_false h2
   lia
theorem rN (h1:HT.lexLt x y=true) (h2:HT.lexLt z y=false):HT.lexLt z x=false:=by
 cases h:HT.lexLt z x with
 | false=>rfl
 | true=>rw [hU h h1] at h2;cases h2
section
variable {prog:Program} {w:World} {A:Around} {E:Value->Shared->Prop} {s:Shared}
theorem Eg (hu:A.units < cLine) (d:IsNts s.heap a x) (e:IsNts s.heap b y) (h:Q (.bool (HT.lexLt x y)) s) :
  wpAny (model prog w) A (richCompare .Lt (.ref a) (.ref b)) Q E s:=by
 obtain ⟨i,h1,c⟩:=d
 obtain ⟨g,h2,f⟩:=e
 exact (HT.lt_tupInts h1 h2 c f hu h:wpAny (model prog w) A (compareOp .Lt (.ref a) (.ref b)) Q E s)
end
def lN (ns:List (List Int)) (j:Nat) (k:Nat):Prop:=k < j/\∀ i,i < j->∀ x y,ns[i]?=some x->ns[k]?=some y->HT.lexLt x y=false
def zH (h:Heap) (bs:List Addr) (ns:List (List Int)):Prop:=∀ (i:Nat) (b:Addr),bs[i]?=some b->∃ n,ns[i]?=some n/\IsNts h b n
section
variable {prog:Program} {w:World} {A:Around} {R:Result->Shared->Prop}
theorem ve (hh:A.handled=none) (hu:A.units+1 < cLine) (ax:l ≠ I) (u:S ≠ I) (Y:S ≠ l) (bs:List Addr) (ns:List (List Int)) (V:∀ b ∈ bs,b ≠ I) (ab:∀ b ∈ bs,b ≠ S) :
  ∀ (k j:Nat) (s:Shared) (m:Option Nat) (c:Nat),bs.length - j=k->j<=bs.length->s.heap.IsListIter I l j->s.heap.IsList l (bs.map Value.ref).toArray->zH s.heap bs ns ->
  s.heap.get? S=some { cls:=.type "list",dict:=none,data:=.seq (uh (m.bind (bs[·]?))) c,slots:=#[] }->(match m with | none=>j=0 | some m=>lN ns j m)->0 < bs.length ->
  (∀ m b h' tk,bs[m]?=some b->lN ns bs.length m->(∀ a o,a ≠ I->a ≠ S->s.heap.get? a=some o->h'.get? a=some o)->R (.ok (.ret (.ref b))) { s with heap:=h',toks:=tk }) ->
  codeAny (model prog w) A (.builtin "min.loop" ⟨[.ref I,.none,.ref S],[]⟩) R s:=by
 have nm:(toString "min" ++ toString ".loop":String) = "min.loop":=by decide
 intro k
 induction k with
 | zero =>
  intro j s m c hk hj hit M hp J f g fin
  obtain rfl:j=bs.length:=by lia
  refine codeAny_builtin F.entry_min_loop ?_
  rw [Around.under_plainId F.plain_min_loop _]
  show wpAny _ A.in1 (seqItems? (.ref S) >>= _) _ _ s
  refine E3 (wpAny_seqItems J rfl ?_)
  show wpAny _ A.in1 (tryCatch (pyNext (.ref I)) _ >>= _) _ _ s
  refine E3 (wpAny_tryCatch (wpAny_pyNext_list_end (show A.in1.handled=none from hh) hit M (by simp) fun h' eb=>?_))
  cases m with
  | none=>have:bs.length=0:=f;lia
  | some m =>
   have hm:m < bs.length:=f.1
   have H:bs[m]?=some bs[m]:=Fd hm
   have d:=eb S _ u J
   simp only [Option.bind_some,H] at d ⊢
   show wpAny _ A.in1 (updateSeq S (fun _=>#[]) >>= _) _ _ _
   refine E3 (wpAny_updateSeq d rfl (E3 (wpAny_letGo (E4 ?_))) (hz:=by show 2<=sizeLine;decide))
   exact fin m _ _ s.toks H f fun a o h P e=>(FK _ _ (Ne.symm P)).trans (eb a o h e)
 | succ k ih =>
  intro j s m c hk hj hit M hp J f g fin
  have G:j < bs.length:=by lia
  have N:bs[j]?=some bs[j]:=Fd G
  have hv:(bs.map Value.ref).toArray[j]?=some (.ref bs[j]):=by simp [N]
  refine codeAny_builtin F.entry_min_loop ?_
  rw [Around.under_plainId F.plain_min_loop _]
  show wpAny _ A.in1 (seqItems? (.ref S) >>= _) _ _ s
  refine E3 (wpAny_seqItems J rfl ?_)
  show wpAny _ A.in1 (tryCatch (pyNext (.ref I)) _ >>= _) _ _ s
  refine E3 (wpAny_tryCatch (wpAny_pyNext_list_item hit M hv fun h' K sb=>?_))
  have d:h'.get? S=_:=(sb.2 S u).trans J
  have Q:h'.IsList l (bs.map Value.ref).toArray:=M.at fun o e=>(sb.2 l ax).trans e
  have pk:∀ {h1 h2:Heap},(∀ b ∈ bs,∀ o,h1.get? b=some o->h2.get? b=some o)->zH h1 bs ns->zH h2 bs ns:=fun {h1 h2} k q i b e=>by
   obtain ⟨n,e1,t,⟨o,e2,e3⟩,e4⟩:=q i b e
   exact ⟨n,e1,t,⟨o,k b (Fj e) o e2,e3⟩,e4⟩
  have C:zH h' bs ns:=pk (fun b f o e=>(sb.2 b (V b f)).trans e) hp
  have on:∀ (h2:Heap) (tk:Nat) (O:Option Nat) (X:Nat),(∀ a o,a ≠ S->h'.get? a=some o->h2.get? a=some o)->h2.get? S=some { cls:=.type "list",dict:=none,data:=.seq (uh (O.bind (bs[·]?))) X,slots:=#[] }->(match O with | none=>j+1=0 | some m=>lN ns (j+1) m) ->
    codeAny (model prog w) A (.builtin "min.loop" ⟨[.ref I,.none,.ref S],[]⟩) R { s with heap:=h2,toks:=tk }:=fun h2 tk O X k2 Z W =>
   ih (j+1) _ O X (by lia) G (K.at fun o e=>k2 I o (Ne.symm u) e) (Q.at fun o e=>k2 l o (Ne.symm Y) e) (pk (fun b f o e=>k2 b o (ab b f) e) C) Z W g fun v b h3 T az U k3=>fin v b h3 T az U fun a o h P e=>k3 a o h P (k2 a o P ((sb.2 a h).trans e))
  obtain ⟨nj,E,ar⟩:=C j _ N
  cases m with
  | none =>
   have h0:j=0:=f
   show wpAny _ A.in1 (updateSeq S (fun _=>#[.ref bs[j],.ref bs[j]]) >>= _) _ _ _
   refine E3 (wpAny_updateSeq d rfl ?_ (hz:=by show 0<=sizeLine;exact Nat.zero_le _))
   rw [nm]
   refine E4 ⟨plainId_quiet F.plain_min_loop _,on _ s.toks (some j) (c+1) (fun a o h e=>(FK _ _ (Ne.symm h)).trans e) ?_ ⟨by lia,fun i hi x y h1 h2=>?_⟩⟩
   ·simp only [Option.bind_some,N]
    exact FA _ d rfl
   ·obtain rfl:i=j:=by lia
    rw [h1] at h2;cases h2
    exact eD _
  | some m =>
   obtain ⟨hm,hle⟩:=f
   have B:bs[m]?=some bs[m]:=Fd (by lia)
   obtain ⟨z,L,a0⟩:=C m _ B
   simp only [Option.bind_some,B] at d ⊢
   show wpAny _ A.in1 (tryCatch (holding [.ref bs[j],.ref bs[j]] (richCompare .Lt (.ref bs[j]) (.ref bs[m]) >>= _)) _ >>= _) _ _ _
   refine E3 (wpAny_tryCatch (E5 (E3 ?_)))
   refine Eg (A:=A.in1) (show A.units+1 < cLine from hu) ar a0 ?_
   refine E3 (E5 (FM (E3 (wpAny_letGo (E4 ?_)))))
   by_cases D:HT.lexLt nj z=true
   ·rw [D,if_pos rfl]
    refine E3 (wpAny_updateSeq d rfl (E3 (wpAny_letGo ?_)) (hz:=by show 2<=sizeLine;decide))
    rw [nm]
    refine E4 ⟨plainId_quiet F.plain_min_loop _,on _ s.toks (some j) c (fun a o h e=>(FK _ _ (Ne.symm h)).trans e) ?_ ⟨by lia,fun i hi x y h1 h2=>?_⟩⟩
    ·simp only [Option.bind_some,N]
     exact FA _ d rfl
    ·rw [E] at h2;cases h2
     by_cases r:i=j
     ·subst r
      rw [E] at h1;cases h1
      exact eD _
     ·exact rN D (hle i (by lia) x z h1 L)
   ·have p:HT.lexLt nj z=false:=by simpa using D
    rw [p,if_neg Fr]
    refine E3 (wpAny_letGo ?_)
    rw [nm]
    refine E4 ⟨plainId_quiet F.plain_min_loop _,on h' s.toks (some m) c (fun a o _ e=>e) (by simp only [Option.bind_some,B];exact d) ⟨by lia,fun i hi x y h1 h2=>?_⟩⟩
    by_cases r:i=j
    ·subst r
     rw [E] at h1;cases h1
     rw [L] at h2;cases h2
     exact p
    ·exact hle i (by lia) x y h1 h2
end
section
variable {prog:Program} {w:World} {A:Around} {E:Value->Shared->Prop} {s:Shared}
theorem vM (y:A.handled=none) (hu:A.units+1 < cLine) (k:s.heap.IsList l (bs.map Value.ref).toArray) (r:zH s.heap bs ns) (f:0 < bs.length) (h:∀ m b h' tk,bs[m]?=some b->lN ns bs.length m->(∀ b o,s.heap.get? b=some o->h'.get? b=some o)->Q (.ref b) { s with heap:=h',toks:=tk }) :
  wpAny (model prog w) A (call (.builtin "min") [.ref l]) Q E s:=by
 have a:(toString "min" ++ toString ".loop":String) = "min.loop":=by decide
 refine call_function_tree F.kind_min F.plain_min F.entry_min (F.args_min1 _) ?_
 show wpAny _ A.in1 (Builtin.Builtins.bindParams "min" ["key","default"] 0 ⟨[],[]⟩ >>= _) _ _ s
 refine E3 (wpAny_of_eq (show Builtin.Builtins.bindParams "min" ["key","default"] 0 ⟨[],[]⟩=pure [none,none] from rfl) ?_)
 refine E3 (E4 ?_)
 refine E3 (wpAny_pyIter_list k ?_)
 refine E3 (wpAny_newObj_type ?_)
 rw [a]
 have g:l < s.heap.objs.size:=by obtain ⟨_,e,_⟩:=k;exact Fe e
 have hsz:(s.heap.push { cls:=.type "list_iterator",data:=.fields #[.ref l,.int 0 0] }).objs.size=s.heap.objs.size+1:=FL _ _
 have a1:(s.heap.push { cls:=.type "list_iterator",data:=.fields #[.ref l,.int 0 0] }).objs.size ≠ s.heap.objs.size:=by rw [hsz];exact Nat.succ_ne_self _
 have a2:(s.heap.push { cls:=.type "list_iterator",data:=.fields #[.ref l,.int 0 0] }).objs.size ≠ l:=by rw [hsz];exact Nat.ne_of_gt (Nat.lt_succ_of_lt g)
 have j:∀ b ∈ bs,b < s.heap.objs.size:=fun b d=>by
  obtain ⟨i,hi,e⟩:=List.getElem_of_mem d
  obtain ⟨_,_,_,⟨o,p,_⟩,_⟩:=r i b (by rw [Fd hi,e])
  exact Fe p
 refine E4 ⟨plainId_quiet F.plain_min_loop _,ve (A:=A) y hu (I:=s.heap.objs.size) (l:=l) (Fs g) a1 a2 bs ns (fun b d=>Fs (j b d)) (fun b d=>by rw [hsz];exact Fs (Nat.lt_succ_of_lt (j b d))) bs.length 0 _ none 0 (by lia) (by lia)
  ⟨_,E8 _ (Fg _ rfl),rfl,rfl⟩ (k.at fun o e=>E8 _ (E8 _ e)) (fun i b e=>?_) (Fg _ rfl) rfl f fun m b h' tk hm v u=>?_⟩
 ·obtain ⟨n,e1,t,⟨o,p,x⟩,z⟩:=r i b e
  exact ⟨n,e1,t,⟨o,E8 _ (E8 _ p),x⟩,z⟩
 ·refine h m b h' tk hm v fun c o e=>u c o (fun q=>?_) (fun q=>?_) (E8 _ (E8 _ e))
  ·exact absurd q (Fs (Fe e))
  ·exact absurd (q.trans hsz) (Fs (Nat.lt_succ_of_lt (Fe e)))
end
section
variable {X:Cx}
def xC (K:FG):List V->Hp->VK->Prop:=fun xs H Q=>∃ (l:Addr) (bs:List Addr) (ns:List (List Int)),xs=[.ref l]/\SqL K H l (bs.map V.ref)/\(∀ (i:Nat) (b:Addr),bs[i]?=some b->∃ n,ns[i]?=some n/\SqT K H b (n.map V.int))/\bs ≠ [] /\
 ∀ m b,bs[m]?=some b->lN ns bs.length m->Q (.ref b) H
theorem sf (j:X.calm=true) (hu:X.A.units+1 < cLine):CallR X (.builtin "min") (xC X.K):=by
 intro pins s σ H xs us Q I t h
 obtain ⟨l,bs,ns,rfl,k,v,a,q⟩:=h
 obtain ⟨u,rfl,c⟩:=bR t
 cases (show u=Value.ref l from c)
 obtain ⟨its,d,p,hz⟩:=I.list k
 have pl:=p.isList
 rw [jl d] at pl
 refine vM (I.ok.hd j) hu pl (ns:=ns) (fun i b e=>?_) (List.length_pos_iff.mpr a) fun m b h' tk hm g f=>⟨.ref b,H,I.kept f,rfl,q m b hm g⟩
 obtain ⟨n,e1,o⟩:=v i b e
 obtain ⟨its,r,p,_⟩:=I.tuple o
 exact ⟨n,e1,_,p,iE r⟩
end
end L2
end
section
namespace L2
open PySem PySem.Spec PyProof.Rows
abbrev aP (f:Bool):SortKind:=(sortPriv% PySem.Builtin.KeyKind.tuples) f
section
variable {prog:Program} {w:World} {A:Around} {E:Value->Shared->Prop} {s:Shared}
theorem rh (f:Bool) {a b:Int} (h:Q (decide (a < b)) s):wpAny (model prog w) A (oneLt' f (.int a t) (.int b u)) Q E s:=by
 cases f with
 | true=>exact oneLt_int h
 | false =>
  rw [oneLt'_eq]
  simp only [FI,if_false]
  refine E3 (HT.rcLt_int A s a t b u prog w E _ ?_)
  exact FM h
set_option tactic.hygienic true in
theorem mT (f:Bool) (n m:Nat) {k:Option Bool × Unit->Sem Bool} (l:∀ p q i c,g ((p,q),i) c=(do
          let b <- eqBool p q
          if (!b)=true then do
            let r <- oneLt' (f && i == 0) p q
            pure (ForInStep.done (some r,()))
          else pure (ForInStep.yield (none,())))) (j:∀ b,k (some b,())=pure b) (d:k (none,())=pure (decide (n < m))):∀ (h ws:List Value) (ns ms:List Int) (i:Nat),IntsAre h ns->IntsAre ws ms->ns.length+m=ms.length+n->Q (HT.lexLt ns ms) s ->
    wpAny (model prog w) A (forIn ((h.zip ws).zipIdx i) ((none,()):Option Bool × Unit) g) (fun r s'=>wpAny (model prog w) A (k r) Q E s') E s
  | [],ws,ns,ms,i,h1,h2,hl,q=>by
    cases h1
    have e:HT.lexLt [] ms=decide (n < m):=by
      cases ms with
      | nil=>simp at hl;rw [HT.lexLt_nil_nil];exact (Fw (by lia)).symm
      | cons a ms=>simp at hl;rw [HT.lexLt_nil_cons];exact (Fv (by lia)).symm
    rw [e] at q
    rw [List.zip_nil_left]
    simp only [List.zipIdx_nil,List.forIn_nil]
    refine E4 ?_
    rw [d]
    exact E4 q
  | v :: h,[],ns,ms,i,h1,h2,hl,q=>by
    cases h2
    cases h1 with
    | cons a t h1 =>
    rename_i ns
    have e:HT.lexLt (a :: ns) []=decide (n < m):=by
      simp at hl;rw [HT.lexLt_cons_nil];exact (Fw (by lia)).symm
    rw [e] at q
    rw [List.zip_nil_right]
    simp only [List.zipIdx_nil,List.forIn_nil]
    refine E4 ?_
    rw [d]
    exact E4 q
  | v :: h,u :: ws,ns,ms,i,h1,h2,hl,q=>by
    cases h1 with
    | cons a t h1 =>
    cases h2 with
    | cons b t2 h2 =>
    rename_i ns ms
    rw [List.zip_cons_cons,List.zipIdx_cons,List.forIn_cons,l]
    rw [HT.lexLt_cons] at q
    refine E3 (E3 ((intKind prog w).eqBool (a:=a) (b:=b) (by simp [intKind,Value.isInt]) (by simp [intKind,Value.isInt]) ?_))
    by_cases e:a=b
    · rw [if_pos e] at q
      rw [Fv e]
      simp only [Bool.not_true,FI,if_false]
      refine E4 ?_
      exact mT f n m l j d h ws ns ms (i+1) h1 h2 (by simp at hl;lia) q
    · rw [if_neg e] at q
      rw [Fw e]
      simp only [Bool.not_false,if_true]
      refine E3 (rh _ (E4 (E4 ?_)))
      rw [j]
      exact E4 q
theorem vw (l:IsNts s.heap a x) (m:IsNts s.heap b y) (h:Q (HT.lexLt x y) s):wpAny (model prog w) A (keyLt' (aP f) (.ref a) (.ref b)) Q E s:=by
 obtain ⟨d,⟨q,e1,c1,r,d1⟩,e⟩:=l
 obtain ⟨c,⟨p,n,c2,o,i⟩,g⟩:=m
 refine E3 (listItems_at e1 d1 ?_)
 refine E3 (listItems_at n i ?_)
 refine E3 ?_
 have k:x.length=d.size:=by rw [<- e.length];simp
 have j:y.length=c.size:=by rw [<- g.length];simp
 exact mT f d.size c.size (fun _ _ _ _=>rfl) (fun _=>rfl) rfl d.toList c.toList x y 0 e g (by lia) h
end
end L2
end
section
namespace L2
open PySem PySem.Spec PyProof.Rows
end L2
end
section
namespace L2
open PySem PySem.Spec PyProof.Rows
section
variable {prog:Program} {w:World} {A:Around} {E:Value->Shared->Prop} {s:Shared}
theorem rT (v:Value):firstOfTuple' v=(do
  if (<- typeOf v) != .type "tuple" then return none
  return (<- Builtin.List.listItems v)[0]?):=rfl
theorem m8 (f:IsNts s.heap b n) (h0:n ≠ []) (h:∀ i t,Q (some (.int i t)) s):wpAny (model prog w) A (firstOfTuple' (.ref b)) Q E s:=by
 obtain ⟨it,⟨o,e,c,k,d⟩,j⟩:=f
 rw [rT]
 refine E3 (wpAny_typeOf (T:="tuple") ⟨o,e,c⟩ ?_)
 rw [if_neg (by decide)]
 refine E3 (listItems_at e d ?_)
 cases a:it.toList with
 | nil=>rw [a] at j;cases j;exact absurd rfl h0
 | cons v vs =>
  rw [a] at j
  cases j with
  | cons i t j =>
   have:it[0]?=some (.int i t):=by rw [<- Array.getElem?_toList,a];rfl
   rw [this]
   exact E4 (h i t)
theorem lB:∀ (bs:List Addr),(∀ b ∈ bs,∃ n,n ≠ []/\IsNts s.heap b n)->(∀ (a:List Value) (ns:List Int),IntsAre a ns->a.length=bs.length->Q (a.map some) s) ->
  wpAny (model prog w) A ((bs.map Value.ref).mapM firstOfTuple') Q E s
 | [],_,q=>by
  simp only [List.map_nil,List.mapM_nil]
  exact E4 (q [] [] .nil rfl)
 | b :: bs,h,q=>by
  rw [Fu,List.mapM_cons]
  obtain ⟨n,h0,d⟩:=h b E6
  refine E3 (m8 d h0 fun i t=>?_)
  refine E3 (lB bs (fun c f=>h c (E7 _ f)) fun a ns hi e=>?_)
  exact E4 (q (.int i t :: a) (i :: ns) (.cons i t hi) (by simp [e]))
theorem yH (h2:bs ≠ []) (e:∀ b ∈ bs,∃ n,n ≠ []/\IsNts s.heap b n) (h:Q (aP true) s):wpAny (model prog w) A (keyKind' (bs.map Value.ref).toArray) Q E s:=by
 rw [keyKind'_eq,List.mapM_toArray]
 refine E3 ?_
 rw [map_eq_pure_bind]
 refine E3 (lB bs e fun a ns hi f=>E4 ?_)
 have d:(a.map some).toArray.all (·.isSome)=true:=by simp
 rw [if_pos d]
 refine E3 (wpAny_rule ?_)
 have hf:(a.map some).toArray.filterMap id=a.toArray:=by simp
 rw [hf,oneTypeOnly'_eq,List.mapM_toArray,mapM_typeOf_ints hi]
 simp only [map_pure,pure_bind]
 cases a with
 | nil=>exact absurd (FT.mp f.symm) h2
 | cons v a =>
  have c:((List.map (fun _=>Value.type "int") (v :: a)).toArray.all fun x=>x == Value.type "int")=true:=by
   simp only [List.all_toArray,List.all_map,List.all_eq_true]
   intro _ _
   rfl
  have h0:(List.map (fun _=>Value.type "int") (v :: a)).toArray[0]?=some (Value.type "int"):=by simp
  rw [h0]
  simp only [c,if_true,pure_bind,Option.any_some]
  exact E4 h
end
end L2
end
section
namespace L2
open PySem PySem.Spec PyProof.Rows
theorem IsNts.at (x:IsNts h b n) (e:∀ o,h.get? b=some o->h'.get? b=some o):IsNts h' b n:=by
 obtain ⟨it,⟨o,e1,r⟩,j⟩:=x
 exact ⟨it,⟨o,e o e1,r⟩,j⟩
structure NRow (h:Heap) (bs:List Addr) (ns:List (List Int)):Prop where
 len:ns.length=bs.length
 at':∀ (i:Nat) (b:Addr) (n:List Int),bs[i]?=some b->ns[i]?=some n->IsNts h b n/\n ≠ []
 asc:∀ (i:Nat) (x y:List Int),ns[i]?=some y->ns[i+1]?=some x->HT.lexLt x y=false
theorem NRow.keep (r:NRow h bs ns) (k:∀ b ∈ bs,∀ o,h.get? b=some o->h'.get? b=some o):NRow h' bs ns :=
 ⟨r.len,fun i b n e1 a=>⟨(r.at' i b n e1 a).1.at (k b (Fj e1)),(r.at' i b n e1 a).2⟩,r.asc⟩
end L2
end
section
namespace L2
open PySem PySem.Spec PyProof.Rows
end L2
end
section
namespace L2
open PySem PySem.Spec PyProof.Rows
end L2
end
section
namespace L2
open PySem PySem.Spec PyProof.Rows
theorem iI:∀ bs:List Addr,Vals (bs.map V.ref) (bs.map Value.ref)
 | []=>.nil
 | _ :: bs=>.cons rfl (iI bs)
end L2
end
section
namespace L2
open PySem
abbrev Up (xs:Array Nat):Prop:=xs.toList.Pairwise (· < ·)
theorem Up.at (h:Up xs) {i k:Nat} (a:i < k) (b:k < xs.size):xs[i]'(by omega) < xs[k]:=by
 have:=List.pairwise_iff_getElem.mp h i k (by simp;lia) (by simpa using b) a
 simpa using this
theorem zv (h:Up xs) (j:Nat):∀ (fuel lo hi:Nat),hi - lo<=fuel->lo<=hi->hi<=xs.size ->
  (∀ i (z:i < xs.size),i < lo->xs[i] < j)->(∀ i (z:i < xs.size),hi<=i->j<=xs[i]) ->
  (∀ i (z:i < xs.size),i < SetTable.below.go xs j fuel lo hi->xs[i] < j)/\(∀ i (z:i < xs.size),SetTable.below.go xs j fuel lo hi<=i->j<=xs[i])/\SetTable.below.go xs j fuel lo hi<=xs.size:=by
 intro fuel
 induction fuel with
 | zero =>
  intro lo hi f l z a b
  have e:lo=hi:=by lia
  subst e
  unfold SetTable.below.go
  exact ⟨a,b,z⟩
 | succ fuel ih =>
  intro lo hi f l z a b
  unfold SetTable.below.go
  by_cases k:lo < hi
  ·rw [if_pos k]
   have hm:(lo+hi) / 2 < xs.size:=by lia
   have m:xs.getD ((lo+hi) / 2) j=xs[(lo+hi) / 2]:=by simp [Array.getD,hm]
   dsimp only
   rw [m]
   by_cases c:xs[(lo+hi) / 2] < j
   ·rw [if_pos c]
    refine ih _ _ (by lia) (by lia) z (fun i g d=>?_) b
    by_cases e:i=(lo+hi) / 2
    ·subst e;exact c
    ·exact Nat.lt_trans (h.at (show i < (lo+hi) / 2 by lia) hm) c
   ·rw [if_neg c]
    refine ih _ _ (by lia) (by lia) (by lia) a (fun i g d=>?_)
    by_cases e:i=(lo+hi) / 2
    ·subst e;lia
    ·have:=h.at (show (lo+hi) / 2 < i by lia) g;lia
  ·rw [if_neg k]
   have e:lo=hi:=by lia
   subst e
   exact ⟨a,b,z⟩
theorem lK (h:Up xs) (j:Nat):(∀ i (z:i < xs.size),i < SetTable.below xs j->xs[i] < j)/\(∀ i (z:i < xs.size),SetTable.below xs j<=i->j<=xs[i])/\SetTable.below xs j<=xs.size :=
 zv h j xs.size 0 xs.size (by lia) (by lia) (Fq _) (fun i z c=>by lia) (fun i z c=>by lia)
theorem sD (h:Up xs) {i:Nat} (hi:i < xs.size):SetTable.below xs (xs[i]+1)=i+1:=by
 obtain ⟨a,b,c⟩:=lK h (xs[i]+1)
 generalize SetTable.below xs (xs[i]+1)=r at *
 by_cases l:r<=i
 ·have:=b i hi l;lia
 ·by_cases g:i+1 < r
  ·have h1:=a (i+1) (by lia) g
   have h2:=h.at (show i < i+1 by lia) (by lia)
   lia
  ·lia
theorem sC (h:Up xs):SetTable.below xs 0=0:=by
 obtain ⟨a,b,c⟩:=lK h 0
 by_cases l:0 < SetTable.below xs 0
 ·have:=a 0 (by lia) l;lia
 ·lia
theorem uy (h:Up xs) {j:Nat} (m:(xs[SetTable.below xs j]? == some j)=false):Up (SetTable.insertAt xs (SetTable.below xs j) j):=by
 obtain ⟨a,b,c⟩:=lK h j
 show (SetTable.insertAt xs (SetTable.below xs j) j).toList.Pairwise _
 rw [SetTable.toList_insertAt]
 generalize SetTable.below xs j=r at *
 have f:∀ x ∈ xs.toList.take r,x < j:=fun x d=>by
  obtain ⟨i,hi,rfl⟩:=List.mem_take_iff_getElem.mp d
  simp at hi
  exact a i (by lia) (by lia)
 have g:∀ x ∈ xs.toList.drop r,j < x:=fun x d=>by
  obtain ⟨i,hi,rfl⟩:=List.mem_drop_iff_getElem.mp d
  simp at hi
  have h1:=b (r+i) (by lia) (by lia)
  have h2:xs[r]'(by lia) ≠ j:=by
   intro e
   rw [Array.getElem?_eq_getElem (by lia),e] at m
   simp at m
  simp only [Array.getElem_toList]
  rcases Nat.eq_zero_or_pos i with e | e
  ·subst e
   simp only [Nat.add_zero] at h1 ⊢
   lia
  ·have h3:=h.at (show r < r+i by lia) (by lia)
   have n:=b r (by lia) (Fq _)
   lia
 have k:(xs.toList.take r ++ xs.toList.drop r).Pairwise (· < ·):=by rw [List.take_append_drop];exact h
 rw [List.pairwise_append] at k ⊢
 refine ⟨k.1,List.pairwise_cons.mpr ⟨g,k.2.1⟩,fun x d y l=>?_⟩
 rcases Fc.mp l with rfl | l
 ·exact f x d
 ·exact Nat.lt_trans (f x d) (g y l)
theorem uG {t:SetTable} {j:Nat} (h:∀ i,t.slot j ≠ .live i):(t.place[SetTable.below t.place j]? == some j)=false:=by
 cases e:(t.place[SetTable.below t.place j]? == some j) with
 | false=>rfl
 | true =>
  refine absurd ?_ (h (SetTable.below t.place j))
  unfold SetTable.slot
  simp only [e,if_true]
set_option tactic.hygienic true in
theorem xK {h:Int} {j:Nat}:∀ (n:Nat) (p:SetTable.Probe),(∀ x,p.dummy=some x->∀ i,t.slot x ≠ .live i) ->
  SetTable.probe.go t f h n p=some (.empty j d)->∀ i,t.slot (d.getD j) ≠ .live i:=by
 intro n
 induction n with
 | zero=>intro p _ e;simp [SetTable.probe.go] at e
 | succ n ih =>
  intro p g e
  have b:∀ q:SetTable.Probe,(t.advance q).dummy=q.dummy:=fun q=>by unfold SetTable.advance;split <;> rfl
  unfold SetTable.probe.go at e
  split at e
  ·rename_i c
   simp only [Option.some.injEq,SetTable.Met.empty.injEq] at e
   obtain ⟨e1,k⟩:=e
   cases hd:p.dummy with
   | none=>rw [<- k,hd,Option.getD_none,<- e1,c];exact fun i z=>by cases z
   | some x=>rw [<- k,hd,Option.getD_some];exact g x hd
  ·rename_i c
   refine ih _ (fun x a=>?_) e
   rw [b] at a
   simp only [Option.some.injEq] at a
   rw [<- a,c]
   exact fun i z=>by cases z
  ·split at e
   ·simp at e
   ·exact ih _ (fun x a=>g x (by rw [<- a,b])) e
set_option tactic.hygienic true in
theorem vC {t:SetTable} {h:Int} {j:Nat} (e:t.freeSlot h=some (j,b)):∀ i,t.slot j ≠ .live i:=by
 unfold SetTable.freeSlot at e
 split at e
 ·rename_i f d a
  simp only [Option.some.injEq,Prod.mk.injEq] at e
  rw [<- e.1]
  exact xK _ _ (fun x c=>by simp [SetTable.probeStart] at c) a
 ·cases e
structure Tab (b:Bool) (t:SetTable):Prop where
 up:Up t.place
 led:t.led=b
theorem wm (n:Nat):Up (Array.range n):=by
 show (Array.range n).toList.Pairwise _
 rw [Array.toList_range]
 exact List.pairwise_lt_range
theorem Tab.stand (h:Tab b t) (n:Nat):Tab b (t.standIn n):=⟨wm n,h.led⟩
theorem Tab.or (h:Tab b t) (n:Nat):Tab b (t.orStandIn n):=by
 unfold SetTable.orStandIn
 split
 ·exact h
 ·exact h.stand n
set_option tactic.hygienic true in
theorem Tab.new (h:Tab b t) (es:Array (Int × Value)) (k:Int) (x:Value):Tab b (layNew t es k x).2.1:=by
 unfold layNew
 split
 ·rename_i j d e
  have z:Tab b (t.put j).1:=⟨uy h.up (uG (vC e)),h.led⟩
  exact z.or _
 ·exact h.stand _
set_option tactic.hygienic true in
theorem Tab.all (h:Tab b t) (es:Array (Int × Value)) (n:Nat):Tab b (relayAll t es n).2.1:=by
 unfold relayAll
 split
 ·rename_i t' order e
  dsimp only
  split
  ·unfold SetTable.relaid SetTable.laid at e
   simp only [Option.bind_eq_bind,FF,Option.pure_def,Option.some.injEq,Prod.mk.injEq] at e
   obtain ⟨k,_,e1,_⟩:=e
   subst e1
   refine ⟨?_,h.led⟩
   have aux:∀ (f:Nat->Option Nat) (m:Nat),((List.filterMap (fun j=>(f j).map (j,·)) (List.range m)).map (·.1)).Pairwise (· < ·):=fun f m=>by
    rw [List.pairwise_map,List.pairwise_filterMap]
    refine List.pairwise_lt_range.imp fun {a c} d x g y i=>?_
    rw [E9] at g i
    obtain ⟨_,_,rfl⟩:=g
    obtain ⟨_,_,rfl⟩:=i
    exact d
   exact aux _ _
  ·exact h.stand _
 ·exact h.stand _
theorem Tab.off (h:Tab b t) (c:Bool):Tab b (if c=true then t else { t with plain:=false }):=by
 cases c
 ·exact ⟨h.up,h.led⟩
 ·exact h
end L2
end
section
namespace L2
open PySem PyProof.Rows
abbrev gf (w:World):Bool:=!w.params.followText "set-order"
def SetL (prog:Program) (w:World) (h:Heap) (a:Addr) (ns:List Int):Prop :=
 ∃ o es b t ms,h.get? a=some o/\o.ExactSet/\o.data=.set es b t/\ElemsOf (intKind prog w) es.toList/\IntsAre (es.toList.map (·.2)) ms/\ms.Perm ns/\es.size < scanBound/\t.fits es.size=true/\Tab (gf w) t
theorem SetL.keep (x:SetL prog w h a ns) (k:∀ o,h.get? a=some o->h'.get? a=some o):SetL prog w h' a ns :=
 let ⟨o,es,b,t,ms,e,r⟩:=x;⟨o,es,b,t,ms,k o e,r⟩
theorem SetL.typeIs {s:Shared} (x:SetL prog w s.heap a ns):s.TypeIs (.ref a) "set" :=
 let ⟨o,_,_,_,_,e,c,_⟩:=x;⟨o,e,c.1⟩
def met (ns:List Int) (k:Int):List Int:=if k ∈ ns then ns else ns ++ [k]
theorem dY:∀ {l:List (Int × Value)},ElemsOf (intKind prog w) l->∃ ms,IntsAre (l.map (·.2)) ms
 | [],_=>⟨[],.nil⟩
 | e :: l,h=>by
  obtain ⟨ms,hm⟩:=dY h.tail
  obtain ⟨⟨k,b,_⟩,_⟩:=h.head
  obtain ⟨t,a⟩:=Value.isInt_shape b
  refine ⟨k :: ms,?_⟩
  rw [Fu,a]
  exact .cons k t hm
theorem jC (p:List.Perm vs ws) (a:IntsAre vs ns) (b:IntsAre ws ms):ns.Perm ms:=by
 rw [<- a.nums,<- b.nums]
 exact p.map _
section
variable {prog:Program} {w:World} {A:Around} {E:Value->Shared->Prop} {s:Shared}
theorem vD {l:List (Int × Value)} {k:Int} (hi:IntsAre (l.map (·.2)) ms):(l.findIdx? (fun e=>(intKind prog w).is k e.2)).isSome=true ↔ k ∈ ms:=by
 induction l generalizing ms with
 | nil=>cases hi;simp
 | cons e l ih =>
  obtain ⟨h0,v⟩:=e
  rw [Fu] at hi
  cases hi with
  | cons n t hr =>
   rw [List.findIdx?_cons]
   by_cases c:k=n
   ·subst c
    rw [if_pos (intKind_is prog w k t)]
    simp
   ·have:(intKind prog w).is k (Value.int n t)=false:=by
     cases z:(intKind prog w).is k (Value.int n t) with
     | false=>rfl
     | true=>exact absurd ((intKind prog w).inj _ _ _ z (intKind_is prog w n t)) c
    rw [this]
    simp only [FI,if_false,Option.isSome_map,Fc,c,false_or]
    exact ih hr
theorem wS {k:Int} (hS:SetL prog w s.heap a ns) (G:ns.length+1 < scanBound) (h:∀ b h',Heap.SameBut a s.heap h'->SetL prog w h' a (met ns k)->Q b { s with heap:=h' }):wpAny (model prog w) A (setAddHashed a (.int k tk) (hashInt k)) Q E s:=by
 obtain ⟨o,es,H,t,ms,B,hex,hd,l,hi,y,T,hf,R⟩:=hS
 have hn:es.size=ns.length:=by rw [<- y.length_eq,<- hi.length,Fh,Array.length_toList]
 have D:=vD (prog:=prog) (w:=w) (k:=k) hi
 unfold setAddHashed setAddHashedIn
 refine E5 (E3 (wpAny_setState_of B hd hf ?_))
 dsimp only
 rw [if_pos (byScan_of (x:=.int k tk) rfl T l)]
 refine E3 (E3 (wpAny_rule (E3 (wpAny_setScan_of (knd:=intKind prog w) (intKind_is prog w k tk) B hd hf l ?_))))
 cases P:List.findIdx? (fun e=>(intKind prog w).is k e.2) es.toList with
 | some j =>
  rw [P] at D
  have M:k ∈ ns:=y.mem_iff.mp (D.mp rfl)
  refine E4 (E4 ?_)
  have:=h false s.heap (Heap.SameBut.refl a s.heap) ⟨o,es,H,t,ms,B,hex,hd,l,hi,by rw [met,if_pos M];exact y,T,hf,R⟩
  exact this
 | none =>
  rw [P] at D
  have M:k ∉ ns:=fun z=>by have:=D.mpr (y.mem_iff.mpr z);simp at this
  have p:=layNew_perm t es (hashInt k) (.int k tk)
  have f1:=layNew_fits t es (hashInt k) (.int k tk)
  have t1:=R.new es (hashInt k) (.int k tk)
  generalize layNew t es (hashInt k) (.int k tk)=L at p f1 t1 ⊢
  obtain ⟨d,u,wd,S⟩:=L
  dsimp only at p f1 t1 ⊢
  rw [Array.toList_push] at p
  have n:ElemsOf (intKind prog w) d.toList:=(l.push (intKind_is prog w k tk) rfl).perm p
  obtain ⟨N,V⟩:=dY n
  have b1:d.size=es.size+1:=by have:=p.length_eq;simpa using this
  have q1:N.Perm (met ns k):=by
   have X:IntsAre ((es.toList ++ [(hashInt k,Value.int k tk)]).map (·.2)) (ms ++ [k]):=by
    rw [List.map_append]
    exact hi.append (.cons k tk .nil)
   rw [met,if_neg M]
   exact (jC (p.map _) V X).trans (y.append_right [k])
  have done:∀ (h1:Heap) (i:Obj) (f:Array (Int × Value)) (m:Nat) (g:SetTable),h1.get? a=some i->i.ExactSet->i.data=.set f m g->f.toList.Perm d.toList->g.fits f.size=true->Tab (gf w) g->Heap.SameBut a s.heap h1->Q true { s with heap:=h1 }:=by
   intro h1 i f m g g1 g2 g3 F g5 Y g7
   obtain ⟨I,U⟩:=dY (n.perm F)
   exact h true h1 g7 ⟨i,f,m,g,I,g1,g2,g3,n.perm F,U,(jC (F.map _) U V).trans q1,by have:=F.length_eq;simp at this;lia,g5,Y⟩
  have W:∀ (b:Bool) {O:Shared} {K:Unit->Shared->Prop},K () O->wpAny (model prog w) A (match b with | true=>rule "set.scan.the-table-gave-way" | false=>pure ()) K E O:=fun b O K q=>by
   cases b
   ·exact E4 q
   ·exact wpAny_rule q
  have two:∀ (c:Bool),wpAny (model prog w) A (do
    storeSet a d (if c=true then u else { u with plain:=false })
    if (!wd && (if c=true then u else { u with plain:=false }).tooFull)=true then do
     let r:=relayAll (if c=true then u else { u with plain:=false }) d (SetTable.grown d.size)
     (match r.2.2 with | true=>rule "set.scan.the-table-gave-way" | false=>pure ())
     storeSet a r.1 r.2.1
     pure (some true)
    else pure (some true)) (fun r s'=>r=some true/\Q true s') E s:=by
   intro c
   have g:=t1.off c
   have f2:(if c=true then u else { u with plain:=false }).fits d.size=true:=by cases c <;> exact f1
   generalize (if c=true then u else { u with plain:=false })=v at g f2 ⊢
   refine E3 (wpAny_storeSet_of (hz:=fits_of_scanBound (by lia)) B hd ?_)
   have i:(s.heap.update a (Obj.putSet d v)).get? a=some { o with data:=.set d (H+1) v }:=by
    have:=FA (Obj.putSet d v) B (by rw [putSet_of d v hd];rfl)
    rw [putSet_of d v hd] at this
    exact this
   split
   ·have C:=relayAll_perm v d (SetTable.grown d.size)
    have J:=relayAll_fits v d (SetTable.grown d.size)
    have t3:=g.all d (SetTable.grown d.size)
    generalize relayAll v d (SetTable.grown d.size)=r at C J t3 ⊢
    obtain ⟨f,v2,g2⟩:=r
    dsimp only at C J t3 ⊢
    have b3:f.size=d.size:=by have:=C.length_eq;simpa using this
    refine E3 (W _ (E3 (wpAny_storeSet_of (hz:=fits_of_scanBound (by lia)) i rfl (E4 ⟨rfl,?_⟩))))
    have Z:((s.heap.update a (Obj.putSet d v)).update a (Obj.putSet f v2)).get? a=some { o with data:=.set f (H+1+1) v2 }:=by
     have:=FA (Obj.putSet f v2) i (by rw [putSet_of f v2 rfl];rfl)
     rw [putSet_of f v2 rfl] at this
     exact this
    exact done _ _ f _ v2 Z hex rfl C J t3 ((Heap.SameBut.update _ a _).trans (Heap.SameBut.update _ a _))
   ·refine E4 ⟨rfl,?_⟩
    exact done _ _ d _ v i hex rfl (List.Perm.refl _) f2 g (Heap.SameBut.update _ a _)
  have fin:∀ (r:Option Bool) (s':Shared) {x:Sem Bool},r=some true/\Q true s'->wpAny (model prog w) A (match r with | some b=>pure b | none=>x) Q E s':=fun r s' x z=>by
   obtain ⟨rfl,q⟩:=z
   exact E4 q
  refine E3 (W _ ?_)
  split
  ·refine E3 (wpAny_of_eq (a:=true) rfl ?_)
   exact wpAny_mono (two true) (fun r s' z=>fin r s' z) fun _ _ z=>z
  ·refine E3 (E4 ?_)
   exact wpAny_mono (two true) (fun r s' z=>fin r s' z) fun _ _ z=>z
end
end L2
end
section
namespace L2
open PySem PyProof.Rows
theorem tK (ns:List Int) (k:Int):(met ns k).length<=ns.length+1:=by
 unfold met
 split <;> simp
theorem pN:∀ (ks ns:List Int),(ks.foldl met ns).length<=ns.length+ks.length
 | [],ns=>Fq _
 | k :: ks,ns=>by
  have a:=pN ks (met ns k)
  have b:=tK ns k
  simp only [List.foldl_cons,FC]
  lia
section
variable {prog:Program} {w:World} {A:Around} {E:Value->Shared->Prop}
theorem wN (C:A.handled=none) (p:I ≠ S) (r:l ≠ S) (q:l ≠ I) :
  ∀ (k i:Nat) (s:Shared) (ns ms:List Int),items.size - i=k->s.heap.IsTupleIter I l i->s.heap.IsTuple l items->IntsAre (items.toList.drop i) ms->SetL prog w s.heap S ns->ns.length+ms.length+1 < scanBound ->
   (∀ h' tk,SetL prog w h' S (ms.foldl met ns)->(∀ b o,b ≠ S->b ≠ I->s.heap.get? b=some o->h'.get? b=some o)->R (.ok (.ret .none)) { s with heap:=h',toks:=tk }) ->
   codeAny (model prog w) A (.builtin "set.update.loop" ⟨[.ref S,.ref I],[]⟩) R s:=by
 intro k
 induction k with
 | zero =>
  intro i s ns ms x hi d a j g h
  refine codeAny_builtin F.entry_set_update_loop ?_
  rw [Around.under_plainId F.plain_set_update_loop _]
  have e:ms=[]:=by
   rw [List.drop_eq_nil_of_le (by simp;lia)] at a
   cases a
   rfl
  subst e
  refine E3 (wpAny_pyNext_tuple_end (s:=s) C hi d (Array.getElem?_eq_none (by lia)) fun h' f=>?_)
  exact E4 (h h' s.toks (j.keep fun o e=>f _ _ (Ne.symm p) e) fun b o _ c e=>f _ _ c e)
 | succ k ih =>
  intro i s ns ms x hi d a j g h
  have lt:i < items.size:=by lia
  refine codeAny_builtin F.entry_set_update_loop ?_
  rw [Around.under_plainId F.plain_set_update_loop _]
  rw [List.drop_eq_getElem_cons (by simpa using lt)] at a
  generalize z:items.toList[i]=v at a
  have f:items[i]?=some v:=by rw [<- z,Array.getElem?_eq_getElem lt,Array.getElem_toList]
  cases a with
  | @cons n t _ ms' hr =>
   refine E3 (wpAny_pyNext_tuple_item (s:=s) hi d f fun h1 y s1=>?_)
   have u:SetL prog w h1 S ns:=j.keep fun o e=>s1.extBut _ _ (Ne.symm p) e
   have B:h1.IsTuple l items:=d.extBut s1.extBut q
   refine E3 (E5 (E5 (E3 ((intKind prog w).pyHash (k:=n) (intKind_is prog w n t) ?_))))
   refine wS (s:={ s with heap:=h1,toks:=s.toks+1 }) u (by simp only [FC] at g;lia) fun b h2 s2 D=>?_
   refine E4 ⟨plainId_quiet F.plain_set_update_loop _,?_⟩
   have G:=tK ns n
   refine ih (i+1) { s with heap:=h2,toks:=s.toks+1 } (met ns n) ms' (by lia) (y.extBut s2.extBut p) (B.extBut s2.extBut r) hr D (by simp only [FC] at g;lia) fun h3 m E k3=>?_
   exact h h3 m E fun b o c1 c2 e=>k3 b o c1 c2 (s2.extBut _ _ c1 (s1.extBut _ _ c2 e))
variable {s:Shared}
theorem Bg (h:∀ o,o=({ cls:=.type "set",dict:=none,data:=.set #[] 0 (.fresh 0 0 (gf w)) }:Obj)->Q (.ref s.heap.objs.size) { s with heap:=s.heap.push o }) :
  codeAny (model prog w) A (.call (.builtin "set.__new__") ⟨[.type "set",a],[]⟩) (wants Q E) s:=by
 refine codeAny_of_tree ?_
 refine E3 (wpAny_of_eq (F.newCall_set_1 a) (E4 ⟨plainId_quiet F.plain_set_new _,codeAny_builtin F.entry_set_new ?_⟩))
 rw [Around.under_plainId F.plain_set_new _]
 have sub:=sub_set_self
 obtain ⟨b,g,d,tk,os⟩:=s
 wp_walk
 refine wpAny_askSetting ?_
 wp_walk
 exact h _ rfl
theorem oj (D:A.handled=none) (q:s.heap.IsTuple l items) (hi:IntsAre items.toList ns) (I:items.size+1 < scanBound) (h:∀ h' tk,SetL prog w h' s.heap.objs.size (ns.foldl met [])->(∀ b o,s.heap.get? b=some o->h'.get? b=some o)->Q (.ref s.heap.objs.size) { s with heap:=h',toks:=tk }) :
  wpAny (model prog w) A (call (.type "set") [.ref l]) Q E s:=by
 obtain ⟨c,tl,x⟩:=F.called_set.mro
 have made:=F.called_set.made
 have below:=F.called_set.sub
 have j:=F.called_set.notType
 have C:=F.called_set.canCreate
 have one:=F.typeCall_set_1 (.ref l)
 obtain ⟨i,g,d,tk,os⟩:=s
 refine wpAny_call (codeAny_of_tree (E4 ⟨Code.quiet_builtin _ (by decide +kernel),codeAny_builtin F.entry_type_call ?_⟩))
 rw [Around.under_plain (weight_type_call_type "set" [.ref l] []) rfl]
 repeat (any_goals (first | assumption | wp_step))
 refine codeAny_mono (Bg (E:=E) (Q:=fun v t=>v=.ref i.objs.size/\t=⟨i.push { cls:=.type "set",dict:=none,data:=.set #[] 0 (.fresh 0 0 (gf w)) },g,d,tk,os⟩) fun o e=>by subst e;exact ⟨rfl,rfl⟩) ?_
 rintro (e | f) t m
 ·exact m
 cases f with
 | ret v =>
  obtain ⟨rfl,rfl⟩:=m
  have got:(i.push { cls:=.type "set",dict:=none,data:=.set #[] 0 (.fresh 0 0 (gf w)) }).get? i.objs.size=some { cls:=.type "set",dict:=none,data:=.set #[] 0 (.fresh 0 0 (gf w)) }:=Fg _ rfl
  have ty:(⟨i.push { cls:=.type "set",dict:=none,data:=.set #[] 0 (.fresh 0 0 (gf w)) },g,d,tk,os⟩:Shared).TypeIs (.ref i.objs.size) "set":=⟨_,got,rfl⟩
  have p:(i.push { cls:=.type "set",dict:=none,data:=.set #[] 0 (.fresh 0 0 (gf w)) }).IsTuple l items:=q.push _
  refine E3 (wpAny_isInstance ty sub_set_self (wpAny_ite_false rfl ?_))
  refine E3 (E5 (wpAny_callSpecial?_slot ty F.called_set.init (wpAny_call (codeAny_call_builtin F.called_set.init.plain F.entry_set_init (check_set_init_1 ty ?_)))))
  obtain ⟨⟨c2,J,H,s2⟩,h2,r,G,u⟩:=id p
  simp only at r u
  subst r u
  have B:=F.sub_tuple_set
  have y:=F.sub_tuple_frozenset
  wp_walk using wpAny_pyIter_tuple p
  have lt:l < i.objs.size:=by obtain ⟨_,e,_⟩:=q;exact Fe e
  refine wN (l:=l) (items:=items) (by simpa using D) (by rw [FL];exact Nat.ne_of_gt (Nat.lt_succ_self _)) (Fs lt) (by rw [FL];exact Fs (Nat.lt_succ_of_lt lt)) items.size 0 _ [] ns (by lia) ⟨_,Fg _ rfl,rfl,rfl⟩ (p.push _) (by simpa using hi) ⟨_,#[],0,_,[],E8 _ got,⟨rfl,rfl,rfl⟩,rfl,(fun e he=>by simp at he),.nil,List.Perm.refl _,by decide,rfl,⟨List.Pairwise.nil,rfl⟩⟩ (by have:=hi.length;simp at this;simp;lia) fun h' n S k=>?_
  wp_walk
  exact h h' n S fun b o e=>k b o (fun z=>by subst z;exact absurd (Fe e) (Nat.lt_irrefl _)) (fun z=>by have a:=Fe e;rw [z,FL] at a;exact absurd a (Nat.not_lt.mpr (Nat.le_succ _))) (E8 _ (E8 _ e))
 | _=>exact m.elim
end
end L2
end
section
namespace L2
open PySem PyProof.Rows
theorem AS (f:Nat->Nat):∀ (n k:Nat) (left:List α) (out:Array α),left.length<=n->(pickOrder.go f n k left out).toList.Perm (out.toList ++ left):=by
 intro n
 induction n with
 | zero =>
  intro k left out h
  obtain rfl:left=[]:=FT.mp (by lia)
  simp [pickOrder.go]
 | succ n ih =>
  intro k left out h
  unfold pickOrder.go
  cases e:left[f k % left.length]? with
  | none =>
   have d:left.length<=f k % left.length:=List.getElem?_eq_none_iff.mp e
   have z:left.length=0:=by
    rcases Nat.eq_zero_or_pos left.length with z | z
    ·exact z
    ·have:=Nat.mod_lt (f k) z;lia
   obtain rfl:left=[]:=FT.mp z
   simp
  | some x =>
   have b:f k % left.length < left.length:=(Fi.mp e).1
   dsimp only
   refine (ih _ _ _ (by rw [List.length_eraseIdx];split <;> lia)).trans ?_
   rw [Array.toList_push,List.append_assoc]
   refine List.Perm.append_left _ ?_
   rw [List.eraseIdx_eq_take_drop_succ]
   have c:left=left.take (f k % left.length) ++ x :: left.drop (f k % left.length+1):=by
    rw [<- (Fi.mp e).2,<- List.drop_eq_getElem_cons b,List.take_append_drop]
   have p:=(List.perm_middle (a:=x) (l₁:=left.take (f k % left.length)) (l₂:=left.drop (f k % left.length+1))).symm
   rw [<- c] at p
   exact p
theorem uX (f:Nat->Nat) (xs:Array α):(pickOrder f xs).toList.Perm xs.toList:=by
 have:=AS f xs.size 0 xs.toList #[] (by simp)
 simpa [pickOrder] using this
section
variable {prog:Program} {w:World} {A:Around} {E:Value->Shared->Prop}
theorem m9:∀ (n:Nat) (xs:List α) (s:Shared) {Q:List α->Shared->Prop},xs.length<=n->(∀ ys d',ys.Perm xs->Q ys { s with drawn:=d' })->wpAny (model prog w) A (drawOrder n xs) Q E s
 | 0,xs,s,Q,h,hQ=>by
  obtain rfl:xs=[]:=FT.mp (by lia)
  exact E4 (hQ [] s.drawn (List.Perm.refl _))
 | n+1,[],s,Q,h,hQ=>E4 (hQ [] s.drawn (List.Perm.refl _))
 | n+1,x :: xs,s,Q,h,hQ=>by
  unfold drawOrder
  refine E3 (fun Γ p hΓ=>?_)
  show Sem.wp _ _ (Sem.choose _ _ Sem.pure) _ _ _ _
  rw [Sem.wp_choose]
  refine ⟨by simp,?_⟩
  generalize hi:(model prog w).w.draws .order (s.drawn.get .order) % (x :: xs).length=i
  have lt:i < (x :: xs).length:=by rw [<- hi];exact Nat.mod_lt _ (by simp)
  refine (show wpAny (model prog w) A (pure i) _ E { s with drawn:=s.drawn.bump .order } from E4 ?_) Γ p hΓ
  obtain ⟨y,a⟩:∃ y,(x :: xs)[i]?=some y:=⟨_,Fd lt⟩
  rw [a]
  dsimp only
  refine E3 (m9 n ((x :: xs).eraseIdx i) _ (by rw [List.length_eraseIdx,if_pos lt];simp at h ⊢;lia) fun ys d' b=>?_)
  refine E4 (hQ (y :: ys) d' ?_)
  refine (b.cons y).trans ?_
  rw [List.eraseIdx_eq_take_drop_succ]
  have c:x :: xs=(x :: xs).take i ++ y :: (x :: xs).drop (i+1):=by
   rw [<- (Fi.mp a).2,<- List.drop_eq_getElem_cons lt,List.take_append_drop]
  exact (List.perm_middle.symm).trans (by rw [<- c])
end
theorem slot_next:Slot "set_iterator" "__next__" "set_iterator.__next__" :=
 .of (owner:="set_iterator") (n:="__next__") (by rw [typeLookup_type,builtinLookup_eq_fast];kernel_rfl) (by decide +kernel) (by decide +kernel) (by decide +kernel) (by first | exact .inl (by decide +kernel) | exact .inr (by decide +kernel)) (by rw [isSubtype_type];kernel_rfl)
theorem lC:entryFor table "set_iterator.__next__"=some Builtin.«set_iterator.__next__»:=entryFor_of_tree (by kernel_rfl)
theorem xS:Manifest.owners.lookup (String.ofList (['r','o','t','a','r','e','t','i','_','t','e','s']:List Char).reverse)=some Manifest.sig_set_iterator:=by kernel_rfl
theorem nq (a:Value):argsOk "set_iterator.__next__" ⟨[a],[]⟩:=by
 unfold argsOk
 rw [signature?_of (id:="set_iterator.__next__") (n:=['_','_','t','x','e','n','_','_']) (o:=['r','o','t','a','r','e','t','i','_','t','e','s']) (by kernel_rfl) xS]
 kernel_rfl
theorem rV:entryFor table "set.__iter__"=some Builtin.«frozenset.__iter__»:=entryFor_alias (id':="frozenset.__iter__") (by kernel_rfl) rfl (by decide +kernel) (by kernel_rfl)
def SIt (w : World) (h : Heap) (I a : Addr) (es : Array (Int × Value)) (b : Nat) (t : SetTable) (ord : List Value) (i : Nat) : Prop :=
  ∃ first, h.get? I = some { cls := .type "set_iterator", dict := none, data := .fields #[first, rawInt i, .ref a, rawInt es.size, rawInt b], slots := #[] } /\
    ((w.params.followText "set-order" = true /\ first = rawInt 0 /\ ord = (pickOrder (w.params.setOrder a b) es).toList.map (·.2)) \/
     (w.params.followText "set-order" = false /\ (!t.plain && es.size > 1) = false /\ (∃ k : Nat, first = rawInt k /\ SetTable.below t.place k = i) /\ ord = es.toList.map (·.2)) \/
     (∃ (T : Addr) (ps : List Nat), first = .ref T /\ T ≠ I /\ h.get? T = some { cls := .type "tuple", data := .seq (ps.map fun (p : Nat) => rawInt p).toArray } /\ ps.Perm (List.range es.size) /\ ord = ps.filterMap fun p => es[p]?.map (·.2)))
structure SAt (w:World) (h:Heap) (a:Addr) (es:Array (Int × Value)) (ep:Nat) (t:SetTable):Prop where
 at':∃ o,h.get? a=some o/\o.data=.set es ep t
 fits:t.fits es.size=true
 tab:Tab (gf w) t
section
variable {prog:Program} {w:World} {A:Around} {E:Value->Shared->Prop} {s:Shared}
theorem wM {c:Nat} {i:Nat} (M:SIt w s.heap I a es c t ord i) (H:SAt w s.heap a es c t) (d:ord[i]?=some v) (u:∀ h',SIt w h' I a es c t ord (i+1)->Heap.SameBut I s.heap h'->Q (some v) { s with heap:=h' }):wpAny (model prog w) A (pyNext (.ref I)) Q E s:=by
 obtain ⟨⟨o,f,hd⟩,hf,D⟩:=H
 obtain ⟨first,g1,m⟩:=M
 obtain ⟨z,g,G,tk,os⟩:=s
 have ty:(⟨z,g,G,tk,os⟩:Shared).TypeIs (.ref I) "set_iterator":=⟨_,g1,rfl⟩
 have led:=D.led
 unfold pyNext
 refine E3 (wpAny_attempt (wpAny_callSpecial?_slot ty slot_next (wpAny_call_entry slot_next ty lC ?_ (nq _))))
 rcases m with ⟨l,rfl,b⟩ | ⟨l,nd,⟨k,rfl,bk⟩,b⟩ | ⟨T,ps,rfl,B,gT,pp,b⟩
 ·have F:(model prog w).w.params.followText "set-order"=true:=l
  have n:(pickOrder (w.params.setOrder a c) es)[i]?.map (·.2)=some v:=by rw [<- d,b];simp
  obtain ⟨x,K,ex⟩:=E9.mp n
  have at2:Option.map (fun e:Int × Value=>(e.2,Int.toNat 0)) (pickOrder (({ program:=(model prog w).prog,params:=(model prog w).w.params }:Setting).params.setOrder a c) es)[(i:Int).toNat]?=some (v,0):=by
   refine (show Option.map _ (pickOrder (w.params.setOrder a c) es)[(i:Int).toNat]?=_ from ?_)
   rw [Int.toNat_natCast,K,<- ex];rfl
  wp_walk using wpAny_setState_of f hd hf,wpAny_askSetting
  rw [at2]
  wp_walk
  exact ⟨_,rfl,E4 (u _ ⟨rawInt 0,FA _ (FA _ g1 rfl) rfl,.inl ⟨l,rfl,b⟩⟩ ((Heap.SameBut.update ..).trans (Heap.SameBut.update ..)))⟩
 ·have F:(model prog w).w.params.followText "set-order"=false:=l
  have C:t.led=true:=by rw [led];simp [gf,l]
  have lt:i < es.size:=by
   have:=(Fi.mp d).1
   rw [b] at this
   simpa using this
  have P:t.place.size=es.size:=by
   unfold SetTable.fits at hf
   rw [Bool.and_eq_true] at hf
   exact eq_of_beq hf.1
  have ev:es[i].2=v:=by
   rw [b,Fp,Array.getElem?_toList,Array.getElem?_eq_getElem lt] at d
   simpa using d
  have h:SetTable.below t.place (k:Int).toNat=i:=bk
  wp_walk using wpAny_setState_of f hd hf,wpAny_askSetting
  refine wpAny_ite_false (show decide ((!t.plain && decide (es.size > 1))=true)=false by rw [nd];rfl) ?_
  wp_walk
  rw [h,Array.getElem?_eq_getElem lt,Array.getElem?_eq_getElem (show i < t.place.size by lia)]
  wp_walk
  subst ev
  exact ⟨_,rfl,E4 (u _ ⟨rawInt (t.place[i]+1:Nat),FA _ (FA _ g1 rfl) rfl,.inr (.inl ⟨l,nd,⟨_,rfl,sD D.up (by lia)⟩,b⟩)⟩ ((Heap.SameBut.update ..).trans (Heap.SameBut.update ..)))⟩
 ·obtain ⟨p,x,y,r,ev⟩:∃ p x,ps[i]?=some p/\es[p]?=some x/\x.2=v:=by
   have all:∀ (l:List Nat),(∀ p ∈ l,p < es.size)->∀ i:Nat,(l.filterMap fun p=>es[p]?.map fun x:Int × Value=>x.2)[i]?=l[i]?.bind fun p=>es[p]?.map fun x:Int × Value=>x.2:=by
    intro l
    induction l with
    | nil=>intro _ i;simp
    | cons p l ih =>
     intro j i
     rw [List.filterMap_cons,Array.getElem?_eq_getElem (j p E6)]
     cases i with
     | zero=>simp [Array.getElem?_eq_getElem (j p E6)]
     | succ i=>simpa using ih (fun q L=>j q (E7 _ L)) i
   rw [b,all ps (fun p z=>List.mem_range.mp (pp.mem_iff.mp z))] at d
   obtain ⟨p,e1,J⟩:=FF.mp d
   obtain ⟨x,N,O⟩:=E9.mp J
   exact ⟨p,x,e1,N,O⟩
  wp_walk using wpAny_setState_of f hd hf,wpAny_askSetting
  rw [show (List.map (fun p:Nat=>rawInt p) ps).toArray[(i:Int).toNat]?=some (rawInt p) by simp [y]]
  wp_walk using wpAny_setState_of f hd hf,wpAny_askSetting
  rw [show es[(p:Int).toNat]?=some x from r]
  wp_walk
  subst ev
  exact ⟨_,rfl,E4 (u _ ⟨.ref T,FA _ g1 rfl,.inr (.inr ⟨T,ps,rfl,B,(Heap.SameBut.update ..).extBut _ _ B gT,pp,b⟩)⟩ (Heap.SameBut.update ..))⟩
theorem Ac {h:Nat} {i:Nat} (G:A.handled=none) (F:SIt w s.heap I a es h t ord i) (D:SAt w s.heap a es h t) (d:ord.length<=i) (n:∀ h',Heap.ExtBut I s.heap h'->Q none { s with heap:=h' }):wpAny (model prog w) A (pyNext (.ref I)) Q E s:=by
 obtain ⟨⟨o,u,hd⟩,hf,H⟩:=D
 obtain ⟨first,g1,m⟩:=F
 obtain ⟨r,g,C,tk,os⟩:=s
 have ty:(⟨r,g,C,tk,os⟩:Shared).TypeIs (.ref I) "set_iterator":=⟨_,g1,rfl⟩
 have led:=H.led
 have c:A.in1.handled=none:=G
 unfold pyNext
 refine E3 (wpAny_attempt (wpAny_callSpecial?_slot ty slot_next (wpAny_call_entry slot_next ty lC ?_ (nq _))))
 rcases m with ⟨l,rfl,f⟩ | ⟨l,nd,⟨k,rfl,bk⟩,f⟩ | ⟨T,ps,rfl,K,gT,pp,f⟩
 ·have B:(model prog w).w.params.followText "set-order"=true:=l
  have at2:Option.map (fun e:Int × Value=>(e.2,Int.toNat 0)) (pickOrder (({ program:=(model prog w).prog,params:=(model prog w).w.params }:Setting).params.setOrder a h) es)[(i:Int).toNat]?=none:=by
   refine (show Option.map _ (pickOrder (w.params.setOrder a h) es)[(i:Int).toNat]?=_ from ?_)
   rw [Int.toNat_natCast,Array.getElem?_eq_none (by rw [f] at d;simpa using d)];rfl
  wp_walk using wpAny_setState_of u hd hf,wpAny_askSetting
  rw [at2]
  wp_walk
  refine wpAny_raiseNew_none c ?_
  refine E3 (wpAny_isInstance (v:=.ref _) (T:="StopIteration") (b:=true) ?_ isSubtype_stop ?_)
  ·exact ⟨_,Fg _ rfl,rfl⟩
  ·exact E4 (n _ (((Heap.SameBut.update ..).extBut.push _).push _))
 ·have B:(model prog w).w.params.followText "set-order"=false:=l
  have z:t.led=true:=by rw [led];simp [gf,l]
  have ge:es.size<=i:=by rw [f] at d;simpa using d
  have j:SetTable.below t.place (k:Int).toNat=i:=bk
  wp_walk using wpAny_setState_of u hd hf,wpAny_askSetting
  refine wpAny_ite_false (show decide ((!t.plain && decide (es.size > 1))=true)=false by rw [nd];rfl) ?_
  wp_walk
  rw [j,Array.getElem?_eq_none ge]
  wp_walk
  refine wpAny_raiseNew_none c ?_
  refine E3 (wpAny_isInstance (v:=.ref _) (T:="StopIteration") (b:=true) ?_ isSubtype_stop ?_)
  ·exact ⟨_,Fg _ rfl,rfl⟩
  ·exact E4 (n _ (((Heap.SameBut.update ..).extBut.push _).push _))
 ·have len:∀ (l:List Nat),(∀ p ∈ l,p < es.size)->(l.filterMap fun p=>es[p]?.map fun x:Int × Value=>x.2).length=l.length:=by
   intro l
   induction l with
   | nil=>intro _;rfl
   | cons p l ih =>
    intro y
    rw [List.filterMap_cons,Array.getElem?_eq_getElem (y p E6)]
    simpa using ih fun q J=>y q (E7 _ J)
  rw [f,len ps fun p r=>List.mem_range.mp (pp.mem_iff.mp r)] at d
  wp_walk using wpAny_setState_of u hd hf,wpAny_askSetting
  rw [show (List.map (fun p:Nat=>rawInt p) ps).toArray[(i:Int).toNat]?=none by simpa using d]
  wp_walk
  refine wpAny_raiseNew_none c ?_
  refine E3 (wpAny_isInstance (v:=.ref _) (T:="StopIteration") (b:=true) ?_ isSubtype_stop ?_)
  ·exact ⟨_,Fg _ rfl,rfl⟩
  ·exact E4 (n _ ((((Heap.SameBut.update ..).trans (Heap.SameBut.update ..)).extBut.push _).push _))
end
end L2
end
section
namespace L2
open PySem PyProof.Rows
section
variable {prog:Program} {w:World} {A:Around} {E:Value->Shared->Prop} {s:Shared}
theorem wP {f:Nat} (m:SAt w s.heap a es f t) (d:s.TypeIs (.ref a) "set") (hz:es.size<=sizeLine) (i:∀ h' I d' ord,s.heap.objs.size<=I->ord.Perm (es.toList.map (·.2))->SIt w h' I a es f t ord 0->(∀ b o,s.heap.get? b=some o->h'.get? b=some o)->Q (.ref I) { s with heap:=h',drawn:=d' }) :
  wpAny (model prog w) A (pyIter (.ref a)) Q E s:=by
 obtain ⟨⟨o,c,hd⟩,hf,n⟩:=m
 obtain ⟨h,g,j,tk,os⟩:=s
 refine wpAny_pyIter_slot d F.slot_set_iter (wpAny_call_entry F.slot_set_iter d rV ?_ (F.args_set_iter_1 _))
 cases l:w.params.followText "set-order" with
 | true =>
  have k:(model prog w).w.params.followText "set-order"=true:=l
  wp_walk using wpAny_setState_of c hd hf,wpAny_askSetting
  exact ⟨_,rfl,"set_iterator",_,⟨_,Fg _ rfl,rfl⟩,slot_next.lookup,i _ h.objs.size j _ (Fq _) ((uX (w.params.setOrder a f) es).map _) ⟨rawInt 0,Fg _ rfl,.inl ⟨l,rfl,rfl⟩⟩ fun b o e=>E8 _ e⟩
 | false =>
  have k:(model prog w).w.params.followText "set-order"=false:=l
  cases nd:(!t.plain && decide (es.size > 1)) with
  | false =>
   wp_walk using wpAny_setState_of c hd hf,wpAny_askSetting
   refine wpAny_ite_false (show decide ((!w.params.followText "set-order" && (!t.plain && decide (es.size > 1)))=true)=false by rw [l,nd];rfl) ?_
   wp_walk using wpAny_setState_of c hd hf,wpAny_askSetting
   exact ⟨_,rfl,"set_iterator",_,⟨_,Fg _ rfl,rfl⟩,slot_next.lookup,i _ h.objs.size j _ (Fq _) (List.Perm.refl _) ⟨rawInt 0,Fg _ rfl,.inr (.inl ⟨l,nd,⟨0,rfl,sC n.up⟩,rfl⟩)⟩ fun b o e=>E8 _ e⟩
  | true =>
   wp_walk using wpAny_setState_of c hd hf,wpAny_askSetting
   refine wpAny_ite_true (show decide ((!w.params.followText "set-order" && (!t.plain && decide (es.size > 1)))=true)=true by rw [l,nd];rfl) ?_
   refine E3 (m9 _ _ _ (by simp) fun ys d' pp=>?_)
   have q:ys.length=es.size:=by have:=pp.length_eq;simpa using this
   refine E3 (wpAny_newTuple ?_ (by simp;lia))
   refine E3 (E3 (wpAny_setState_of (E8 _ c) hd hf (E4 ?_)))
   wp_walk
   have pm:(ys.filterMap fun p=>es[p]?.map fun x:Int × Value=>x.2).Perm (es.toList.map (·.2)):=by
    refine (pp.filterMap _).trans ?_
    rw [<- filterMap_getElem?_range es,List.map_filterMap]
   refine ⟨_,rfl,"set_iterator",_,⟨_,Fg _ rfl,rfl⟩,slot_next.lookup,i _ _ d' _ ?_ pm ⟨.ref h.objs.size,Fg _ rfl,.inr (.inr ⟨_,ys,rfl,?_,E8 _ (Fg _ rfl),pp,rfl⟩)⟩ fun b o e=>E8 _ (E8 _ e)⟩
   ·rw [FL];exact Nat.le_succ _
   ·rw [FL];exact Fs (Nat.lt_succ_self _)
theorem SAt.keep {b:Nat} (x:SAt w h a es b t) (k:∀ o,h.get? a=some o->h'.get? a=some o):SAt w h' a es b t :=
 let ⟨⟨o,e,d⟩,f,t⟩:=x;⟨⟨o,k o e,d⟩,f,t⟩
theorem SIt.keep {d:Nat} {i:Nat} (x:SIt w h I a es d t ord i) (j:I ≠ S) (l:∀ T ps,h.get? T=some { cls:=.type "tuple",data:=.seq ps }->T ≠ S) (k:∀ b o,b ≠ S->h.get? b=some o->h'.get? b=some o):SIt w h' I a es d t ord i:=by
 obtain ⟨f,g,m⟩:=x
 refine ⟨f,k _ _ j g,?_⟩
 rcases m with m | m | ⟨T,ps,e1,e,c,n⟩
 ·exact .inl m
 ·exact .inr (.inl m)
 ·exact .inr (.inr ⟨T,ps,e1,e,k _ _ (l _ _ c) c,n⟩)
theorem BL (y:A.handled=none) (D:a ≠ I) (g:S ≠ I) (u:S ≠ a) {p:Nat} (hz:ord.length<=sizeLine) (res:Value) :
  ∀ (k i:Nat) (s:Shared) (c:Nat),ord.length - i=k->i<=ord.length->SIt w s.heap I a es p t ord i->SAt w s.heap a es p t ->
  s.heap.get? S=some { cls:=.type "list",dict:=none,data:=.seq (ord.take i).toArray c,slots:=#[] } ->
  (∀ h' B tk,h'.get? S=some { cls:=.type "list",dict:=none,data:=.seq ord.toArray B,slots:=#[] }->(∀ b o,b ≠ I->b ≠ S->s.heap.get? b=some o->h'.get? b=some o)->R (.ok (.ret res)) { s with heap:=h',toks:=tk }) ->
  codeAny (model prog w) A (.builtin "list.extend.loop" ⟨[.ref S,.ref I,res],[]⟩) R s:=by
 intro k
 induction k with
 | zero =>
  intro i s c x hi hit hm f fin
  obtain rfl:i=ord.length:=by lia
  refine codeAny_builtin F.entry_extend_loop ?_
  rw [Around.under_plainId F.plain_extend_loop _]
  refine E3 (Ac (s:=s) (show A.in1.handled=none from y) hit hm (Fq _) fun h' q=>?_)
  rw [List.take_length] at f
  exact E4 (fin h' c s.toks (q S _ g f) fun b o d _ e=>q b o d e)
 | succ k ih =>
  intro i s c x hi hit hm f fin
  have lt:i < ord.length:=by lia
  refine codeAny_builtin F.entry_extend_loop ?_
  rw [Around.under_plainId F.plain_extend_loop _]
  refine E3 (wM (s:=s) (v:=ord[i]) hit hm (Fd lt) fun h1 l s1=>?_)
  have h:=s1.extBut _ _ g f
  refine E3 (wpAny_updateSeq h rfl (E4 ⟨plainId_quiet F.plain_extend_loop _,?_⟩) (by simp;lia) (by simp;lia))
  obtain ⟨c2,r⟩:∃ c2,(h1.update S (Obj.mapSeq (·.push ord[i]))).get? S=some (seqObj "list" ((ord.take i).toArray.push ord[i]) c2):=⟨_,get?_update_seq h (·.push ord[i])⟩
  have up:∀ b o,b ≠ S->h1.get? b=some o->(h1.update S (Obj.mapSeq (·.push ord[i]))).get? b=some o:=fun b o n e=>(Heap.SameBut.update ..).extBut _ _ n e
  have tk:(ord.take i).toArray.push ord[i]=(ord.take (i+1)).toArray:=by
   rw [List.take_add_one,Fd lt]
   simp
  rw [tk] at r
  refine ih (i+1) { s with heap:=h1.update S (Obj.mapSeq (·.push ord[i])) } c2 (by lia) lt (l.keep (S:=S) (Ne.symm g) (fun T ps e z=>by subst z;rw [h] at e;simp at e) up) ((hm.keep fun o e=>s1.extBut _ _ D e).keep fun o e=>up _ _ (Ne.symm u) e) r fun h3 C j g3 k3=>?_
  exact fin h3 C j g3 fun b o d m e=>k3 b o d m (up _ _ m (s1.extBut _ _ d e))
theorem yS (ty:s.TypeIs (.ref d) "set") (h:Q false s):wpAny (model prog w) A (Builtin.List.listLengthHint (.ref d)) Q E s:=by
 unfold Builtin.List.listLengthHint
 refine E3 (wpAny_specialOf ty F.slot_set_len.lookup ?_)
 have cut:splitId "set.__len__"=some ("set","__len__"):=by kernel_rfl
 dsimp only
 simp only [cut]
 refine E3 (wpAny_isInstance ty (b:=true) sub_set_self (wpAny_ite_false rfl ?_))
 rw [if_pos (by kernel_rfl)]
 exact E3 (wpAny_typeOf ty (E4 h))
theorem ql {q:Nat} (V:A.handled=none) (B:SAt w s.heap a es q t) (ty:s.TypeIs (.ref a) "set") (hz:es.size<=sizeLine) (h:∀ h' d' tk ord,ord.Perm (es.toList.map (·.2))->s.heap.objs.size<=h'.objs.size->(∀ b o,s.heap.get? b=some o->h'.get? b=some o)->Q ord { s with heap:=h',drawn:=d',toks:=tk }):wpAny (model prog w) A (collect (.ref a)) Q E s:=by
 have lt:a < s.heap.objs.size:=by obtain ⟨⟨o,e,_⟩,_⟩:=B;exact Fe e
 obtain ⟨d,g,l,tk,os⟩:=s
 unfold collect
 refine E3 (wpAny_runValue (codeAny_builtin F.entry_proto_collect ?_))
 rw [Around.under_plainId F.plain_proto_collect _]
 refine E3 (wpAny_newObj_type (E4 ⟨plainId_quiet F.plain_list_iadd _,codeAny_builtin F.entry_list_iadd ?_⟩))
 rw [Around.under_plainId F.plain_list_iadd _]
 have K:(d.push { cls:=.type "list",data:=.seq ([]:List Value).toArray }).get? d.objs.size=some { cls:=.type "list",data:=.seq ([]:List Value).toArray }:=Fg _ rfl
 have a1:SAt w (d.push { cls:=.type "list",data:=.seq ([]:List Value).toArray }) a es q t:=B.keep fun o e=>E8 _ e
 have f:(⟨d.push { cls:=.type "list",data:=.seq ([]:List Value).toArray },g,l,tk,os⟩:Shared).TypeIs (.ref a) "set":=let ⟨o,e,c⟩:=ty;⟨o,E8 _ e,c⟩
 have W:(d.push { cls:=.type "list",data:=.seq ([]:List Value).toArray }).objs.size=d.objs.size+1:=FL ..
 have U:∀ b o,d.get? b=some o->(d.push { cls:=.type "list",data:=.seq ([]:List Value).toArray }).get? b=some o:=fun b o e=>E8 _ e
 refine (show wpAny _ A.in1 (Builtin.List.listExtendWith (.ref d.objs.size) (.ref a) (.ref d.objs.size)) _ _ ⟨d.push { cls:=.type "list",data:=.seq ([]:List Value).toArray },g,l,tk,os⟩ from ?_)
 generalize d.push { cls:=.type "list",data:=.seq ([]:List Value).toArray }=H1 at *
 unfold Builtin.List.listExtendWith
 refine E3 (wpAny_typeOf f ?_)
 rw [if_neg (by
  have e1:Builtin.List.listSameRef (.ref d.objs.size) (.ref a)=false:=beq_false_of_ne (Nat.ne_of_gt lt)
  have N:(Value.type "set" == Value.type "list")=false:=by decide
  have P:(Value.type "set" == Value.type "tuple")=false:=by decide
  rw [e1,N,P]
  decide)]
 refine E3 (wP (s:=⟨H1,g,l,tk,os⟩) a1 f hz fun h2 I k ord j pm r k2=>?_)
 have v:(⟨h2,g,k,tk,os⟩:Shared).TypeIs (.ref a) "set":=let ⟨o,e,c⟩:=f;⟨o,k2 _ _ e,c⟩
 refine E3 (E5 (yS v ?_))
 have j:H1.objs.size<=I:=j
 rw [W] at j
 have D:d.objs.size ≠ I:=Fs j
 have M:a ≠ I:=Fs (Nat.lt_trans lt j)
 have ol:ord.length=es.size:=by have:=pm.length_eq;simpa using this
 have x:h2.get? d.objs.size=some (seqObj "list" #[] 0):=k2 _ _ K
 have a2:SAt w h2 a es q t:=a1.keep fun o e=>k2 _ _ e
 refine wpAny_ite_true (by kernel_rfl) ?_
 refine E3 (wpAny_rule ?_)
 refine E3 (E3 (listUpdate_at (s:=⟨h2,g,k,tk,os⟩) x rfl ?_))
 obtain ⟨J,H⟩:∃ J,(h2.update d.objs.size (Obj.mapSeq (·.push Value.none))).get? d.objs.size=some (seqObj "list" (#[].push Value.none) J):=⟨_,get?_update_seq x (·.push Value.none)⟩
 refine listUpdate_at (s:=⟨h2.update d.objs.size (Obj.mapSeq (·.push Value.none)),g,k,tk,os⟩) H rfl ?_
 obtain ⟨u,C⟩:∃ u,((h2.update d.objs.size (Obj.mapSeq (·.push Value.none))).update d.objs.size (Obj.mapSeq (·.pop))).get? d.objs.size=some (seqObj "list" (#[].push Value.none).pop u):=⟨_,get?_update_seq H (·.pop)⟩
 have i:∀ b o,b ≠ d.objs.size->h2.get? b=some o->((h2.update d.objs.size (Obj.mapSeq (·.push Value.none))).update d.objs.size (Obj.mapSeq (·.pop))).get? b=some o:=fun b o n e=>(Heap.SameBut.update ..).extBut _ _ n ((Heap.SameBut.update ..).extBut _ _ n e)
 have m:=r.keep (S:=d.objs.size) (Ne.symm D) (fun T ps e z=>by subst z;rw [x] at e;simp [seqObj] at e) i
 have R:=a2.keep fun o e=>i _ _ (Fs lt) e
 have O:d.objs.size < ((h2.update d.objs.size (Obj.mapSeq (·.push Value.none))).update d.objs.size (Obj.mapSeq (·.pop))).objs.size:=Fe C
 generalize ((h2.update d.objs.size (Obj.mapSeq (·.push Value.none))).update d.objs.size (Obj.mapSeq (·.pop)))=H4 at *
 refine E4 ⟨plainId_quiet F.plain_extend_loop _,BL (ord:=ord) V M D (Nat.ne_of_gt lt) (by lia) _ ord.length 0 ⟨H4,g,k,tk,os⟩ u (by lia) (Nat.zero_le _) m R (by simpa [seqObj] using C) fun X Y y G L=>?_⟩
 refine E3 (wpAny_load G ?_)
 refine E4 ?_
 have e:ord.toArray.toList=ord:=by simp
 refine e.symm ▸ h X k y ord pm ?_ fun b o e=>?_
 ·exact Nat.le_of_lt (Fe G)
 ·have p:=Fe e
  exact L b o (Fs (Nat.lt_trans p j)) (Fs p) (i _ _ (Fs p) (k2 _ _ (U _ _ e)))
end
end L2
end
section
namespace L2
open PySem PySem.Spec PyProof.Rows
section
variable {X:Cx}
abbrev Ad (X:Cx) (p:Addr) (ns:List Int):HO:=.ext fun h=>SetL X.prog X.w h p ns
theorem Inv.drew (I:Inv X pins σ H s):Inv X pins σ H { s with drawn:=d } :=
 ⟨I.ok,I.os,I.bare,I.base,I.loc,I.cell,I.free,I.freeC,I.pin,I.hok,I.len⟩
def rSet (X:Cx):List V->Hp->VK->Prop:=fun xs H Q=>∃ (l:Addr) (ns:List Int),xs=[.ref l]/\SqT X.K H l (ns.map V.int)/\ns.length < 64/\∀ p,H p=none->Q (.ref p) (upd H p (Ad X p (ns.foldl met [])))
theorem vL (g:X.calm=true):CallR X (.type "set") (rSet X):=by
 intro pins s σ H xs us Q I b h
 obtain ⟨l,ns,rfl,f,c,q⟩:=h
 obtain ⟨u,rfl,d⟩:=bR b
 cases (show u=Value.ref l from d)
 obtain ⟨its,r,p,hz⟩:=I.tuple f
 have hlen:=r.length
 refine oj (I.ok.hd g) (show s.heap.IsTuple l its.toArray from p) (by simpa using iE r) (by simp at hlen ⊢;unfold scanBound;lia) fun h' tk S k=>?_
 exact ⟨.ref s.heap.objs.size,_,I.laid (a:=s.heap.objs.size) (o:=Ad X s.heap.objs.size (ns.foldl met [])) (t':=tk) k (Fq _) ⟨S,(let ⟨o,_,_,_,_,e,_⟩:=S;⟨o,e⟩),fun h1 h2 x k=>x.keep k⟩,rfl,q _ (I.hok.fresh (Fq _))⟩
def xy (X:Cx):List V->Hp->VK->Prop:=fun xs H Q=>∃ (p:Addr) (ns:List Int),xs=[.ref p]/\H p=some (Ad X p ns)/\ns.length < 64/\∀ q,H q=none->∀ a:List Int,a.Perm ns->a.Pairwise (·<=·)->Q (.ref q) (upd H q (.lst (a.map V.int)))
theorem sd (y:X.calm=true):CallR X (.builtin "sorted") (xy X):=by
 intro pins s σ H xs us Q I B h
 obtain ⟨p,ns,rfl,C,i,q⟩:=h
 obtain ⟨u,rfl,x⟩:=bR B
 cases (show u=Value.ref p from x)
 obtain ⟨S,_,_⟩:=I.hok p _ C
 have ty:=S.typeIs (s:=s)
 obtain ⟨o,es,J,t,ms,F,hex,hd,w,hi,pm,r,hf,G⟩:=S
 have E:=I.ok.hd y
 have sz:es.size<=sizeLine:=fits_of_scanBound r
 refine Calls.call_function_entry kind_sorted plain_sorted entry_sorted (args_sorted1 _) (E3 (E4 (E3 (ql (show X.A.in1.handled=none from E) ⟨⟨o,F,hd⟩,hf,G⟩ ty sz fun h1 d1 l ord po j D=>?_))))
 obtain ⟨ks,f⟩:∃ ks,IntsAre ord ks:=by
  have:∀ v ∈ ord,∃ n t,v=Value.int n t:=fun v k=>by
   have:=po.mem_iff.mp k
   exact hi.all v this
  clear po
  induction ord with
  | nil=>exact ⟨[],.nil⟩
  | cons v ord ih =>
   obtain ⟨n,t,rfl⟩:=this v E6
   obtain ⟨ks,h⟩:=ih fun v k=>this v (E7 _ k)
   exact ⟨n :: ks,.cons n t h⟩
 have pk:ks.Perm ns:=(jC po f hi).trans pm
 have ol:ord.length < 64:=by rw [f.length,pk.length_eq];exact i
 refine E3 (wpAny_newList ?_)
 have got:(h1.push (seqObj "list" ord.toArray 0)).get? h1.objs.size=some (seqObj "list" ord.toArray 0):=Fg _ rfl
 refine E3 (E5 (wpAny_call_entry slot_list_sort ⟨_,got,rfl⟩ entry_list_sort (list_sort_tree got f ol fun out g a b c=>⟨_,rfl,E4 ⟨_,rfl,?_⟩⟩) (args_list_sort _)))
 obtain ⟨e,he⟩:=sortedHeap_at (out:=out) got
 have nl:g.length < 64:=by rw [b.length_eq,pk.length_eq];exact i
 have keep:∀ (b:Addr) (u:Obj),s.heap.get? b=some u->(sortedHeap (h1.push (seqObj "list" ord.toArray 0)) h1.objs.size ord out).get? b=some u:=fun b u z=>by
  have m:=Fe z
  rw [sortedHeap_old (Fs (Fy m j)) (by rw [FL];exact Nat.lt_succ_of_lt (Fy m j))]
  exact E8 _ (D _ _ z)
 refine ⟨.ref h1.objs.size,_,(I.drew (d:=d1)).laid (a:=h1.objs.size) (o:=.lst (g.map V.int)) (t':=l) keep j ⟨?_,out.toList,e,iJ a,by rw [he]⟩,rfl,q _ (I.hok.fresh j) g (b.trans pk) c⟩
 rw [Fh]
 have:64<=sizeLine:=by decide
 lia
end
end L2
end
section
namespace L2
open PySem PySem.Spec PyProof.Rows
end L2
end
section
namespace L2
open PySem PySem.Spec PyProof.Rows
def qF (l:Array Value):Obj:=seqObj "tuple" l 0
def ev (cmp:Nat->Nat->Option Bool) {α:Type} (m:Sem α):Option Addr->Option (α × Option Addr):=by
 induction m with
 | pure a=>exact fun p=>some (a,p)
 | rule _ k ih=>exact ih ()
 | load b _ k ih=>exact fun p=>match p with
  | none=>ih (qF #[]) (some b)
  | some a=>match cmp a b with
   | some true=>ih (qF #[Value.none]) none
   | some false=>ih (qF #[]) none
   | none=>none
 | _=>exact fun _=>none
theorem t4 (m:Sem α) (f:α->Sem β):∀ p,ev cmp (m.bind f) p=(ev cmp m p).bind fun r=>ev cmp (f r.1) r.2:=by
 induction m with
 | pure a=>exact fun p=>rfl
 | rule _ k ih=>exact ih ()
 | load b _ k ih =>
  intro p
  cases p with
  | none=>exact ih _ _
  | some a =>
   show (match cmp a b with
    | some true=>ev cmp ((k (qF #[Value.none])).bind f) none
    | some false=>ev cmp ((k (qF #[])).bind f) none
    | none=>none)=Option.bind (match cmp a b with
    | some true=>ev cmp (k (qF #[Value.none])) none
    | some false=>ev cmp (k (qF #[])) none
    | none=>none) _
   grind
 | _=>exact fun _=>rfl
def rq (k:SortKind):Prop:=k=aP true\/k=oneType'
structure Fol (φ:Keyed->Keyed) (st ps:SortSt):Prop where
 kind:rq (kindOf st)
 kind':kindOf ps=aP true
 arr:arrOf st=(arrOf ps).map φ
 pend:pendingOf st=pendingOf ps
 mg:gallopOf st=gallopOf ps
 fail:failedOf st=none
 fail':failedOf ps=none
class EqRl (α:Type) where
instance:EqRl Nat:=⟨⟩
instance:EqRl Bool:=⟨⟩
instance:EqRl PUnit:=⟨⟩
instance {α:Type} [EqRl α]:EqRl (Option α):=⟨⟩
instance {α:Type} [EqRl α]:EqRl (Array α):=⟨⟩
instance {α β:Type} [EqRl α] [EqRl β]:EqRl (α × β):=⟨⟩
instance {α:Type} [EqRl α]:EqRl (ForInStep α):=⟨⟩
class Rl (φ:Keyed->Keyed) (α:Type) where
 rel:α->α->Prop
variable {φ:Keyed->Keyed}
instance rlO {α:Type} [Rl φ α]:Rl φ (Option α):=⟨fun x y=>match x,y with | none,none=>True | some a,some b=>Rl.rel φ a b | _,_=>False⟩
instance rlP {α β:Type} [Rl φ α] [Rl φ β]:Rl φ (α × β):=⟨fun x y=>Rl.rel φ x.1 y.1/\Rl.rel φ x.2 y.2⟩
instance rlF {α:Type} [Rl φ α]:Rl φ (ForInStep α):=⟨fun x y=>match x,y with | .done a,.done b=>Rl.rel φ a b | .yield a,.yield b=>Rl.rel φ a b | _,_=>False⟩
instance rlK:Rl φ Keyed:=⟨fun p i=>p = φ i⟩
instance rlA:Rl φ (Array Keyed):=⟨fun p i=>p=i.map φ⟩
instance rlS:Rl φ SortSt:=⟨Fol φ⟩
instance (priority:=high) rlE {α:Type} [EqRl α]:Rl φ α:=⟨Eq⟩
section
variable {prog:Program} {w:World} {A:Around} {E:Value->Shared->Prop} {s:Shared} {cmp:Nat->Nat->Option Bool} {α β:Type}
def Sim (prog:Program) (w:World) (A:Around) (E:Value->Shared->Prop) (s:Shared) (φ:Keyed->Keyed) (cmp:Nat->Nat->Option Bool) {α:Type} [Rl φ α] (m p:StateT SortSt Sem α):Prop :=
 ∀ st ps b d q,Fol φ st ps->ev cmp (p.run ps) none=some ((b,d),q)->∃ a c,Rl.rel φ a b/\Fol φ c d/\q=none/\∀ Q:α->SortSt->Prop,Q a c->wpS (model prog w) A E s m Q st
theorem aC [Rl φ α] {a b:α} (h:Rl.rel φ a b):Sim prog w A E s φ cmp (pure a) (pure b):=by
 intro st ps g c d f e
 cases e
 exact ⟨a,st,h,f,rfl,fun Q q=>wpS_pure q⟩
theorem cb [Rl φ α] [Rl φ β] {m p:StateT SortSt Sem α} {f g:α->StateT SortSt Sem β} (h:Sim prog w A E s φ cmp m p) (k:∀ a b,Rl.rel φ a b->Sim prog w A E s φ cmp (f a) (g b)):Sim prog w A E s φ cmp (m >>= f) (p >>= g):=by
 intro st ps t i o u e
 have e:ev cmp ((p.run ps).bind fun x=>(g x.1).run x.2) none=some ((t,i),o):=e
 rw [t4] at e
 obtain ⟨⟨⟨b,d⟩,v⟩,e1,y⟩:=FF.mp e
 obtain ⟨a,st1,r,n,rfl,h1⟩:=h st ps b d v u e1
 obtain ⟨c,l,z,j,rfl,h2⟩:=k a b r st1 d t i o n y
 exact ⟨c,l,z,j,rfl,fun Q q=>wpS_bind (h1 _ (h2 Q q))⟩
theorem ao [EqRl α] [Rl φ β] {f g:α->StateT SortSt Sem β} (h:Sim prog w A E s φ cmp m p) (k:∀ a,Sim prog w A E s φ cmp (f a) (g a)):Sim prog w A E s φ cmp (m >>= f) (p >>= g) :=
 cb h fun a b (r:a=b)=>r ▸ k a
theorem bj [EqRl α] [Rl φ β] {f g:Option α->StateT SortSt Sem β} (h:Sim prog w A E s φ cmp m p) (c:Sim prog w A E s φ cmp (f none) (g none)) (ks:∀ a,Sim prog w A E s φ cmp (f (some a)) (g (some a))):Sim prog w A E s φ cmp (m >>= f) (p >>= g) :=
 cb h fun a b (r:a=b)=>r ▸ (match a with | none=>c | some a=>ks a)
theorem bq [Rl φ α] [Decidable c] {m n p q:StateT SortSt Sem α} (h1:c->Sim prog w A E s φ cmp m p) (h2:¬ c->Sim prog w A E s φ cmp n q):Sim prog w A E s φ cmp (if c then m else n) (if c then p else q):=by grind
theorem wI [Rl φ α] {m p:StateT SortSt Sem α} (h:∀ ps,ev cmp (p.run ps) none=none):Sim prog w A E s φ cmp m p:=fun st ps b a q f e=>by
 rw [h] at e
 cases e
theorem cA [Rl φ α]:Sim prog w A E s φ cmp m (unsupported t:Sem α):=wI fun _=>rfl
theorem jP [Rl φ α] (h : ∀ i x y, Rl.rel φ x y -> @Sim prog w A E s φ cmp _ rlF (f i x) (g i y)) : ∀ (l : List Nat) (x y : α), Rl.rel φ x y -> Sim prog w A E s φ cmp (forIn l x f) (forIn l y g)
  | [], x, y, r => by rw [List.forIn_nil, List.forIn_nil]; exact aC r
  | i :: l, x, y, r => by
    rw [List.forIn_cons, List.forIn_cons]
    refine @cb _ _ _ _ _ _ _ _ _ rlF _ _ _ _ _ (h i x y r) fun a b c => ?_
    cases a <;> cases b <;> first | exact False.elim c | skip
    · exact aC c
    · exact jP h l _ _ c
theorem eU [Rl φ α] {a b:Nat} {x y:α} (r:Rl.rel φ x y) (h:∀ i x y,Rl.rel φ x y->@Sim prog w A E s φ cmp _ rlF (f i x) (g i y)):Sim prog w A E s φ cmp (forIn [a:b] x f) (forIn [a:b] y g):=by
 rw [Std.Legacy.Range.forIn_eq_forIn_range',Std.Legacy.Range.forIn_eq_forIn_range']
 exact jP h _ _ _ r
theorem gr [EqRl α] {a b:Nat} {x:α} (h:∀ i x,Sim prog w A E s φ cmp (f i x) (g i x)):Sim prog w A E s φ cmp (forIn [a:b] x f) (forIn [a:b] x g):=by
 refine eU rfl fun i x y r=>?_
 cases r
 intro st ps b d q k e
 obtain ⟨c,j,r,cQ⟩:=h i x st ps b d q k e
 refine ⟨c,j,?_,cQ⟩
 obtain rfl:c=b:=r
 cases c <;> exact (rfl:_=_)
theorem sL:Sim prog w A E s φ cmp (get:StateT SortSt Sem SortSt) get:=by
 intro st ps b a q f e
 cases e
 exact ⟨st,st,f,f,rfl,fun Q q=>wpS_get q⟩
theorem dm (h:∀ st ps,Fol φ st ps->Fol φ (f st) (g ps)):Sim prog w A E s φ cmp (modify f:StateT SortSt Sem PUnit) (modify g):=by
 intro st ps b c q a e
 cases e
 exact ⟨_,_,rfl,h st ps a,rfl,fun Q q=>wpS_modify q⟩
theorem z9 (h:Fol φ c a):Sim prog w A E s φ cmp (set c:StateT SortSt Sem PUnit) (set a):=by
 intro st ps b a q d e
 cases e
 exact ⟨_,_,rfl,h,rfl,fun Q q=>E4 ⟨rfl,q⟩⟩
theorem dl:Sim prog w A E s φ cmp (liftM (PySem.rule r:Sem Unit):StateT SortSt Sem Unit) (liftM (PySem.rule r:Sem Unit)):=by
 intro st ps b c q a e
 cases e
 exact ⟨_,st,rfl,a,rfl,fun Q q=>wpS_lift (wpAny_rule ⟨rfl,q⟩)⟩
theorem wL {i:Nat}:Sim prog w A E s φ cmp (elem' (arr.map φ) i) (elem' arr i):=by
 rw [elem'_eq,elem'_eq]
 cases e:arr[i]? with
 | none=>exact cA
 | some x =>
  have:(arr.map φ)[i]?=some (φ x):=by rw [Array.getElem?_map,e];rfl
  rw [this]
  exact aC rfl
theorem bA [Rl φ α] {i:Nat} {f g:Keyed->StateT SortSt Sem α} (k:∀ u,Sim prog w A E s φ cmp (f (φ u)) (g u)):Sim prog w A E s φ cmp (elem' (arr.map φ) i >>= f) (elem' arr i >>= g) :=
 cb wL fun u u' (hu:u = φ u')=>hu ▸ k u'
end
def lD (bs:List Addr) (x:Keyed):Keyed:=match x.1 with
 | .ref i=>(.ref (bs.getD i 0),.ref (bs.getD i 0))
 | _=>(.none,.none)
def aw (ns:List (List Int)) (i j:Nat):Option Bool:=match ns[i]?,ns[j]? with
 | some x,some y=>some (HT.lexLt x y)
 | _,_=>none
section
variable {prog:Program} {w:World} {A:Around} {E:Value->Shared->Prop} {s:Shared} {bs:List Addr} {ns:List (List Int)}
set_option tactic.hygienic true in
theorem p7 (h:∀ a,v ≠ .ref a):∃ t,Builtin.List.listItems v=Sem.unsupported t:=by
 cases v
 case ref a=>exact absurd rfl (h a)
 case builtin id =>
  by_cases b:(withoutEnding? id "#opaque").isSome=true
  ·have e:notAStandIn (.builtin id)=Sem.unsupported id:=if_pos b
   refine ⟨id,?_⟩
   show Sem.bind (Sem.bind (notAStandIn (.builtin id)) _) _=_
   rw [e]
   rfl
  ·have e:notAStandIn (.builtin id)=Sem.pure ():=if_neg b
   have c:Builtin.List.listItems (.builtin id)=Sem.bind (Sem.bind (notAStandIn (.builtin id)) _) _:=rfl
   rw [e] at c
   exact ⟨_,c⟩
 all_goals exact ⟨_,rfl⟩
theorem BF (h:∀ a,v ≠ .ref a):∃ t,keyLt' (aP true) v y=Sem.unsupported t:=by
 obtain ⟨t,e⟩:=p7 h
 obtain ⟨G,e1⟩:∃ G,keyLt' (aP true) v y=(Builtin.List.listItems v).bind G:=⟨_,rfl⟩
 exact ⟨t,by rw [e1,e];rfl⟩
theorem BE (h:∀ a,v ≠ .ref a):∃ t,keyLt' (aP true) (.ref i) v=(Builtin.List.listItems (.ref i)).bind fun _=>Sem.unsupported t:=by
 obtain ⟨t,e⟩:=p7 h
 obtain ⟨G,e1⟩:∃ G:Array Value->Array Value->Sem Bool,keyLt' (aP true) (.ref i) v=(Builtin.List.listItems (.ref i)).bind fun xs=>(Builtin.List.listItems v).bind (G xs):=⟨_,rfl⟩
 exact ⟨t,by rw [e1,e];rfl⟩
theorem u6 (n:IsNts s.heap a x) (p:IsNts s.heap b y) (hu:A.units < cLine) (h:Q (HT.lexLt x y) s):wpAny (model prog w) A (oneLt' true (.ref a) (.ref b)) Q E s:=by
 obtain ⟨q,⟨⟨c1,c,i,e⟩,e1,c1,t,d1⟩,j⟩:=n
 obtain ⟨m,⟨⟨c2,f,o,d⟩,r,c2,k,g⟩,l⟩:=p
 simp only at c1 d1 c2 g
 subst c1 d1 c2 g
 rw [oneLt'_eq]
 simp only [if_true]
 refine E3 (wpAny_cRoomFor hu ?_)
 refine E3 (wpAny_callSpecialIfBound?_slot (T:="tuple") ⟨_,e1,rfl⟩ PySem.F.slot_tuple_lt (call_meets PySem.F.slot_tuple_lt (T:="tuple") ⟨_,e1,rfl⟩ PySem.F.entry_tuple_lt (PySem.F.args_tuple_lt_2 _ _) (HT.tuple_lt_ints a b q m t k c f e d x y j l) ⟨e1,r,?_⟩))
 exact FM h
theorem C4 (hu:A.units < cLine) (v:∀ (i:Nat) (n:List Int),ns[i]?=some n->IsNts s.heap (bs.getD i 0) n) (x y:Keyed):Sim prog w A E s (lD bs) (aw ns) (lt' (lD bs x) (lD bs y)) (lt' x y):=by
 intro st ps b c q f e
 obtain ⟨r,z⟩:=x
 obtain ⟨o,B⟩:=y
 have l:=f.kind'
 cases ps with
 | mk k a pd g fl =>
 have l:k=aP true:=l
 subst l
 by_cases d:∀ a,r ≠ .ref a
 ·obtain ⟨t,h⟩:=BF (y:=o) d
  rw [lt'_eq] at e
  have e:ev (aw ns) (Sem.bind (Sem.bind (Sem.attempt (keyLt' (aP true) r o)) _) _) none=some ((b,c),q):=e
  rw [h] at e
  cases e
 ·by_cases u:∀ a,o ≠ .ref a
  ·obtain ⟨i,d⟩:=Classical.not_forall.mp d
   obtain rfl:r=.ref i:=Classical.not_not.mp d
   obtain ⟨t,h⟩:=BE (i:=i) u
   rw [lt'_eq] at e
   have e:ev (aw ns) (Sem.bind (Sem.bind (Sem.attempt (keyLt' (aP true) (.ref i) o)) _) _) none=some ((b,c),q):=e
   rw [h] at e
   cases e
  ·obtain ⟨i,d⟩:=Classical.not_forall.mp d
   obtain rfl:r=.ref i:=Classical.not_not.mp d
   obtain ⟨j,u⟩:=Classical.not_forall.mp u
   obtain rfl:o=.ref j:=Classical.not_not.mp u
   have e:(match aw ns i j with
    | some true=>some ((some true,SortSt.mk' (aP true) a pd g fl),none)
    | some false=>some ((some false,SortSt.mk' (aP true) a pd g fl),none)
    | none=>none)=some ((b,c),q):=e
   unfold aw at e
   cases e1:ns[i]? with
   | none=>rw [e1] at e;cases e
   | some n =>
    cases p:ns[j]? with
    | none=>rw [e1,p] at e;cases e
    | some m =>
     rw [e1,p] at e
     have e:(match some (HT.lexLt n m) with
      | some true=>some ((some true,SortSt.mk' (aP true) a pd g fl),none)
      | some false=>some ((some false,SortSt.mk' (aP true) a pd g fl),none)
      | none=>none)=some ((b,c),q):=e
     have e:some ((some (HT.lexLt n m),SortSt.mk' (aP true) a pd g fl),(none:Option Addr))=some ((b,c),q):=by
      rw [<- e]
      cases HT.lexLt n m <;> rfl
     cases e
     refine ⟨_,st,rfl,f,rfl,fun Q q=>?_⟩
     rw [lt'_eq]
     refine wpS_bind (wpS_get ?_)
     rcases f.kind with l | l <;> rw [l]
     ·refine wpS_bind (wpS_lift (wpAny_attempt (vw (v i n e1) (v j m p) ⟨rfl,?_⟩)))
      exact wpS_pure q
     ·rw [keyLt'_oneType]
      refine wpS_bind (wpS_lift (wpAny_attempt (u6 (v i n e1) (v j m p) hu ⟨rfl,?_⟩)))
      exact wpS_pure q
end
end L2
end
section
namespace L2
open PySem PySem.Spec PyProof.Rows
def tY:Bool->Keyed->Array Keyed->Nat->Nat->Nat->StateT SortSt Sem (Option Nat):=sortPriv% PySem.Builtin.gallop
def pO:Array Keyed->Array Keyed->StateT SortSt Sem (Array Keyed):=sortPriv% PySem.Builtin.mergeLo
def pP:Array Keyed->Array Keyed->StateT SortSt Sem (Array Keyed):=sortPriv% PySem.Builtin.mergeHi
def wR:Nat->StateT SortSt Sem Unit:=sortPriv% PySem.Builtin.setMinGallop
section
variable {prog:Program} {w:World} {A:Around} {E:Value->Shared->Prop} {s:Shared} {φ:Keyed->Keyed} {cmp:Nat->Nat->Option Bool}
theorem mz {g:Nat}:Sim prog w A E s φ cmp (wR g) (wR g) :=
 dm fun st ps f=>⟨f.kind,f.kind',f.arr,f.pend,rfl,f.fail,f.fail'⟩
theorem gu [EqRl γ] [EqRl δ] [Rl φ β] {m p:StateT SortSt Sem (Option γ × δ)} {f g:Option γ × δ->StateT SortSt Sem β} (h:Sim prog w A E s φ cmp m p) (a:∀ d,Sim prog w A E s φ cmp (f (none,d)) (g (none,d))) (ks:∀ c d,Sim prog w A E s φ cmp (f (some c,d)) (g (some c,d))):Sim prog w A E s φ cmp (m >>= f) (p >>= g) :=
 ao h fun x=>match x with
  | (none,d)=>a d
  | (some c,d)=>ks c d
theorem oZ (a:∀ x y:Keyed,Sim prog w A E s φ cmp (lt' (φ x) (φ y)) (lt' x y)) {i j:Nat}:Sim prog w A E s φ cmp (ltAt' i j) (ltAt' i j):=by
 rw [ltAt'_eq]
 refine cb sL fun st ps f=>?_
 have e:arrOf st=(arrOf ps).map φ:=Fol.arr f
 dsimp only
 rw [e]
 exact bA fun u=>bA fun v=>a u v
theorem cX {β:Type} (p q:β->Nat):∀ (l:List β) (xs:Array Keyed),l.foldl (fun a k=>a.swapIfInBounds (p k) (q k)) (xs.map φ)=(l.foldl (fun a k=>a.swapIfInBounds (p k) (q k)) xs).map φ
 | [],xs=>rfl
 | k :: l,xs=>by
  rw [List.foldl_cons,List.foldl_cons,<- cX p q l]
  congr 1
  apply Array.ext_getElem?
  intro i
  rw [Array.getElem?_map]
  by_cases h1:p k < xs.size
  ·by_cases h2:q k < xs.size
   ·rw [getElem?_swapIB (by simpa using h1) (by simpa using h2),getElem?_swapIB h1 h2]
    simp only [Array.getElem?_map]
    repeat' split
    all_goals rfl
   ·rw [Array.swapIfInBounds_def,Array.swapIfInBounds_def,dif_pos (by simpa using h1),dif_neg (by simpa using h2),dif_pos h1,dif_neg h2,Array.getElem?_map]
  ·rw [Array.swapIfInBounds_def,Array.swapIfInBounds_def,dif_neg (by simpa using h1),dif_neg h1,Array.getElem?_map]
theorem sJ {i j:Nat}:Sim prog w A E s φ cmp (reverseSlice' i j) (reverseSlice' i j):=by
 rw [reverseSlice'_eq]
 refine dm fun st ps f=>⟨f.kind,f.kind',?_,f.pend,f.mg,f.fail,f.fail'⟩
 show mirror (arrOf st) _ _ _=(mirror (arrOf ps) _ _ _).map φ
 rw [f.arr]
 exact cX _ _ _ _
theorem o0 {i j:Nat}:Sim prog w A E s φ cmp (moveDown' i j) (moveDown' i j):=by
 rw [moveDown'_eq]
 refine dm fun st ps f=>⟨f.kind,f.kind',?_,f.pend,f.mg,f.fail,f.fail'⟩
 show bubble (arrOf st) _ _=(bubble (arrOf ps) _ _).map φ
 rw [f.arr]
 exact cX _ _ _ _
theorem Ab (a:∀ x y:Keyed,Sim prog w A E s φ cmp (lt' (φ x) (φ y)) (lt' x y)) {lo n ok:Nat}:Sim prog w A E s φ cmp (binarySort' lo n ok) (binarySort' lo n ok):=by
 rw [binarySort'_eq]
 repeat' first
  | exact aC rfl
  | exact cA
  | refine bq (fun _=>?_) (fun _=>?_)
  | (refine bj (oZ a) ?_ (fun u=>?_) <;> try dsimp only)
  | (refine ao sJ (fun u=>?_);try dsimp only)
  | (refine ao o0 (fun u=>?_);try dsimp only)
  | (refine ao dl (fun u=>?_);try dsimp only)
  | (refine gu (gr fun i x=>?_) (fun d=>?_) (fun c d=>?_) <;> try dsimp only)
  | (refine ao (gr fun i x=>?_) (fun x=>?_) <;> try dsimp only)
theorem Aa (a:∀ x y:Keyed,Sim prog w A E s φ cmp (lt' (φ x) (φ y)) (lt' x y)) {lo n:Nat}:Sim prog w A E s φ cmp (countRun' lo n) (countRun' lo n):=by
 rw [countRun'_eq]
 repeat' first
  | exact aC rfl
  | exact cA
  | refine bq (fun _=>?_) (fun _=>?_)
  | (refine bj (oZ a) ?_ (fun u=>?_) <;> try dsimp only)
  | (refine ao sJ (fun u=>?_);try dsimp only)
  | (refine ao o0 (fun u=>?_);try dsimp only)
  | (refine ao dl (fun u=>?_);try dsimp only)
  | (refine gu (gr fun i x=>?_) (fun d=>?_) (fun c d=>?_) <;> try dsimp only)
  | (refine ao (gr fun i x=>?_) (fun x=>?_) <;> try dsimp only)
end
end L2
end
section
namespace L2
open PySem PySem.Spec PyProof.Rows
section
variable {prog:Program} {w:World} {A:Around} {E:Value->Shared->Prop} {s:Shared} {φ:Keyed->Keyed} {cmp:Nat->Nat->Option Bool}
theorem eT (a:∀ x y:Keyed,Sim prog w A E s φ cmp (lt' (φ x) (φ y)) (lt' x y)) {base n hint:Nat}:Sim prog w A E s φ cmp (tY left (φ key) (arr.map φ) base n hint) (tY left key arr base n hint):=by
 refine bj (bA fun u=>bq (fun _=>a _ _) (fun _=>ao (a _ _) fun r=>aC rfl)) (aC rfl) (fun u=>?_)
 dsimp only
 repeat' first
  | exact aC rfl
  | refine bq (fun _=>?_) (fun _=>?_)
  | (refine bj (bA fun u=>bq (fun _=>a _ _) (fun _=>ao (a _ _) fun r=>aC rfl)) ?_ (fun u=>?_) <;> try dsimp only)
  | (refine gu (gr fun i x=>?_) (fun d=>?_) (fun c d=>?_) <;> try dsimp only)
end
end L2
end
section
namespace L2
open PySem PySem.Spec PyProof.Rows
section
variable {prog:Program} {w:World} {A:Around} {E:Value->Shared->Prop} {s:Shared} {φ:Keyed->Keyed} {cmp:Nat->Nat->Option Bool}
theorem jQ [EqRl α]:@Rl.rel φ α rlE a a:=rfl
theorem fW {X Y:Array Keyed} (h:X=Y.map φ):Rl.rel φ X Y:=h
theorem dF [Rl φ α] {a b:α} (h:Rl.rel φ a b):@Rl.rel φ _ rlO (some a) (some b):=h
theorem dH [Rl φ α]:@Rl.rel φ _ rlO (none:Option α) none:=trivial
theorem dI [Rl φ α] {a b:α} (h:Rl.rel φ a b):@Rl.rel φ _ rlF (ForInStep.done a) (ForInStep.done b):=h
theorem cP [Rl φ α] {a b:α} (h:Rl.rel φ a b):@Rl.rel φ _ rlF (ForInStep.yield a) (ForInStep.yield b):=h
theorem dG [Rl φ α] [Rl φ β] {a b:α} {d c:β} (h:Rl.rel φ a b) (h':Rl.rel φ d c):@Rl.rel φ _ rlP (a,d) (b,c):=⟨h,h'⟩
set_option tactic.hygienic true in
theorem wK [EqRl γ] {a b : Nat} {x y : Option (Array Keyed) × Array Keyed × γ} {f g : Nat -> Option (Array Keyed) × Array Keyed × γ -> StateT SortSt Sem (ForInStep (Option (Array Keyed) × Array Keyed × γ))} (r : Rl.rel φ x y) (h : ∀ i o d c, Sim prog w A E s φ cmp (f i (o.map (Array.map φ), d.map φ, c)) (g i (o, d, c))) : Sim prog w A E s φ cmp (forIn [a:b] x f) (forIn [a:b] y g) := by
  refine eU r fun i x y r => ?_
  obtain ⟨u, m, e⟩ := x
  obtain ⟨v, j, t⟩ := y
  obtain ⟨k, l, n⟩ := r
  obtain rfl : m = j.map φ := l
  obtain rfl : e = t := n
  cases u <;> cases v <;> first | exact False.elim k | skip
  · exact h i none j e
  · rename_i p q
    obtain rfl : p = q.map φ := k
    exact h i (some q) j e
set_option tactic.hygienic true in
theorem uI [EqRl γ] [Rl φ β] {m p : StateT SortSt Sem (Option (Array Keyed) × Array Keyed × γ)} {f g : Option (Array Keyed) × Array Keyed × γ -> StateT SortSt Sem β} (h : Sim prog w A E s φ cmp m p) (n : ∀ d c, Sim prog w A E s φ cmp (f (none, d.map φ, c)) (g (none, d, c))) (ks : ∀ r d c, Sim prog w A E s φ cmp (f (some (r.map φ), d.map φ, c)) (g (some r, d, c))) : Sim prog w A E s φ cmp (m >>= f) (p >>= g) := by
  refine cb h fun x y r => ?_
  obtain ⟨o, j, a⟩ := x
  obtain ⟨t, b, l⟩ := y
  obtain ⟨e, i, k⟩ := r
  obtain rfl : j = b.map φ := i
  obtain rfl : a = l := k
  cases o <;> cases t <;> first | exact False.elim e | skip
  · exact n b a
  · rename_i p q
    obtain rfl : p = q.map φ := e
    exact ks q b a
theorem cC [Rl φ β] {f g:SortSt->StateT SortSt Sem β} (k:∀ st ps,Fol φ st ps->Sim prog w A E s φ cmp (f st) (g ps)):Sim prog w A E s φ cmp (get >>= f) (get >>= g) :=
 cb sL fun st ps a=>k st ps a
theorem oW (f:∀ x y:Keyed,Sim prog w A E s φ cmp (lt' (φ x) (φ y)) (lt' x y)) (a b:Array Keyed):Sim prog w A E s φ cmp (pO (a.map φ) (b.map φ)) (pO a b):=by
 refine ao dl fun _=>?_
 refine bA fun y=>?_
 simp only [Array.size_map]
 refine bq (fun _=>aC (by (repeat' first | with_reducible exact dH | with_reducible apply dI | with_reducible apply cP | with_reducible apply dF | (with_reducible apply fW;simp only [Array.map_append,Array.map_push,Array.map_extract,Array.map_reverse,List.map_toArray,Fu,List.map_nil];done) | with_reducible apply dG | with_reducible exact jQ))) fun _=>?_
 refine bq (fun _=>aC (by (repeat' first | with_reducible exact dH | with_reducible apply dI | with_reducible apply cP | with_reducible apply dF | (with_reducible apply fW;simp only [Array.map_append,Array.map_push,Array.map_extract,Array.map_reverse,List.map_toArray,Fu,List.map_nil];done) | with_reducible apply dG | with_reducible exact jQ))) fun _=>?_
 refine cC fun st ps g=>?_
 have e:=g.mg
 simp only [gallopOf] at e
 rw [e]
 repeat' first
  | exact aC (by (repeat' first | with_reducible exact dH | with_reducible apply dI | with_reducible apply cP | with_reducible apply dF | (with_reducible apply fW;simp only [Array.map_append,Array.map_push,Array.map_extract,Array.map_reverse,List.map_toArray,Fu,List.map_nil];done) | with_reducible apply dG | with_reducible exact jQ))
  | exact cA
  | refine bq (fun _=>?_) (fun _=>?_)
  | refine ao mz (fun _=>?_)
  | refine ao dl (fun _=>?_)
  | refine bA fun u=>?_
  | (refine bj (eT f) ?_ (fun u=>?_) <;> try dsimp only)
  | (refine bj (f _ _) ?_ (fun u=>?_) <;> try dsimp only)
  | (refine uI (wK (by (repeat' first | with_reducible exact dH | with_reducible apply dI | with_reducible apply cP | with_reducible apply dF | (with_reducible apply fW;simp only [Array.map_append,Array.map_push,Array.map_extract,Array.map_reverse,List.map_toArray,Fu,List.map_nil];done) | with_reducible apply dG | with_reducible exact jQ)) fun i o d c=>?_) (fun d c=>?_) (fun r d c=>?_) <;> try dsimp only)
end
end L2
end
section
namespace L2
open PySem PySem.Spec PyProof.Rows
section
variable {prog:Program} {w:World} {A:Around} {E:Value->Shared->Prop} {s:Shared} {φ:Keyed->Keyed} {cmp:Nat->Nat->Option Bool}
set_option tactic.hygienic true in
theorem wJ [EqRl γ] {a b : Nat} {x y : Option (Array Keyed) × Nat × Nat × Array Keyed × γ} {f g : Nat -> Option (Array Keyed) × Nat × Nat × Array Keyed × γ -> StateT SortSt Sem (ForInStep (Option (Array Keyed) × Nat × Nat × Array Keyed × γ))} (r : Rl.rel φ x y) (h : ∀ i o m n d c, Sim prog w A E s φ cmp (f i (o.map (Array.map φ), m, n, d.map φ, c)) (g i (o, m, n, d, c))) : Sim prog w A E s φ cmp (forIn [a:b] x f) (forIn [a:b] y g) := by
  refine eU r fun i x y r => ?_
  obtain ⟨D, B, l, u, e⟩ := x
  obtain ⟨H, G, F, j, z⟩ := y
  obtain ⟨k, C, I, t, v⟩ := r
  obtain rfl : B = G := C
  obtain rfl : l = F := I
  obtain rfl : u = j.map φ := t
  obtain rfl : e = z := v
  cases D <;> cases H <;> first | exact False.elim k | skip
  · exact h i none _ _ j e
  · rename_i p q
    obtain rfl : p = q.map φ := k
    exact h i (some q) _ _ j e
set_option tactic.hygienic true in
theorem uH [EqRl γ] [Rl φ β] {m p : StateT SortSt Sem (Option (Array Keyed) × Nat × Nat × Array Keyed × γ)} {f g : Option (Array Keyed) × Nat × Nat × Array Keyed × γ -> StateT SortSt Sem β} (h : Sim prog w A E s φ cmp m p) (v : ∀ m n d c, Sim prog w A E s φ cmp (f (none, m, n, d.map φ, c)) (g (none, m, n, d, c))) (ks : ∀ r m n d c, Sim prog w A E s φ cmp (f (some (r.map φ), m, n, d.map φ, c)) (g (some r, m, n, d, c))) : Sim prog w A E s φ cmp (m >>= f) (p >>= g) := by
  refine cb h fun x y r => ?_
  obtain ⟨z, t, i, k, a⟩ := x
  obtain ⟨D, C, B, b, o⟩ := y
  obtain ⟨e, u, F, j, l⟩ := r
  obtain rfl : t = C := u
  obtain rfl : i = B := F
  obtain rfl : k = b.map φ := j
  obtain rfl : a = o := l
  cases z <;> cases D <;> first | exact False.elim e | skip
  · exact v _ _ b a
  · rename_i p q
    obtain rfl : p = q.map φ := e
    exact ks q _ _ b a
theorem oX (f:∀ x y:Keyed,Sim prog w A E s φ cmp (lt' (φ x) (φ y)) (lt' x y)) (a b:Array Keyed):Sim prog w A E s φ cmp (pP (a.map φ) (b.map φ)) (pP a b):=by
 refine ao dl fun _=>?_
 simp only [Array.size_map]
 refine bA fun y=>?_
 refine bq (fun _=>aC (by (repeat' first | with_reducible exact dH | with_reducible apply dI | with_reducible apply cP | with_reducible apply dF | (with_reducible apply fW;simp only [Array.map_append,Array.map_push,Array.map_extract,Array.map_reverse,List.map_toArray,Fu,List.map_nil];done) | with_reducible apply dG | with_reducible exact jQ))) fun _=>?_
 refine bq (fun _=>aC (by (repeat' first | with_reducible exact dH | with_reducible apply dI | with_reducible apply cP | with_reducible apply dF | (with_reducible apply fW;simp only [Array.map_append,Array.map_push,Array.map_extract,Array.map_reverse,List.map_toArray,Fu,List.map_nil];done) | with_reducible apply dG | with_reducible exact jQ))) fun _=>?_
 refine cC fun st ps g=>?_
 have e:=g.mg
 simp only [gallopOf] at e
 rw [e]
 repeat' first
  | exact aC (by (repeat' first | with_reducible exact dH | with_reducible apply dI | with_reducible apply cP | with_reducible apply dF | (with_reducible apply fW;simp only [Array.map_append,Array.map_push,Array.map_extract,Array.map_reverse,List.map_toArray,Fu,List.map_nil];done) | with_reducible apply dG | with_reducible exact jQ))
  | exact cA
  | refine bq (fun _=>?_) (fun _=>?_)
  | refine ao mz (fun _=>?_)
  | refine ao dl (fun _=>?_)
  | refine bA fun u=>?_
  | (refine bj (eT f) ?_ (fun u=>?_) <;> try dsimp only)
  | (refine bj (f _ _) ?_ (fun u=>?_) <;> try dsimp only)
  | (refine uH (wJ (by (repeat' first | with_reducible exact dH | with_reducible apply dI | with_reducible apply cP | with_reducible apply dF | (with_reducible apply fW;simp only [Array.map_append,Array.map_push,Array.map_extract,Array.map_reverse,List.map_toArray,Fu,List.map_nil];done) | with_reducible apply dG | with_reducible exact jQ)) fun i o m n d c=>?_) (fun m n d c=>?_) (fun r m n d c=>?_) <;> try dsimp only)
end
end L2
end
section
namespace L2
open PySem PySem.Spec PyProof.Rows
section
variable {prog:Program} {w:World} {A:Around} {E:Value->Shared->Prop} {s:Shared} {φ:Keyed->Keyed} {cmp:Nat->Nat->Option Bool}
theorem m6 (b:∀ a p j,G (a.map φ) (φ p,j)=(G a (p,j)).map φ):∀ (l:List (Keyed × Nat)) (xs:Array Keyed),(l.map fun x=>(φ x.1,x.2)).foldl G (xs.map φ)=(l.foldl G xs).map φ
 | [],xs=>rfl
 | (p,j) :: l,xs=>by
  rw [Fu,List.foldl_cons,List.foldl_cons,<- m6 b l]
  dsimp only
  rw [b]
theorem sK {f:SortSt->Array Keyed->SortSt} (hf:∀ st X,f st X=setArr st (X.toList.zipIdx.foldl G (arrOf st))) (c:∀ a p j,G (a.map φ) (φ p,j)=(G a (p,j)).map φ):Sim prog w A E s φ cmp (modify fun st=>f st (m.map φ)) (modify fun st=>f st m):=by
 refine dm fun st ps b=>?_
 rw [hf,hf]
 refine ⟨b.kind,b.kind',?_,b.pend,b.mg,b.fail,b.fail'⟩
 show _=Array.map φ (m.toList.zipIdx.foldl G (arrOf ps))
 rw [<- m6 c,<- b.arr]
 show (m.map φ).toList.zipIdx.foldl G (arrOf st)=_
 congr 1
 rw [Array.toList_map,List.zipIdx_map]
 rfl
theorem mB [Rl φ β] {f g:Array Keyed->StateT SortSt Sem β} (h:Sim prog w A E s φ cmp m p) (k:∀ d,Sim prog w A E s φ cmp (f (d.map φ)) (g d)):Sim prog w A E s φ cmp (m >>= f) (p >>= g):=by
 refine cb h fun x y (r:x=y.map φ)=>?_
 rw [r]
 exact k y
theorem oY (e:∀ x y:Keyed,Sim prog w A E s φ cmp (lt' (φ x) (φ y)) (lt' x y)) (i:Nat):Sim prog w A E s φ cmp (mergeAt' i) (mergeAt' i):=by
 refine cC fun st ps c=>?_
 have h1:=c.arr
 have h2:=c.pend
 simp only [arrOf,pendingOf] at h1 h2
 rw [h2]
 generalize (pendingOf ps)[i]?=a
 generalize (pendingOf ps)[i+1]?=b
 cases a with
 | none=>exact cA
 | some a =>
 cases b with
 | none=>exact cA
 | some b =>
 obtain ⟨sa,na,h⟩:=a
 obtain ⟨sb,nb,g⟩:=b
 refine ao (z9 ⟨c.kind,c.kind',c.arr,rfl,c.mg,c.fail,c.fail'⟩) fun _=>?_
 rw [h1]
 refine bA fun u=>?_
 refine bj (eT e) (aC rfl) fun k=>?_
 refine bq (fun _=>aC rfl) fun _=>?_
 refine bA fun u=>?_
 refine bj (eT e) (aC rfl) fun k=>?_
 refine bq (fun _=>aC rfl) fun _=>?_
 simp only [<- Array.map_extract]
 refine bq (fun _=>?_) fun _=>?_
 ·refine mB (oW e _ _) fun d=>ao (sK (fun _ _=>rfl) fun _ _ _=>Array.map_setIfInBounds.symm) fun _=>cC fun st ps f=>aC ?_
  show (failedOf st).isNone=(failedOf ps).isNone
  rw [f.fail,f.fail']
 ·refine mB (oX e _ _) fun d=>ao (sK (fun _ _=>rfl) fun _ _ _=>Array.map_setIfInBounds.symm) fun _=>cC fun st ps f=>aC ?_
  show (failedOf st).isNone=(failedOf ps).isNone
  rw [f.fail,f.fail']
theorem oV (F:Array (Nat × Nat × Nat)->Array (Nat × Nat × Nat)) (hf:∀ st,f st=setPending st (F (pendingOf st))):Sim prog w A E s φ cmp (modify f) (modify f) :=
 dm fun st ps a=>by
  rw [hf,hf]
  exact ⟨a.kind,a.kind',a.arr,congrArg F a.pend,a.mg,a.fail,a.fail'⟩
theorem wH (b:∀ x y:Keyed,Sim prog w A E s φ cmp (lt' (φ x) (φ y)) (lt' x y)):Sim prog w A E s φ cmp sortRuns' sortRuns':=by
 rw [sortRuns'_eq]
 refine cC fun st ps a=>?_
 have hsz:(arrOf st).size=(arrOf ps).size:=by rw [a.arr,Array.size_map]
 dsimp only
 rw [hsz]
 generalize (arrOf ps).size=n
 repeat' first
  | exact aC rfl
  | refine bq (fun _=>?_) (fun _=>?_)
  | (refine bj (Aa b) ?_ (fun u=>?_) <;> try dsimp only)
  | (refine ao (Ab b) (fun u=>?_);try dsimp only)
  | (refine ao (oY b _) (fun u=>?_);try dsimp only)
  | (refine ao dl (fun u=>?_);try dsimp only)
  | (refine ao (oV (fun p=>p.push _) fun _=>rfl) (fun u=>?_);try dsimp only)
  | (refine ao (oV (fun p=>p.modify (p.size - 1) _) fun _=>rfl) (fun u=>?_);try dsimp only)
  | (refine cC fun st ps a=>?_;rw [a.pend];generalize pendingOf ps=p;try dsimp only)
  | (refine gu (gr fun i x=>?_) (fun d=>?_) (fun c d=>?_) <;> try dsimp only)
  | (generalize Array.back? _=d;rcases d with _ | ⟨s1,e,x⟩ <;> dsimp only)
  | (generalize (if p.size > 1 then p[p.size - 2]? else none)=d;rcases d with _ | ⟨s1,e,x⟩ <;> dsimp only)
end
end L2
end
section
namespace L2
open PySem PySem.Spec PyProof.Rows
def mP (n:Nat):Array Keyed:=((List.range n).map fun i=>((Value.ref i,Value.ref i):Keyed)).toArray
def k9 (x:Keyed):Option Nat:=match x.1 with
 | .ref i=>some i
 | _=>none
def ba (ns:List (List Int)):Option (List Nat) :=
 match ev (aw ns) (sortRuns'.run (SortSt.mk' (aP true) (mP ns.length) #[] 7 none)) none with
 | some ((_,st),_)=>(arrOf st).toList.mapM k9
 | none=>none
end L2
end
section
namespace L2
open PySem PySem.Spec PyProof.Rows
structure NRs (h:Heap) (bs:List Addr) (ns:List (List Int)):Prop where
 len:ns.length=bs.length
 at':∀ (i:Nat) (b:Addr) (n:List Int),bs[i]?=some b->ns[i]?=some n->IsNts h b n
theorem NRs.tail (r:NRs h (b :: bs) (n :: ns)):NRs h bs ns :=
 ⟨by simpa using r.len,fun i b n e1 a=>r.at' (i+1) b n (by simpa using e1) (by simpa using a)⟩
theorem NRs.keep (r:NRs h bs ns) (k:∀ b ∈ bs,∀ o,h.get? b=some o->h'.get? b=some o):NRs h' bs ns :=
 ⟨r.len,fun i b n e1 a=>(r.at' i b n e1 a).at (k b (Fj e1))⟩
theorem NRs.mem (r:NRs h bs ns):∀ b ∈ bs,∃ n ∈ ns,IsNts h b n:=fun b c=>by
 obtain ⟨i,hi⟩:=List.getElem?_of_mem c
 have a:i < ns.length:=by rw [r.len];exact (Fi.mp hi).1
 exact ⟨ns[i],List.getElem_mem _,r.at' i b _ hi (Fd a)⟩
def kOk (ns:List (List Int)):Prop:=(∀ n ∈ ns,n ≠ [])\/ns.head?=some []
theorem qM:ba []=some []:=by kernel_rfl
theorem qL (n:List Int):ba [n]=some [0]:=by kernel_rfl
section
variable {prog:Program} {w:World} {A:Around} {E:Value->Shared->Prop} {s:Shared}
theorem y6 (a:IsNts s.heap b []) (h:Q none s):wpAny (model prog w) A (firstOfTuple' (.ref b)) Q E s:=by
 obtain ⟨it,⟨o,e,c,k,d⟩,j⟩:=a
 refine E3 (wpAny_typeOf (T:="tuple") ⟨o,e,c⟩ ?_)
 rw [if_neg (by decide)]
 refine E3 (listItems_at e d ?_)
 have:it[0]?=none:=by
  rw [<- Array.getElem?_toList]
  generalize it.toList=l at j
  cases j
  rfl
 rw [this]
 exact E4 h
theorem iG:∀ (bs:List Addr) (ns:List (List Int)),NRs s.heap bs ns->(∀ os:List (Option Value),(ns.head?=some []->os.head?=some none)->Q os s) ->
  wpAny (model prog w) A ((bs.map Value.ref).mapM firstOfTuple') Q E s
 | [],[],_,q=>by
  simp only [List.map_nil,List.mapM_nil]
  exact E4 (q [] fun h=>by cases h)
 | [],_ :: _,r,_=>by have:=r.len;cases this
 | _ :: _,[],r,_=>by have:=r.len;cases this
 | b :: bs,n :: ns,r,q=>by
  rw [Fu,List.mapM_cons]
  have a:=r.at' 0 b n rfl rfl
  cases n with
  | nil=>exact E3 (y6 a (E3 (iG bs ns r.tail fun os _=>E4 (q (none :: os) fun _=>rfl))))
  | cons i n=>exact E3 (m8 a (by simp) fun j t=>E3 (iG bs ns r.tail fun os _=>E4 (q (some (.int j t) :: os) fun h=>by simp at h)))
theorem mm:∀ (bs:List Addr) (ns:List (List Int)),NRs s.heap bs ns->Q (bs.map fun _=>.type "tuple") s->wpAny (model prog w) A ((bs.map Value.ref).mapM typeOf) Q E s
 | [],_,_,q=>by
  simp only [List.map_nil,List.mapM_nil]
  exact E4 q
 | _ :: _,[],r,_=>by have:=r.len;cases this
 | b :: bs,n :: ns,r,q=>by
  rw [Fu,List.mapM_cons]
  obtain ⟨it,⟨o,e,c,k,d⟩,j⟩:=r.at' 0 b n rfl rfl
  exact E3 (wpAny_typeOf (T:="tuple") ⟨o,e,c⟩ (E3 (mm bs ns r.tail (E4 q))))
theorem yI (h2:bs ≠ []) (r:NRs s.heap bs ns) (c:kOk ns) (h:∀ k,rq k->Q k s):wpAny (model prog w) A (keyKind' (bs.map Value.ref).toArray) Q E s:=by
 rcases c with c | c
 ·refine yH h2 (fun b e=>?_) (h _ (.inl rfl))
  obtain ⟨n,f,x⟩:=r.mem b e
  exact ⟨n,c n f,x⟩
 ·rw [keyKind'_eq,List.mapM_toArray]
  refine E3 ?_
  rw [map_eq_pure_bind]
  refine E3 (iG bs ns r fun os d=>E4 ?_)
  have d:=d c
  obtain ⟨os,rfl⟩:∃ l,os=none :: l:=by
   cases os with
   | nil=>cases d
   | cons x l=>cases d;exact ⟨l,rfl⟩
  rw [if_neg (by simp),if_neg (by simp),oneTypeOnly'_eq,List.mapM_toArray]
  refine E3 (E3 ?_)
  rw [map_eq_pure_bind]
  refine E3 (mm bs ns r (E4 ?_))
  have h0:(List.map (fun _:Addr=>Value.type "tuple") bs).toArray[0]?=some (Value.type "tuple"):=by
   cases bs with
   | nil=>exact absurd rfl h2
   | cons b bs=>simp
  have a:((List.map (fun _:Addr=>Value.type "tuple") bs).toArray.all fun x=>x == Value.type "tuple")=true:=by
   simp only [List.all_toArray,List.all_map,List.all_eq_true]
   intro _ _
   rfl
  rw [h0]
  dsimp only
  rw [if_pos a]
  exact E4 (E4 (h _ (.inr rfl)))
theorem u5 (bs:List Addr):(bs.map Value.ref).toArray.zip (bs.map Value.ref).toArray=(mP bs.length).map (lD bs):=by
 apply Array.ext_getElem?
 intro i
 rw [List.zip_toArray,Array.getElem?_map]
 unfold mP
 simp only [List.getElem?_toArray,Fp]
 by_cases hi:i < bs.length
 ·rw [List.getElem?_range hi]
  have e:bs[i]?=some bs[i]:=Fd hi
  have:((bs.map Value.ref).zip (bs.map Value.ref))[i]?=some (Value.ref bs[i],Value.ref bs[i]):=by
   simp [List.getElem?_zip_eq_some,e]
  rw [this]
  simp [lD,List.getD,e]
 ·grind
theorem pG:∀ {l:List Keyed} {is:List Nat},l.mapM k9=some is->l.map (fun x=>(lD bs x).2)=is.map fun i=>Value.ref (bs.getD i 0)
 | [],is,h=>by cases h;rfl
 | x :: l,is,h=>by
  rw [List.mapM_cons] at h
  obtain ⟨i,e1,h⟩:=FF.mp h
  obtain ⟨c,a,h⟩:=FF.mp h
  cases h
  rw [Fu,Fu,pG a]
  congr 1
  unfold k9 at e1
  unfold lD
  cases b:x.1 <;> rw [b] at e1 <;> cases e1
  rfl
theorem uM (hu:A.units < cLine) (r:NRs s.heap bs ns) (g:rq k) (c:ba ns=some is) (h:∀ b,(arrOf b).map (·.2)=(is.map fun i=>Value.ref (bs.getD i 0)).toArray->failedOf b=none->Q () b) :
  wpS (model prog w) A E s sortRuns' Q (SortSt.mk' k ((bs.map Value.ref).toArray.zip (bs.map Value.ref).toArray) #[] 7 none):=by
 unfold ba at c
 cases e:ev (aw ns) (sortRuns'.run (SortSt.mk' (aP true) (mP ns.length) #[] 7 none)) none with
 | none=>rw [e] at c;cases c
 | some p =>
  obtain ⟨⟨u,ps⟩,q⟩:=p
  rw [e] at c
  have c:(arrOf ps).toList.mapM k9=some is:=c
  have j:∀ (i:Nat) (n:List Int),ns[i]?=some n->IsNts s.heap (bs.getD i 0) n:=fun i n e=>by
   have hi:i < bs.length:=by rw [<- r.len];exact (Fi.mp e).1
   have d:bs[i]?=some bs[i]:=Fd hi
   rw [List.getD,d]
   exact r.at' i _ n d e
  obtain ⟨a,b,_,f,_,hw⟩:=wH (C4 (prog:=prog) (w:=w) (E:=E) hu j) (SortSt.mk' k ((bs.map Value.ref).toArray.zip (bs.map Value.ref).toArray) #[] 7 none) (SortSt.mk' (aP true) (mP ns.length) #[] 7 none) u ps q
   ⟨g,rfl,by rw [r.len];exact u5 bs,rfl,rfl,rfl,rfl⟩ e
  refine hw _ (h b ?_ f.fail)
  rw [f.arr,Array.map_map]
  apply Array.ext'
  rw [Array.toList_map]
  exact pG c
theorem wF {n:Nat} (hu:A.units < cLine) (p:s.heap.get? a=some (seqObj "list" (bs.map Value.ref).toArray n)) (r:NRs s.heap bs ns) (v:kOk ns) (l:ba ns=some is) (hsz:bs.length<=sizeLine) (x:is.length<=sizeLine) (h:P (.done (.ret .none)) { s with heap:=sortedHeap s.heap a (bs.map Value.ref) (is.map fun i=>Value.ref (bs.getD i 0)).toArray }) :
  wpAny (model prog w) A (Builtin.«list.sort» ⟨[.ref a],[]⟩) P E s:=by
 rw [list_sort_plain]
 have D:a < s.heap.objs.size:=Fe p
 have hsz2:(bs.map Value.ref).toArray.size<=sizeLine:=by simpa using hsz
 have g:(is.map fun i=>Value.ref (bs.getD i 0)).toArray.size<=sizeLine:=by simpa using x
 have q:∀ b ∈ bs,b ≠ a:=fun b u z=>by
  obtain ⟨m,_,it,⟨o,e1,c,_⟩,_⟩:=r.mem b u
  rw [z,p] at e1
  cases e1
  have c:Value.type "list"=Value.type "tuple":=c
  injection c with c
  exact absurd c (by decide)
 refine E3 (listItems_at p rfl ?_)
 refine E3 (listUpdate_at p rfl ?_)
 obtain ⟨e1,j⟩:∃ e1,(s.heap.update a (Obj.mapSeq fun _=>#[])).get? a=some (seqObj "list" #[] e1):=⟨_,get?_update_seq p (fun _=>#[])⟩
 refine E3 (seqEpoch_at j rfl ?_)
 refine E3 (wpAny_newTuple ?_)
 refine E3 (wpAny_newList ?_)
 refine E5 ?_
 have d:(((s.heap.update a (Obj.mapSeq fun _=>#[])).push (seqObj "tuple" (bs.map Value.ref).toArray 0)).push (seqObj "list" #[] 0)).get? a=some (seqObj "list" #[] e1) :=
  E8 _ (E8 _ j)
 have y:NRs (((s.heap.update a (Obj.mapSeq fun _=>#[])).push (seqObj "tuple" (bs.map Value.ref).toArray 0)).push (seqObj "list" #[] 0)) bs ns:=r.keep fun b u o e =>
  E8 _ (E8 _ ((FK _ _ (Ne.symm (q b u))).trans e))
 show wpAny (model prog w) A _ P E { s with heap:=((s.heap.update a (Obj.mapSeq fun _=>#[])).push (seqObj "tuple" (bs.map Value.ref).toArray 0)).push (seqObj "list" #[] 0) }
 dsimp only
 by_cases h2:(bs.map Value.ref).toArray.size < 2
 ·rw [if_pos h2,if_pos h2]
  refine E3 (E4 ?_)
  rw [StateT.run_pure]
  refine E3 (E4 ?_)
  dsimp only
  have out:((bs.map Value.ref).toArray.zip (bs.map Value.ref).toArray).map (·.2)=(is.map fun i=>Value.ref (bs.getD i 0)).toArray:=by
   have B:=r.len
   match bs,ns,B,h2 with
   | [],[],_,_=>rw [qM] at l;cases l;simp
   | [b],[n],_,_=>rw [qL] at l;cases l;simp [List.zip_toArray]
   | _ :: _ :: _,_,_,h2=>simp at h2;lia
  refine E3 (seqEpoch_at d rfl ?_)
  show wpAny _ _ (Builtin.List.listUpdate (.ref a) (fun _=>((bs.map Value.ref).toArray.zip (bs.map Value.ref).toArray).map (·.2)) >>= _) _ _ _
  rw [out]
  refine E3 (listUpdate_at d rfl ?_ (hsz2:=Nat.le_succ_of_le g))
  simp only [bne_self_eq_false,FI,if_false]
  exact E4 h
 ·rw [if_neg h2,if_neg h2]
  have t:bs ≠ []:=fun z=>by subst z;simp at h2
  refine E3 (yI t y v fun k v=>?_)
  refine E3 (wpAny_mono (uM (Q:=fun _ f=>(arrOf f).map (·.2)=(is.map fun i=>Value.ref (bs.getD i 0)).toArray/\failedOf f=none) hu y v l fun f a1 a2=>⟨a1,a2⟩) ?_ fun _ _ e=>e)
  rintro ⟨⟨⟩,f⟩ s' ⟨rfl,C,hf⟩
  dsimp only
  refine E3 (seqEpoch_at d rfl ?_)
  rw [C]
  refine E3 (listUpdate_at d rfl ?_ (hsz2:=Nat.le_succ_of_le g))
  rw [hf]
  simp only [bne_self_eq_false,FI,if_false]
  exact E4 h
end
end L2
end
section
namespace L2
open PySem PySem.Spec PyProof.Rows
section
variable {prog:Program} {w:World} {A:Around} {E:Value->Shared->Prop} {s:Shared}
theorem qK (hu:A.units+2 < cLine) (n:s.heap.IsList l (bs.map Value.ref).toArray) (r:NRs s.heap bs ns) (g:kOk ns) (k:ba ns=some is) (hsz:bs.length<=sizeLine) (d:is.length<=sizeLine) (h:∀ h' p,s.heap.objs.size<=p->(∀ b o,s.heap.get? b=some o->h'.get? b=some o)->(∃ e,h'.get? p=some (seqObj "list" (is.map fun i=>Value.ref (bs.getD i 0)).toArray e))->Q (.ref p) { s with heap:=h' }) :
  wpAny (model prog w) A (call (.builtin "sorted") [.ref l]) Q E s:=by
 refine Calls.call_function_entry kind_sorted plain_sorted entry_sorted (args_sorted1 _) ?_
 unfold Builtin.«sorted»
 refine E3 (m:=checkCount "sorted" 1 1 _) (E4 ?_)
 refine E3 (collect_list n ?_ (by rw [Fh];exact hsz))
 refine E3 (wpAny_newList ?_ (by rw [Fh];exact hsz))
 obtain ⟨h1,f,j,e1⟩:∃ h1,(∀ b o,s.heap.get? b=some o->h1.get? b=some o)/\s.heap.objs.size<=h1.objs.size/\h1=(s.heap.push (seqObj "list" #[] 0)).update s.heap.objs.size (Obj.mapSeq (· ++ (bs.map Value.ref).toArray)):=by
  refine ⟨_,fun b o e=>?_,?_,rfl⟩
  ·exact (FK _ _ (Nat.ne_of_gt (Fe e))).trans (E8 _ e)
  ·rw [Heap.size_update,FL]
   exact Nat.le_succ _
 rw [<- e1]
 have a:(h1.push (seqObj "list" (bs.map Value.ref).toArray 0)).get? h1.objs.size=some (seqObj "list" (bs.map Value.ref).toArray 0):=Fg _ rfl
 have k2:∀ b o,s.heap.get? b=some o->(h1.push (seqObj "list" (bs.map Value.ref).toArray 0)).get? b=some o:=fun b o e=>E8 _ (f b o e)
 show wpAny _ _ _ _ _ { s with heap:=h1.push (seqObj "list" (bs.map Value.ref).toArray 0) }
 refine E3 (E5 (wpAny_call_entry slot_list_sort ⟨_,a,rfl⟩ entry_list_sort (wF (s:={ s with heap:=h1.push (seqObj "list" (bs.map Value.ref).toArray 0) }) ?_ a (r.keep fun b _ o e=>k2 b o e) g k hsz d ⟨_,rfl,?_⟩) (args_list_sort _)))
 ·exact hu
 refine E4 ⟨_,rfl,h _ h1.objs.size j (fun b o e=>?_) ?_⟩
 ·have hb1:b < h1.objs.size:=Fe (f b o e)
  unfold sortedHeap
  refine (FK _ _ (Nat.ne_of_gt hb1)).trans (E8 _ (E8 _ ?_))
  exact (FK _ _ (Nat.ne_of_gt hb1)).trans (k2 b o e)
 ·unfold sortedHeap
  obtain ⟨e1,c⟩:∃ e1,((h1.push (seqObj "list" (bs.map Value.ref).toArray 0)).update h1.objs.size (Obj.mapSeq fun _=>#[])).get? h1.objs.size=some (seqObj "list" #[] e1):=⟨_,get?_update_seq a (fun _=>#[])⟩
  exact ⟨_,get?_update_seq (E8 _ (E8 _ c)) (fun _=>(is.map fun i=>Value.ref (bs.getD i 0)).toArray)⟩
end
section
variable {X:Cx}
def xz (K:FG):List V->Hp->VK->Prop:=fun xs H Q=>∃ (l:Addr) (bs:List Addr) (ns:List (List Int)) (is:List Nat),xs=[.ref l]/\SqL K H l (bs.map V.ref)/\ns.length=bs.length/\(∀ (i:Nat) (b:Addr) (n:List Int),bs[i]?=some b->ns[i]?=some n->H b=some (.tup (n.map V.int))) /\
 kOk ns/\ba ns=some is/\ns.length<=sizeLine/\is.length<=sizeLine/\∀ p,H p=none->Q (.ref p) (upd H p (.lst (is.map fun i=>V.ref (bs.getD i 0))))
theorem sT:∀ {us:List Value} {bs:List Addr},Vals (bs.map V.ref) us->us=bs.map Value.ref
 | _,[],h=>by cases h;rfl
 | _,b :: bs,h=>by
  cases h with
  | cons r h =>
   cases (show _=Value.ref b from r)
   rw [Fu,sT h]
theorem se (hu:X.A.units+2 < cLine):CallR X (.builtin "sorted") (xz X.K):=by
 intro pins s σ H xs us Q I z h
 obtain ⟨l,bs,ns,is,rfl,w,y,g,t,v,hz,c,q⟩:=h
 obtain ⟨u,rfl,j⟩:=bR z
 cases (show u=Value.ref l from j)
 obtain ⟨its,m,p,_⟩:=I.list w
 have B:=sT m
 subst B
 refine qK hu (by simpa using p.isList) ⟨y,fun i b n e1 x=>?_⟩ t v (by lia) c fun h' p f k ⟨e,he⟩=>?_
 ·obtain ⟨its,r,p,_⟩:=I.tuple (SqT.of (g i b n e1 x))
  exact ⟨_,p,iE r⟩
 ·have C:(is.map fun i=>V.ref (bs.getD i 0))=(is.map fun i=>bs.getD i 0).map V.ref:=by rw [FQ];rfl
  have d:(is.map fun i=>Value.ref (bs.getD i 0))=(is.map fun i=>bs.getD i 0).map Value.ref:=by rw [FQ];rfl
  refine ⟨.ref p,_,I.laid (a:=p) (o:=.lst (is.map fun i=>V.ref (bs.getD i 0))) (t':=s.toks) (fun b o q=>k b o q) f ⟨by rw [Fh];exact c,is.map (fun i=>Value.ref (bs.getD i 0)),e,?_,he⟩,rfl,q p (I.hok.fresh f)⟩
  rw [C,d]
  exact iI _
end
end L2
end
section
namespace L2
open PySem PySem.W PySem.Spec PyProof.Rows
abbrev excO (a:Addr) (cls:Value):HO:=.ext fun h=>∃ o,h.get? a=some o/\o.cls=cls
abbrev excF (ob:Obj) (a:Addr) (cls:Value):HO:=.frz ob (excO a cls)
structure ExcK (K:FG) (D:Addr):Prop where
 ga:findIn K (.ref D) "__getattribute__"=some (some (.builtin "BaseException.__getattribute__"))
 gt:findIn K (.ref D) "__getattr__"=some none
 cl:(clsIn K D).isSome=true
 ca:findIn K (.ref D) "__class__"=some (some (.builtin "object.__class__"))
 sp:specialIn K (.builtin "object.__class__") "__get__"=some (some (.builtin "getset_descriptor.__get__"))
 tk:takesIn K (.builtin "object.__class__")=some true
 ob:mroIn K D (.type "object")=some true
 be:mroIn K D (.type "BaseException")=some true
structure XName (K:FG) (c:String) (D:Addr):Prop where
 ns:nsIn K mainGlobals (Str.ofString c)=some (some (.ref D))
 ex:ExcK K D
theorem XName.inj {K:FG} (a:XName K c D) (b:XName K c D'):D=D':=by
 have:=a.ns.symm.trans b.ns
 cases this
 rfl
end L2
end
section
namespace L2
open PySem
section
variable {K:FG} {h:Heap} {mg:Str->Option Value}
theorem ju:∀ {l:List Nat} {a:Nat} {o:Obj},(l.filterMap fun a=>(h.get? a).map fun o=>(a,o)).lookup a=some o->h.get? a=some o
 | [],_,_,e=>by cases e
 | b :: l,a,o,e=>by
  rw [List.filterMap_cons] at e
  cases d:h.get? b with
  | none=>rw [d] at e;exact ju e
  | some p =>
   rw [d] at e
   replace e:List.lookup a ((b,p) :: l.filterMap fun a=>(h.get? a).map fun o=>(a,o))=some o:=e
   rw [List.lookup_cons] at e
   cases c:a == b with
   | true=>rw [c] at e;cases eq_of_beq c;cases e;exact d
   | false=>rw [c] at e;exact ju e
theorem fragAt_in (h:Heap):(yX h).In h:=fun _ _ e=>ju e
def stPos (s:Stmt):Pos:=match s with
 | .FunctionDef _ _ _ _ _ _ _ _ _ p=>p
 | _=>⟨0,0,0,0⟩
set_option tactic.hygienic true in
theorem EI (X:K.In h) (G:h.Ns mainGlobals mg) (e:qe K n=lA n st):Def K mg n st:=by
 unfold qe at e
 split at e
 ·rename_i f hf
  split at e
  ·rename_i d c fd sl a
   unfold lA at e
   obtain ⟨name,qual,params,body,scope,globals,closure,defaults,kw,doc,pm,an,cd,ct,bi⟩:=fd
   simp only [Option.some.injEq,Prod.mk.injEq] at e
   obtain ⟨rfl,rfl,rfl,rfl,rfl,rfl,rfl,rfl,rfl,b⟩:=e
   exact ⟨f,_,EC (st:=st) a b (by unfold PySem.W.keepIn;simp only [a]),PySem.W.mg_of X G hf⟩
  ·cases e
 ·cases e
theorem rz {α β:Type} {f g:α->β} {l:List α} (e:l.map f=l.map g) (i:Nat) {a:α} (h:l[i]?=some a):f a=g a:=List.map_inj_left.mp e a (Fj h)
theorem aM {ds:List (Str × Stmt)} (X:K.In h) (G:h.Ns mainGlobals mg) (e:ds.map (fun p=>qe K p.1)=ds.map (fun p=>lA p.1 p.2)) (i:Nat) (hi:ds[i]?=some (n,st)):Def K mg n st:=EI X G (rz e i hi)
theorem bX {l:List Str} (X:K.In h) (G:h.Ns mainGlobals mg) (e:l.map (PySem.W.nsIn K mainGlobals)=l.map (fun _=>some none)) (i:Nat) (hi:l[i]?=some n):mg n=none:=PySem.W.mg_none_of X G (rz e i hi)
set_option tactic.hygienic true in
theorem rR {l:List (Str × Int)} {v:Int} (X:K.In h) (G:h.Ns mainGlobals mg) (e:l.map (fun p=>n4 K p.1)=l.map (fun p=>some p.2)) (i:Nat) (hi:l[i]?=some (n,v)):∃ t,mg n=some (.int v t):=by
 have e:=rz e i hi
 unfold n4 at e
 dsimp only at e
 split at e
 ·rename_i b t a;cases e;exact ⟨t,PySem.W.mg_of X G a⟩
 ·cases e
theorem walk_ofS {l:PySem.W.OpenLaw} {n k:Nat} {S:FG->Prop} {sp:FG->Sp} (I:l.most=some n) (m:n<=sizeLine) (r:d.params.defaults=[]) (B:Room k callerA) (D:∀ (w:World) (h:Heap),YP w h->∃ K:FG,K.In h/\S K) (F:∀ (w:World) (mg:Str->Option Value) (i:Addr) (h:Heap) (K:FG),S K->K.In h->h.Ns mainGlobals mg->mg d.name=some (.ref i) ->
   ∃ fd:FuncData,(∀ (s:Shared) (u:Value),BindsTo s fd ⟨[u],[]⟩ [(x,u)]) /\
    ∀ base:Heap,K.In base->base.Ns mainGlobals mg->FnOk l.prog w K mg base CX k i fd [x] (sp K)) (j:∀ (K:FG) (H:Hp) (a:Addr) (ns:List Int),ns.length<=n->B0 H->SqL K H a (ns.map V.int)->sp K [.ref a] H (fun v _=>v=.bl true) fun _ _ _=>False) (t:∀ (H:Hp) (s:Shared) (e:Value) (s':Shared),CX [] H s (fun _ _ _=>False) e s'->False) :
  PySem.W.WalkO q loose XP YP l.row.toRowW d [] (fun f A=>PySem.call f A):=by
 refine Att.attach_call I r fun w s₀ L mg mb i o pm cd doc a A ns G Y O hd N p c hints hlen J=>?_
 obtain ⟨K,z,y⟩:=D w _ Y
 obtain ⟨fd,C,E⟩:=F w mg i _ K y z G.T.g p
 exact yD z G.T.g G.T.b G.T.builtins G.T.nolimit J c hints (FN hlen m) B E C (fun H M y=>j K H a ns hlen M y) fun H e s'=>t H L e s'
end
end L2
end
section
namespace L3
open PySem L2
theorem nsE {α:Type} {p:α} {P:Prop} (e:(none:Option α)=some p):P:=nomatch e
inductive D where
 | non | bl (b:Bool) | int (i:Int) | str (x:Str)
 | tup (xs:List D) | lst (xs:List D) | fls (xs:List D) | dk (kvs:List (Key × D)) | dt (kvs:List (List Key × D))
 | exc (c:String) (fs:List (String × D))
def jb:D->Bool
 | .lst _=>true
 | .dk _=>true
 | .dt _=>true
 | _=>false
def FzL (K:FG) (H:Hp) (a:Addr) (b:List V):Prop:=(∃ o,H a=some (.frz o (.lst b)))\/∃ (o:Obj) (its:Array Value) (n:Nat),K.lookup a=some o/\o.cls=.type "list"/\o.dict=none/\o.data=.seq its n/\its.size<=sizeLine/\Vals b its.toList
theorem FzL.sq (h:FzL K H a vs):SqL K H a vs:=h.elim (fun ⟨o,e⟩=>.inl (.inr ⟨o,e⟩)) .inr
inductive Reps (R:D->V->List Addr->Prop):List D->List V->List Addr->Prop where
 | nil:Reps R [] [] []
 | cons {d v L ds vs L'}:R d v L->Reps R ds vs L'->Reps R (d :: ds) (v :: vs) (L ++ L')
inductive Rep (K:FG) (H:Hp):D->V->List Addr->Prop where
 | non:Rep K H .non .non []
 | bl (b:Bool):Rep K H (.bl b) (.bl b) []
 | int (i:Int):Rep K H (.int i) (.int i) []
 | str (x:Str):Rep K H (.str x) (.str x) []
 | tup {xs a vs L}:H a=some (.tup vs)->Reps (Rep K H) xs vs L->Rep K H (.tup xs) (.ref a) L
 | lst {xs a vs L}:H a=some (.lst vs)->Reps (Rep K H) xs vs L->Rep K H (.lst xs) (.ref a) (a :: L)
 | lstF {xs a vs L}:FzL K H a vs->Reps (Rep K H) xs vs L->Rep K H (.fls xs) (.ref a) L
 | dK {kvs a ps L}:H a=some (.dK ps)->kvs.map (·.1)=ps.map (·.1)->Reps (Rep K H) (kvs.map (·.2)) (ps.map (·.2)) L->Rep K H (.dk kvs) (.ref a) (a :: L)
 | dT {kvs a ps L}:H a=some (.dT ps)->kvs.map (·.1)=ps.map (·.1)->Reps (Rep K H) (kvs.map (·.2)) (ps.map (·.2)) L->Rep K H (.dt kvs) (.ref a) (a :: L)
 | exc {c a D ob}:XName K c D->H a=some (excF ob a (.ref D))->Rep K H (.exc c []) (.ref a) []
def RepV (K:FG) (H:Hp) (d:D) (v:V) (L:List Addr):Prop:=match d with
 | .non=>v=.non/\L=[]
 | .bl b=>v=.bl b/\L=[]
 | .int i=>v=.int i/\L=[]
 | .str x=>v=.str x/\L=[]
 | .tup xs=>∃ a e,v=.ref a/\H a=some (.tup e)/\Reps (Rep K H) xs e L
 | .lst xs=>∃ a e L',v=.ref a/\L=a :: L'/\H a=some (.lst e)/\Reps (Rep K H) xs e L'
 | .fls xs=>∃ a e,v=.ref a/\FzL K H a e/\Reps (Rep K H) xs e L
 | .dk kvs=>∃ a ps L',v=.ref a/\L=a :: L'/\H a=some (.dK ps)/\kvs.map (·.1)=ps.map (·.1)/\Reps (Rep K H) (kvs.map (·.2)) (ps.map (·.2)) L'
 | .dt kvs=>∃ a ps L',v=.ref a/\L=a :: L'/\H a=some (.dT ps)/\kvs.map (·.1)=ps.map (·.1)/\Reps (Rep K H) (kvs.map (·.2)) (ps.map (·.2)) L'
 | .exc c fs=>fs=[]/\L=[]/\∃ a D ob,v=.ref a/\XName K c D/\H a=some (excF ob a (.ref D))
theorem Rep.view (r:Rep K H d v L):RepV K H d v L:=by
 cases r with
 | non=>exact ⟨rfl,rfl⟩
 | bl b=>exact ⟨rfl,rfl⟩
 | int i=>exact ⟨rfl,rfl⟩
 | str x=>exact ⟨rfl,rfl⟩
 | tup h r=>exact ⟨_,_,rfl,h,r⟩
 | lst h r=>exact ⟨_,_,_,rfl,rfl,h,r⟩
 | lstF h r=>exact ⟨_,_,rfl,h,r⟩
 | dK h k r=>exact ⟨_,_,_,rfl,rfl,h,k,r⟩
 | dT h k r=>exact ⟨_,_,_,rfl,rfl,h,k,r⟩
 | exc n h=>exact ⟨rfl,rfl,_,_,_,rfl,n,h⟩
def MutAt (H:Hp) (b:Addr):Prop:=(∃ xs,H b=some (.lst xs))\/(∃ ps,H b=some (.dK ps))\/∃ ps,H b=some (.dT ps)
theorem MutAt.ex (m:MutAt H b):∃ o,H b=some o:=by
 rcases m with ⟨_,h⟩ | ⟨_,h⟩ | ⟨_,h⟩ <;> exact ⟨_,h⟩
theorem MutAt.notup (m:MutAt H b) (h:H b=some (.tup vs)):False:=by
 rcases m with ⟨_,e⟩ | ⟨_,e⟩ | ⟨_,e⟩ <;> rw [e] at h <;> cases h
theorem MutAt.nofrz (m:MutAt H b) (h:H b=some (.frz o u)):False:=by
 rcases m with ⟨_,e⟩ | ⟨_,e⟩ | ⟨_,e⟩ <;> rw [e] at h <;> cases h
theorem FzL.keep {M:Addr->Prop} (h:FzL K H a vs) (k:∀ b o,H b=some o->¬ M b->H' b=some o) (hm:∀ b,M b->MutAt H b):FzL K H' a vs:=h.elim (fun ⟨o,e⟩=>.inl ⟨o,k a _ e fun z=>(hm a z).nofrz e⟩) .inr
section
variable {K:FG} {H H':Hp} {d:D} {v:V} {L:List Addr}
theorem Rep.inH (r:Rep K H d v L):∀ b ∈ L,MutAt H b:=by
 refine Rep.rec (motive_1:=fun _ _ L _=>∀ b ∈ L,MutAt H b) (motive_2:=fun _ _ L _=>∀ b ∈ L,MutAt H b) ?_ ?_ ?_ ?_ ?_ ?_ ?_ ?_ ?_ ?_ ?_ ?_ r
 ·intro b a;cases a
 ·intro _ b a;cases a
 ·intro _ b a;cases a
 ·intro _ b a;cases a
 ·intro _ _ _ _ _ _ c;exact c
 ·intro _ _ _ _ h _ c b a
  rcases Fc.mp a with e | a
  ·rw [e];exact .inl ⟨_,h⟩
  ·exact c b a
 ·intro _ _ _ _ _ _ c;exact c
 ·intro _ _ _ _ h _ _ c b a
  rcases Fc.mp a with e | a
  ·rw [e];exact .inr (.inl ⟨_,h⟩)
  ·exact c b a
 ·intro _ _ _ _ h _ _ c b a
  rcases Fc.mp a with e | a
  ·rw [e];exact .inr (.inr ⟨_,h⟩)
  ·exact c b a
 ·intro _ _ _ _ _ _ b a;cases a
 ·intro b a;cases a
 ·grind
theorem Reps.inH (r:Reps (Rep K H) ds vs L):∀ b ∈ L,MutAt H b:=by
 induction r with
 | nil=>intro b a;cases a
 | cons r _ ih =>
  intro b a
  rcases Ff.mp a with h | h
  ·exact r.inH b h
  ·exact ih b h
theorem Rep.keep {M:Addr->Prop} (k:∀ b o,H b=some o->¬ M b->H' b=some o) (hm:∀ b,M b->MutAt H b) (r:Rep K H d v L):(∀ b ∈ L,¬ M b)->Rep K H' d v L:=by
 refine Rep.rec (motive_1:=fun d v L _=>(∀ b ∈ L,¬ M b)->Rep K H' d v L) (motive_2:=fun ds j L _=>(∀ b ∈ L,¬ M b)->Reps (Rep K H') ds j L) ?_ ?_ ?_ ?_ ?_ ?_ ?_ ?_ ?_ ?_ ?_ ?_ r
 ·intro _;exact .non
 ·intro b _;exact .bl b
 ·intro b _;exact .int b
 ·intro b _;exact .str b
 ·intro xs a j L h _ i f
  exact .tup (k a _ h fun z=>(hm a z).notup h) (i f)
 ·intro xs a j L h _ i f
  exact .lst (k a _ h (f a E6)) (i fun b g=>f b (E7 _ g))
 ·intro xs a j L h _ i f
  exact .lstF (h.keep k hm) (i f)
 ·intro kvs a ps L h e _ i f
  exact .dK (k a _ h (f a E6)) e (i fun b g=>f b (E7 _ g))
 ·intro kvs a ps L h e _ i f
  exact .dT (k a _ h (f a E6)) e (i fun b g=>f b (E7 _ g))
 ·intro c a D ob n h _
  exact .exc n (k a _ h fun z=>(hm a z).nofrz h)
 ·intro _;exact .nil
 ·intro d v L ds j L' _ _ m l f
  exact .cons (m fun b g=>f b (Fa _ g)) (l fun b g=>f b (Fb _ g))
theorem Rep.same (r:Rep K H d v L) (s:Same H H'):Rep K H' d v L:=r.keep (M:=fun _=>False) (fun b o h _=>s b o h) (fun _ z=>z.elim) fun _ _ z=>z
theorem Reps.keep {M:Addr->Prop} (k:∀ b o,H b=some o->¬ M b->H' b=some o) (hm:∀ b,M b->MutAt H b) (r:Reps (Rep K H) ds vs L):(∀ b ∈ L,¬ M b)->Reps (Rep K H') ds vs L:=by
 induction r with
 | nil=>intro _;exact .nil
 | cons r _ ih=>intro c;exact .cons (r.keep k hm fun b a=>c b (Fa _ a)) (ih fun b a=>c b (Fb _ a))
theorem Reps.same (r:Reps (Rep K H) ds vs L) (s:Same H H'):Reps (Rep K H') ds vs L:=r.keep (M:=fun _=>False) (fun b o h _=>s b o h) (fun _ z=>z.elim) fun _ _ z=>z
end
inductive Fl where
 | u | l | z
 deriving DecidableEq
structure It3 where
 d:D
 v:V
 L:List Addr
 f:Fl
abbrev Sto:=List (Option (D × Fl))
structure Gm where
 H0:Hp
 bw:Addr->Prop
 pr:Nat->Bool
 σ0:St
 orig:Hp
 src:Addr->Prop
 lv:Nat->Option V
def OwnOk (G:Gm) (x:It3):Prop:=jb x.d=true/\∃ a L',x.v=.ref a/\x.L=a :: L'/\a ∉ L'/\(x.f=.u->G.H0 a=none\/G.bw a)
structure ItOk (K:FG) (G:Gm) (H:Hp) (x:It3):Prop where
 rep:Rep K H x.d x.v x.L
 own:x.f ≠ .z->OwnOk G x
 src:∀ c ∈ x.L,G.H0 c=none\/G.src c
structure Fx (G:Gm) (H:Hp) (T:List It3) (g:Nat->Option It3):Prop where
 frT:∀ x ∈ T,x.f ≠ .z->∀ a,x.v=.ref a->G.orig a=none
 frS:∀ i x,g i=some x->G.pr i=false->x.f ≠ .z->∀ a,x.v=.ref a->G.orig a=none
 bin:∀ b,G.bw b->∃ o,H b=some o
 ob:∀ b o,G.orig b=some o->∃ o',H b=some o'
 lvS:∀ i x,g i=some x->x.f=.l->G.lv i=some x.v
def NoRoot (x y:It3):Prop:=x.f ≠ .z->∀ a,x.v=.ref a->a ∉ y.L
def Apart3 (x y:It3):Prop:=NoRoot x y/\NoRoot y x
structure Wf (K:FG) (G:Gm) (H:Hp) (σ:St) (ρ:Sto) (T:List It3) (g:Nat->Option It3):Prop where
 len:σ.length = ρ.length
 sl:∀ i,(g i).map (fun x=>(x.d,x.f))=(ρ[i]?).join
 sv:∀ i x,g i=some x->σ[i]?=some (some x.v)
 okS:∀ i x,g i=some x->ItOk K G H x
 okT:∀ x ∈ T,ItOk K G H x
 ss:∀ i j x y,i ≠ j->g i=some x->g j=some y->NoRoot x y
 st:∀ i x,g i=some x->∀ y ∈ T,Apart3 x y
 tt:T.Pairwise Apart3
 base:∀ b o,G.H0 b=some o->¬ G.bw b->H b=some o
 pro:∀ i,G.pr i=true->σ[i]?=G.σ0[i]?
 fx:Fx G H T g
structure Le (K:FG) (G:Gm) (W:D->Sto->Prop) (G0:Gm) (W0:D->Sto->Prop):Prop where
 pr:G.pr=G0.pr
 ex:∀ (H:Hp) (σ:St) (ρ:Sto) (T:List It3) (g:Nat->Option It3) (e:D),Wf K G H σ ρ T g->W e ρ->∃ ρ0 T0 g0,Wf K G0 H σ ρ0 T0 g0/\W0 e ρ0
theorem Le.refl (K:FG) (G:Gm) (W:D->Sto->Prop):Le K G W G W:=⟨rfl,fun _ _ ρ T g _ w h=>⟨ρ,T,g,w,h⟩⟩
theorem Le.trans (a:Le K G W G1 W1) (b:Le K G1 W1 G2 W2):Le K G W G2 W2:=⟨a.pr.trans b.pr,fun H σ ρ T g e w h=>by
 obtain ⟨ρ1,c,g1,d,h1⟩:=a.ex H σ ρ T g e w h
 exact b.ex H σ ρ1 c g1 e d h1⟩
section
variable {K:FG} {G:Gm} {H H':Hp} {σ:St} {ρ:Sto} {T T':List It3} {g:Nat->Option It3} {x y z:It3}
theorem ItOk.keep {M:Addr->Prop} (h:ItOk K G H x) (k:∀ b o,H b=some o->¬ M b->H' b=some o) (hm:∀ b,M b->MutAt H b) (a:∀ b ∈ x.L,¬ M b):ItOk K G H' x:=⟨h.rep.keep k hm a,h.own,h.src⟩
theorem ItOk.same (h:ItOk K G H x) (s:Same H H'):ItOk K G H' x:=⟨h.rep.same s,h.own,h.src⟩
theorem Fx.more (f:Fx G H T g) (s:∀ b o,H b=some o->∃ o',H' b=some o'):Fx G H' T g:=⟨f.frT,f.frS,fun b h=>let ⟨o,e⟩:=f.bin b h;s b o e,fun b o h=>let ⟨o',e⟩:=f.ob b o h;s b o' e,f.lvS⟩
theorem Fx.sub (f:Fx G H T g) (h:∀ x ∈ T',x ∈ T):Fx G H T' g:=⟨fun x a=>f.frT x (h x a),f.frS,f.bin,f.ob,f.lvS⟩
theorem Wf.grow (w:Wf K G H σ ρ T g) (s:Same H H'):Wf K G H' σ ρ T g :=
 ⟨w.len,w.sl,w.sv,fun i x e=>(w.okS i x e).same s,fun x a=>(w.okT x a).same s,w.ss,w.st,w.tt,fun b o e n=>s b o (w.base b o e n),w.pro,w.fx.more fun b o h=>⟨o,s b o h⟩⟩
theorem Wf.sub (w:Wf K G H σ ρ T g) (h:T'.Sublist T):Wf K G H σ ρ T' g :=
 ⟨w.len,w.sl,w.sv,w.okS,fun x a=>w.okT x (h.subset a),w.ss,fun i x e y b=>w.st i x e y (h.subset b),w.tt.sublist h,w.base,w.pro,w.fx.sub fun x a=>h.subset a⟩
def Itm (T:List It3) (g:Nat->Option It3) (y:It3):Prop:=(∃ i,g i=some y)\/y ∈ T
def dg (T:List It3) (g:Nat->Option It3) (c:Addr):Prop:=(∀ i z,g i=some z->z.f ≠ .z->z.v ≠ .ref c)/\∀ z ∈ T,z.f ≠ .z->z.v ≠ .ref c
theorem Wf.itm (w:Wf K G H σ ρ T g) (h:Itm T g y):ItOk K G H y:=by
 rcases h with ⟨i,e⟩ | h
 ·exact w.okS i y e
 ·exact w.okT y h
theorem nN {α:Type} {R:α->α->Prop} {l:List α} (p:l.Pairwise R) (e:∀ a b,R a b->R b a):∀ a ∈ l,∀ b ∈ l,a ≠ b->R a b:=by
 induction p with
 | nil=>intro a d;cases d
 | @cons c l hc _ ih =>
  grind
theorem Apart3.symm (h:Apart3 x y):Apart3 y x:=⟨h.2,h.1⟩
theorem Wf.kid (w:Wf K G H σ ρ T g) (h:Itm T g y) (b:c ∈ y.L) (m:y.f ≠ .z->y.v ≠ .ref c):dg T g c:=by
 refine ⟨fun i z e hz a=>?_,fun z hm hz a=>?_⟩
 ·rcases h with ⟨j,k⟩ | d
  ·by_cases l:i=j
   ·grind
   ·exact w.ss i j z y l e k hz c a b
  ·exact (w.st i z e y d).1 hz c a b
 ·rcases h with ⟨j,k⟩ | d
  ·exact (w.st j y k z hm).2 hz c a b
  ·by_cases e:z=y
   ·subst e;exact m hz a
   ·exact (nN w.tt (fun _ _=>Apart3.symm) z hm y d e).1 hz c a b
structure New (K:FG) (H H':Hp) (Ks:Addr->Prop) (x:It3):Prop where
 same:Same H H'
 rep:Rep K H' x.d x.v x.L
 sub:∀ c ∈ x.L,H c=none\/Ks c
 own:x.f ≠ .z->jb x.d=true/\∃ a L',x.v=.ref a/\x.L=a :: L'/\a ∉ L'/\H a=none
theorem Wf.h0none (w:Wf K G H σ ρ T g) (h:H a=none):G.H0 a=none:=by
 cases e:G.H0 a with
 | none=>rfl
 | some o =>
  by_cases b:G.bw a
  ·obtain ⟨o,e⟩:=w.fx.bin a b
   rw [h] at e;cases e
  ·have:=w.base a o e b
   rw [h] at this;cases this
theorem Wf.ornone (w:Wf K G H σ ρ T g) (h:H a=none):G.orig a=none:=by
 cases e:G.orig a with
 | none=>rfl
 | some o =>
  obtain ⟨o,e⟩:=w.fx.ob a o e
  rw [h] at e;cases e
theorem Wf.push (w:Wf K G H σ ρ T g) (n:New K H H' Ks x) (m:∀ c,Ks c->dg T g c/\(G.H0 c=none\/G.src c)):Wf K G H' σ ρ (x :: T) g:=by
 have d:=w.grow n.same
 have a1:∀ y:It3,ItOk K G H y->(∀ c,Ks c->y.f ≠ .z->y.v ≠ .ref c)->Apart3 y x:=fun y p b=>by
  refine ⟨fun hf a e hm=>?_,fun hf a e hm=>?_⟩
  ·obtain ⟨_,t,L',e1,j,_,_⟩:=p.own hf
   rw [e] at e1
   cases e1
   rcases n.sub a hm with h | h
   ·obtain ⟨o,k⟩:=(p.rep.inH a (by rw [j];exact E6)).ex
    rw [h] at k;cases k
   ·exact b a h hf e
  ·obtain ⟨_,t,L',e1,j,_,h⟩:=n.own hf
   rw [e] at e1
   cases e1
   obtain ⟨o,k⟩:=(p.rep.inH a hm).ex
   rw [h] at k;cases k
 refine ⟨d.len,d.sl,d.sv,d.okS,?_,d.ss,?_,?_,d.base,d.pro,⟨fun y b hf a u=>?_,d.fx.frS,d.fx.bin,d.fx.ob,d.fx.lvS⟩⟩
 ·intro y b
  rcases Fc.mp b with rfl | b
  ·refine ⟨n.rep,fun hf=>?_,fun c l=>?_⟩
   ·obtain ⟨r,a,L',e1,j,s,q⟩:=n.own hf
    exact ⟨r,a,L',e1,j,s,fun _=>.inl (w.h0none q)⟩
   ·rcases n.sub c l with h | h
    ·exact .inl (w.h0none h)
    ·exact (m c h).2
  ·exact d.okT y b
 ·intro i z e y b
  rcases Fc.mp b with rfl | b
  ·exact a1 z (w.okS i z e) fun c l=>(m c l).1.1 i z e
  ·exact d.st i z e y b
 ·refine List.pairwise_cons.mpr ⟨fun y b=>(a1 y (w.okT y b) fun c l=>(m c l).1.2 y b).symm,d.tt⟩
 ·rcases Fc.mp b with h | b
  ·subst h
   obtain ⟨r,t,L',e1,j,s,q⟩:=n.own hf
   rw [u] at e1
   cases e1
   exact w.ornone q
  ·exact d.fx.frT y b hf a u
def cZ (ys:List It3) (c:Addr):Prop:=∃ y ∈ ys,c ∈ y.L/\(y.f ≠ .z->y.v ≠ .ref c)
theorem Wf.kids (w:Wf K G H σ ρ T g) (a:∀ y ∈ ys,Itm T g y) (h:cZ ys c):dg T g c/\(G.H0 c=none\/G.src c):=by
 obtain ⟨y,m,b,d⟩:=h
 exact ⟨w.kid (a y m) b d,(w.itm (a y m)).src c b⟩
structure Arg (K:FG) (H:Hp) (p:It3):Prop where
 rep:Rep K H p.d p.v p.L
 own:p.f ≠ .z->jb p.d=true/\∃ a L',p.v=.ref a/\p.L=a :: L'/\a ∉ L'
theorem ItOk.arg (h:ItOk K G H x):Arg K H x:=⟨h.rep,fun hf=>by
 obtain ⟨m,a,L',v1,v2,v3,_⟩:=h.own hf
 exact ⟨m,a,L',v1,v2,v3⟩⟩
end
end L3
end
section
namespace L3
open PySem L2
inductive R3 where
 | pl (i:Nat) | val (d:D) (f:Fl)
abbrev M3 (α:Type):=Sto->Option (Except D α × Sto)
abbrev EM:=M3 R3
noncomputable def af {α β:Type} (m:M3 α) (k:α->M3 β):M3 β:=fun ρ=>match m ρ with
 | none=>none
 | some (.error e,ρ')=>some (.error e,ρ')
 | some (.ok a,ρ')=>k a ρ'
noncomputable def aO {α:Type} (a:α):M3 α:=fun ρ=>some (.ok a,ρ)
noncomputable def aV {α:Type} (o:Option α):M3 α:=fun ρ=>o.map fun a=>(.ok a,ρ)
noncomputable def der (r:R3):M3 D:=fun ρ=>match r with
 | .pl i=>((ρ[i]?).join).map fun p=>(.ok p.1,ρ)
 | .val d _=>some (.ok d,ρ)
inductive Ar (σ:St):R3->V->List It3->Prop where
 | pl {i:Nat} {v:V}:σ[i]?=some (some v)->Ar σ (.pl i) v []
 | val (x:It3):Ar σ (.val x.d x.f) x.v [x]
def Got (K:FG) (G:Gm) (σ:St) (ρ:Sto) (T:List It3) (r:R3) (v:V) (H:Hp):Prop:=∃ Ts g,Wf K G H σ ρ (Ts ++ T) g/\Ar σ r v Ts
def tE (K:FG) (G0:Gm) (W0:D->Sto->Prop) (m:EM):TE:=fun σ H Q=>∃ G W,Le K G W G0 W0/\∃ ρ T g r ρ',Wf K G H σ ρ T g/\m ρ=some (r,ρ')/\match r with
 | .ok r=>∀ v H',Got K G σ ρ' T r v H'->Q v H'
 | .error e=>W e ρ'
def tT (K:FG) (G0:Gm) (W0:D->Sto->Prop) (m:M3 Bool):TT:=fun σ H Q=>∃ G W,Le K G W G0 W0/\∃ ρ T g r ρ',Wf K G H σ ρ T g/\m ρ=some (r,ρ')/\match r with
 | .ok b=>∀ H' g',Wf K G H' σ ρ' T g'->Q b H'
 | .error e=>W e ρ'
inductive Ars (σ:St):List R3->List V->List It3->Prop where
 | nil:Ars σ [] [] []
 | cons {r v Ts rs vs Us}:Ar σ r v Ts->Ars σ rs vs Us->Ars σ (r :: rs) (v :: vs) (Us ++ Ts)
def tA (K:FG) (G0:Gm) (W0:D->Sto->Prop) (m:M3 (List R3)):TA:=fun σ H Q=>∃ G W,Le K G W G0 W0/\∃ ρ T g r ρ',Wf K G H σ ρ T g/\m ρ=some (r,ρ')/\match r with
 | .ok rs=>∀ a H' Ts g',Wf K G H' σ ρ' (Ts ++ T) g'->Ars σ rs a Ts->Q a H'
 | .error e=>W e ρ'
inductive Flw where
 | nx | br | ct | rt (d:D) (f:Fl)
abbrev SM:=M3 Flw
def tS (K:FG) (G0:Gm) (W0:D->Sto->Prop) (m:SM):TS:=fun E σ H=>∃ G W,Le K G W G0 W0/\∃ ρ T g r ρ',Wf K G H σ ρ T g/\m ρ=some (r,ρ')/\match r with
 | .ok .nx=>∀ σ' H' g',Wf K G H' σ' ρ' T g'->E.nx σ' H'
 | .ok .br=>∀ σ' H' g',Wf K G H' σ' ρ' T g'->E.bk σ' H'
 | .ok .ct=>∀ σ' H' g',Wf K G H' σ' ρ' T g'->E.ct σ' H'
 | .ok (.rt d f)=>∀ x σ' H' g',Wf K G H' σ' ρ' (x :: T) g'->x.d=d->x.f=f->E.rt x.v H'
 | .error e=>W e ρ'
section
variable {K:FG} {G G0:Gm} {W W0:D->Sto->Prop} {H H':Hp} {σ:St} {ρ ρ':Sto} {T T':List It3} {g:Nat->Option It3} {x y z:It3} {α β:Type}
theorem aI (e:af (der r) k ρ=some (o,ρ')):∃ d,der r ρ=some (.ok d,ρ)/\k d ρ=some (o,ρ'):=by
 cases r with
 | pl i =>
  have a:der (.pl i) ρ=((ρ[i]?).join).map fun p=>(.ok p.1,ρ):=rfl
  unfold af at e
  rw [a] at e ⊢
  cases h:(ρ[i]?).join with
  | none=>rw [h] at e;exact nsE e
  | some p=>rw [h] at e;exact ⟨p.1,rfl,e⟩
 | val d f=>exact ⟨d,rfl,e⟩
theorem bv (e:aV o ρ=some (r,ρ')):∃ a,o=some a/\r=.ok a/\ρ' = ρ:=by
 unfold aV at e
 cases o with
 | none=>exact nsE e
 | some a=>cases e;exact ⟨a,rfl,rfl,rfl⟩
theorem Wf.slot (w:Wf K G H σ ρ T g) {i:Nat} (e:(ρ[i]?).join=some (d,f)):∃ y,g i=some y/\y.d=d/\y.f=f/\σ[i]?=some (some y.v):=by
 have h:=w.sl i
 rw [e] at h
 cases q:g i with
 | none=>rw [q] at h;exact nsE h
 | some y =>
  rw [q] at h
  cases h
  exact ⟨y,rfl,rfl,rfl,w.sv i y q⟩
theorem Ar.item (w:Wf K G H σ ρ T g) (a:Ar σ r v Ts) (k:∀ x ∈ Ts,x ∈ T) (e:der r ρ=some (.ok d,ρ)):∃ y,Itm T g y/\y.d=d/\y.v=v:=by
 cases a with
 | @pl i v h =>
  have c:der (.pl i) ρ=((ρ[i]?).join).map fun p=>(.ok p.1,ρ):=rfl
  rw [c] at e
  cases q:(ρ[i]?).join with
  | none=>rw [q] at e;exact nsE e
  | some p =>
   rw [q] at e
   obtain ⟨y,e1,l,m,b⟩:=w.slot (d:=p.1) (f:=p.2) q
   have j:p.1=d:=by cases e;rfl
   rw [h] at b
   refine ⟨y,.inl ⟨i,e1⟩,l.trans j,?_⟩
   cases b;rfl
 | val x=>cases e;exact ⟨x,.inr (k x (by simp)),rfl,rfl⟩
theorem Wf.done (w:Wf K G H σ ρ (Us ++ T) g) (a:∀ y ∈ ys,Itm (Us ++ T) g y) (n:New K H H' (cZ ys) x):Got K G σ ρ T (.val x.d x.f) x.v H' :=
 ⟨[x],g,(w.push n fun c h=>w.kids a h).sub (by simpa using List.Sublist.cons_cons x (Fm Us T)),.val x⟩
theorem tE.seq (le:Le K G W G0 W0) (w:Wf K G H σ ρ T g) (e:af ma k ρ=some (r,ρ')) (he:∀ x,r=.error x->W x ρ') (h:∀ ra ρ1,k ra ρ1=some (r,ρ')->∀ v H1,Got K G σ ρ1 T ra v H1->P v H1):tE K G0 W0 ma σ H P:=by
 unfold af at e
 cases q:ma ρ with
 | none=>rw [q] at e;exact nsE e
 | some p =>
  obtain ⟨o,ρ1⟩:=p
  rw [q] at e
  cases o with
  | error x=>cases e;exact ⟨G,W,le,ρ,T,g,.error x,ρ',w,q,he x rfl⟩
  | ok ra=>exact ⟨G,W,le,ρ,T,g,.ok ra,ρ1,w,q,h ra ρ1 e⟩
theorem tT.seq (le:Le K G W G0 W0) (w:Wf K G H σ ρ T g) (e:af ma k ρ=some (r,ρ')) (he:∀ x,r=.error x->W x ρ') (h:∀ b ρ1,k b ρ1=some (r,ρ')->∀ H1 g1,Wf K G H1 σ ρ1 T g1->P b H1):tT K G0 W0 ma σ H P:=by
 unfold af at e
 cases q:ma ρ with
 | none=>rw [q] at e;exact nsE e
 | some p =>
  obtain ⟨o,ρ1⟩:=p
  rw [q] at e
  cases o with
  | error x=>cases e;exact ⟨G,W,le,ρ,T,g,.error x,ρ',w,q,he x rfl⟩
  | ok ra=>exact ⟨G,W,le,ρ,T,g,.ok ra,ρ1,w,q,h ra ρ1 e⟩
theorem tA.seq (le:Le K G W G0 W0) (w:Wf K G H σ ρ T g) (e:af ma k ρ=some (r,ρ')) (he:∀ x,r=.error x->W x ρ') (h:∀ rs ρ1,k rs ρ1=some (r,ρ')->∀ a H1 Ts g1,Wf K G H1 σ ρ1 (Ts ++ T) g1->Ars σ rs a Ts->P a H1):tA K G0 W0 ma σ H P:=by
 unfold af at e
 cases q:ma ρ with
 | none=>rw [q] at e;exact nsE e
 | some p =>
  obtain ⟨o,ρ1⟩:=p
  rw [q] at e
  cases o with
  | error x=>cases e;exact ⟨G,W,le,ρ,T,g,.error x,ρ',w,q,he x rfl⟩
  | ok ra=>exact ⟨G,W,le,ρ,T,g,.ok ra,ρ1,w,q,h ra ρ1 e⟩
def EndE (K:FG) (G:Gm) (W:D->Sto->Prop) (σ:St) (T:List It3) (ρ':Sto) (Q:VK):Except D R3->Prop
 | .ok r=>∀ v H',Got K G σ ρ' T r v H'->Q v H'
 | .error e=>W e ρ'
theorem EndE.err (h:EndE K G W σ T ρ' Q r):∀ x,r=.error x->W x ρ':=by
 intro x e;subst e;exact h
theorem tE.open (h:tE K G0 W0 m σ H Q):∃ G W,Le K G W G0 W0/\∃ ρ T g r ρ',Wf K G H σ ρ T g/\m ρ=some (r,ρ')/\EndE K G W σ T ρ' Q r:=by
 obtain ⟨G,W,le,ρ,T,g,r,ρ',w,e,q⟩:=h
 refine ⟨G,W,le,ρ,T,g,r,ρ',w,e,?_⟩
 cases r with
 | ok r=>exact q
 | error x=>exact q
theorem tE.use (h:tE K G0 W0 m σ H Q) {P:Prop} (k:∀ G W,Le K G W G0 W0->∀ ρ T g r ρ',Wf K G H σ ρ T g->m ρ=some (r,ρ')->EndE K G W σ T ρ' Q r->P):P:=by
 obtain ⟨G,W,le,ρ,T,g,r,ρ',w,e,q⟩:=h.open
 exact k G W le ρ T g r ρ' w e q
theorem tE.mk (le:Le K G W G0 W0) (w:Wf K G H σ ρ T g) (e:m ρ=some (r,ρ')) (h:EndE K G W σ T ρ' Q r):tE K G0 W0 m σ H Q:=by
 refine ⟨G,W,le,ρ,T,g,r,ρ',w,e,?_⟩
 cases r with
 | ok r=>exact h
 | error x=>exact h
def ae (i:Nat):EM:=fun ρ=>((ρ[i]?).join).map fun _=>(.ok (.pl i),ρ)
theorem CS {i:Nat} (h:tE K G0 W0 (ae i) σ H Q):uE i σ H Q:=by
 refine h.use fun G W le ρ T g r ρ' w e q=>?_
 unfold ae at e
 cases h:(ρ[i]?).join with
 | none=>rw [h] at e;exact nsE e
 | some p =>
  rw [h] at e
  cases e
  obtain ⟨y,_,_,_,a⟩:=w.slot (d:=p.1) (f:=p.2) h
  exact ⟨y.v,a,q y.v H ⟨[],g,w,.pl a⟩⟩
def mC (d:D):EM:=aO (.val d .z)
theorem Wf.const (w:Wf K G H σ ρ T g) (r:Rep K H d v []):Got K G σ ρ T (.val d .z) v H :=
 Wf.done (Us:=[]) (ys:=[]) (x:=⟨d,v,[],.z⟩) w (fun _ h=>(by cases h)) ⟨Same.refl _,r,fun _ h=>(by cases h),fun h=>absurd rfl h⟩
theorem iM (r:∀ H,Rep K H d v []) (h:tE K G0 W0 (mC d) σ H Q):tC v σ H Q:=by
 refine h.use fun G W le ρ T g o ρ' w e q=>?_
 cases e
 exact q v H (w.const (r H))
def ah (f:D->D->Option (D × Fl)) (ma mb:EM):EM:=af ma fun ra=>af mb fun rb=>af (der ra) fun da=>af (der rb) fun db=>aV ((f da db).map fun p=>R3.val p.1 p.2)
def OpD (K:FG) (r:R2) (f:D->D->Option (D × Fl)):Prop:=∀ (a b:It3) (H:Hp) (Q:VK) (p:D × Fl),Arg K H a->Arg K H b->f a.d b.d=some p ->
 (∀ w H',New K H H' (cZ [a,b]) w->w.d=p.1->w.f=p.2->Q w.v H')->r a.v b.v H Q
theorem qf (w:Wf K G H σ ρ (Us ++ T) g) (b:∀ y ∈ ys,Itm (Us ++ T) g y) (q:EndE K G W σ T ρ Q (.ok (.val d f))) :
  ∀ a H',New K H H' (cZ ys) a->a.d=d->a.f=f->Q a.v H':=by
 intro a H' n e1 c
 subst e1 c
 exact q a.v H' (w.done b n)
theorem kI (A:OpD K r f) (h:tE K G0 W0 (ah f ma mb) σ H Q):tOp r (tE K G0 W0 ma) (tE K G0 W0 mb) σ H Q:=by
 refine h.use fun G W le ρ T g o ρ' w e q=>?_
 refine tE.seq le w e q.err fun ra ρ1 e1 E H1 ⟨Ts,g1,B,a1⟩=>?_
 refine tE.seq le B e1 q.err fun rb ρ2 v D H2 ⟨Us,g2,a,a2⟩=>?_
 obtain ⟨da,d1,z⟩:=aI v
 obtain ⟨db,u,C⟩:=aI z
 obtain ⟨p,b,rfl,rfl⟩:=bv C
 obtain ⟨n,j,f1,f2⟩:=a1.item a (fun x l=>Fb _ (Fa _ l)) d1
 obtain ⟨m,c,t,f4⟩:=a2.item a (fun x l=>Fa _ l) u
 subst f1 f2 t f4
 cases k:f n.d m.d with
 | none=>rw [k] at b;exact nsE b
 | some s =>
  rw [k] at b
  cases b
  rw [<- List.append_assoc] at a j c
  refine A n m H2 Q s (a.itm j).arg (a.itm c).arg k (qf a (fun y i=>?_) q)
  rcases Fc.mp i with h | i
  ·rw [h];exact j
  ·rw [FH.mp i];exact c
def mUn (f:D->Option (D × Fl)) (ma:EM):EM:=af ma fun ra=>af (der ra) fun da=>aV ((f da).map fun p=>R3.val p.1 p.2)
def UnD (K:FG) (r:V->Hp->VK->Prop) (f:D->Option (D × Fl)):Prop:=∀ (a:It3) (H:Hp) (Q:VK) (p:D × Fl),Arg K H a->f a.d=some p ->
 (∀ w H',New K H H' (cZ [a]) w->w.d=p.1->w.f=p.2->Q w.v H')->r a.v H Q
theorem B3 (l:UnD K r f) (h:tE K G0 W0 (mUn f ma) σ H Q):tUn r (tE K G0 W0 ma) σ H Q:=by
 refine h.use fun G W le ρ T g o ρ' w e q=>?_
 refine tE.seq le w e q.err fun ra ρ1 e1 t H1 ⟨Ts,g1,c,a1⟩=>?_
 obtain ⟨da,d1,k⟩:=aI e1
 obtain ⟨p,a,rfl,rfl⟩:=bv k
 obtain ⟨j,i,f1,f2⟩:=a1.item c (fun x m=>Fa _ m) d1
 subst f1 f2
 cases b:f j.d with
 | none=>rw [b] at a;exact nsE a
 | some s =>
  rw [b] at a
  cases a
  exact l j H1 Q s (c.itm i).arg b (qf c (fun y n=>by rw [FH.mp n];exact i) q)
def ai:M3 (List R3):=aO []
def ac (m:EM) (ms:M3 (List R3)):M3 (List R3):=af m fun r=>af ms fun rs=>aO (r :: rs)
def EndA (K:FG) (G:Gm) (W:D->Sto->Prop) (σ:St) (T:List It3) (ρ':Sto) (Q:List V->Hp->Prop):Except D (List R3)->Prop
 | .ok rs=>∀ a H' Ts g',Wf K G H' σ ρ' (Ts ++ T) g'->Ars σ rs a Ts->Q a H'
 | .error e=>W e ρ'
theorem EndA.err (h:EndA K G W σ T ρ' Q r):∀ x,r=.error x->W x ρ':=by
 intro x e;subst e;exact h
theorem tA.open (h:tA K G0 W0 m σ H Q):∃ G W,Le K G W G0 W0/\∃ ρ T g r ρ',Wf K G H σ ρ T g/\m ρ=some (r,ρ')/\EndA K G W σ T ρ' Q r:=by
 obtain ⟨G,W,le,ρ,T,g,r,ρ',w,e,q⟩:=h
 refine ⟨G,W,le,ρ,T,g,r,ρ',w,e,?_⟩
 cases r with
 | ok r=>exact q
 | error x=>exact q
theorem tA.use (h:tA K G0 W0 m σ H Q) {P:Prop} (k:∀ G W,Le K G W G0 W0->∀ ρ T g r ρ',Wf K G H σ ρ T g->m ρ=some (r,ρ')->EndA K G W σ T ρ' Q r->P):P:=by
 obtain ⟨G,W,le,ρ,T,g,r,ρ',w,e,q⟩:=h.open
 exact k G W le ρ T g r ρ' w e q
theorem wC (h:tA K G0 W0 ai σ H Q):zU σ H Q:=by
 refine h.use fun G W le ρ T g r ρ' w e q=>?_
 cases e
 exact q [] H [] g w .nil
theorem sI (h:tA K G0 W0 (ac m ms) σ H Q):oS (tE K G0 W0 m) (tA K G0 W0 ms) σ H Q:=by
 refine h.use fun G W le ρ T g r ρ' w e q=>?_
 refine tE.seq le w e q.err fun ra ρ1 e1 d H1 ⟨Ts,g1,f,a1⟩=>?_
 refine tA.seq le f e1 q.err fun rs ρ2 a b H2 Us g2 c a2=>?_
 cases a
 refine q (d :: b) H2 (Us ++ Ts) g2 ?_ (.cons a1 a2)
 rw [List.append_assoc]
 exact c
def cG:List R3->M3 (List D)
 | []=>aO []
 | r :: rs=>af (der r) fun d=>af (cG rs) fun ds=>aO (d :: ds)
theorem t7:∀ {rs:List R3} {ρ ρ':Sto} {o:Except D (List D)},cG rs ρ=some (o,ρ')->∃ ds,o=.ok ds/\ρ' = ρ
 | [],ρ,ρ',o,e=>by cases e;exact ⟨[],rfl,rfl⟩
 | r :: rs,ρ,ρ',o,e=>by
  obtain ⟨d,e1,a⟩:=aI (k:=fun d=>af (cG rs) fun ds=>aO (d :: ds)) e
  unfold af at a
  cases q:cG rs ρ with
  | none=>rw [q] at a;exact nsE a
  | some p =>
   obtain ⟨o',ρ1⟩:=p
   obtain ⟨ds,rfl,rfl⟩:=t7 q
   rw [q] at a
   cases a
   exact ⟨d :: ds,rfl,rfl⟩
theorem bB (e:af (cG rs) k ρ=some (o,ρ')):∃ ds,cG rs ρ=some (.ok ds,ρ)/\k ds ρ=some (o,ρ'):=by
 unfold af at e
 cases q:cG rs ρ with
 | none=>rw [q] at e;exact nsE e
 | some p =>
  obtain ⟨o',ρ1⟩:=p
  obtain ⟨ds,rfl,rfl⟩:=t7 q
  rw [q] at e
  exact ⟨ds,rfl,e⟩
theorem Ars.items:∀ {rs:List R3} {c:List V} {Ts:List It3} {ds:List D} ,Wf K G H σ ρ T g->Ars σ rs c Ts->(∀ x ∈ Ts,x ∈ T)->cG rs ρ=some (.ok ds,ρ)->∃ ys:List It3,(∀ y ∈ ys,Itm T g y)/\ys.map (·.d)=ds/\ys.map (·.v)=c
 | [],_,_,ds,w,.nil,_,e=>by cases e;exact ⟨[],fun _ h=>(by cases h),rfl,rfl⟩
 | r :: rs,_,_,ds,w,.cons a as,hs,e=>by
  obtain ⟨d,e1,n⟩:=aI (k:=fun d=>af (cG rs) fun ds=>aO (d :: ds)) e
  obtain ⟨l,f,o⟩:=bB n
  cases o
  obtain ⟨y,m,f1,f2⟩:=a.item w (fun x b=>hs x (Fb _ b)) e1
  obtain ⟨ys,j,i,f4⟩:=Ars.items w as (fun x b=>hs x (Fa _ b)) f
  refine ⟨y :: ys,fun z hz=>?_,by simp [f1,i],by simp [f2,f4]⟩
  rcases Fc.mp hz with h | hz
  ·rw [h];exact m
  ·exact j z hz
def al (f:List D->Option (D × Fl)) (ms:M3 (List R3)):EM:=af ms fun rs=>af (cG rs) fun ds=>aV ((f ds).map fun p=>R3.val p.1 p.2)
def b8 (K:FG) (r:List V->Hp->VK->Prop) (f:List D->Option (D × Fl)):Prop:=∀ (ys:List It3) (H:Hp) (Q:VK) (p:D × Fl),(∀ y ∈ ys,Arg K H y)->f (ys.map (·.d))=some p ->
 (∀ w H',New K H H' (cZ ys) w->w.d=p.1->w.f=p.2->Q w.v H')->r (ys.map (·.v)) H Q
theorem iN (k:b8 K r f) (h:tE K G0 W0 (al f ms) σ H Q):tCB r (tA K G0 W0 ms) σ H Q:=by
 refine h.use fun G W le ρ T g o ρ' w e q=>?_
 refine tA.seq le w e q.err fun rs ρ1 e1 n H1 Ts g1 c a1=>?_
 obtain ⟨ds,d1,j⟩:=bB e1
 obtain ⟨p,a,rfl,rfl⟩:=bv j
 obtain ⟨ys,i,f1,f2⟩:=a1.items c (fun x l=>Fa _ l) d1
 subst f1 f2
 cases b:f (ys.map (·.d)) with
 | none=>rw [b] at a;exact nsE a
 | some s =>
  rw [b] at a
  cases a
  exact k ys H1 Q s (fun y m=>(c.itm (i y m)).arg) b (qf c i q)
def asB:D->Option Bool
 | .bl b=>some b
 | _=>none
def iD (ma mb:EM):EM:=af ma fun ra=>af (der ra) fun d=>af (aV (asB d)) fun b=>if b then mb else aO (.val (.bl false) .z)
def mOr (ma mb:EM):EM:=af ma fun ra=>af (der ra) fun d=>af (aV (asB d)) fun b=>if b then aO (.val (.bl true) .z) else mb
def p4 (ma:EM):EM:=af ma fun ra=>af (der ra) fun d=>af (aV (asB d)) fun b=>aO (.val (.bl (!b)) .z)
theorem jv (e:af (aV o) k ρ=some (r,ρ')):∃ a,o=some a/\k a ρ=some (r,ρ'):=by
 unfold af aV at e
 cases o with
 | none=>exact nsE e
 | some a=>exact ⟨a,rfl,e⟩
theorem zy (e:asB d=some b):d=.bl b:=by
 cases d <;> first | exact nsE e | cases e
 rfl
theorem Rep.bl_eq (r:Rep K H (.bl b) v L):v=.bl b/\L=[]:=by cases r;exact ⟨rfl,rfl⟩
theorem Ar.bool (w:Wf K G H σ ρ (Ts ++ T) g) (a:Ar σ ra v Ts) (e:der ra ρ=some (.ok d,ρ)) (f:asB d=some b):v=.bl b:=by
 obtain ⟨y,h,f1,f2⟩:=a.item w (fun x c=>Fa _ c) e
 have r:=(w.itm h).rep
 rw [f1,zy f] at r
 rw [<- f2]
 exact r.bl_eq.1
theorem CY (h:tE K G0 W0 (iD ma mb) σ H Q):B6 (tE K G0 W0 ma) (tE K G0 W0 mb) σ H Q:=by
 refine h.use fun G W le ρ T g o ρ' w e q=>?_
 refine tE.seq le w e q.err fun ra ρ1 e1 k H1 ⟨Ts,g1,f,a1⟩=>?_
 obtain ⟨d,d1,i⟩:=aI e1
 obtain ⟨b,j,a⟩:=jv i
 refine ⟨b,a1.bool f d1 j,?_⟩
 have c:=f.sub (Fm Ts T)
 cases b with
 | true=>exact tE.mk le c a q
 | false=>cases a;exact q _ _ (c.const (.bl false))
theorem CU (h:tE K G0 W0 (p4 ma) σ H Q):B1 (tE K G0 W0 ma) σ H Q:=by
 refine h.use fun G W le ρ T g o ρ' w e q=>?_
 refine tE.seq le w e q.err fun ra ρ1 e1 k H1 ⟨Ts,g1,a,a1⟩=>?_
 obtain ⟨d,d1,f⟩:=aI e1
 obtain ⟨b,i,c⟩:=jv f
 refine ⟨b,a1.bool a d1 i,?_⟩
 have j:=a.sub (Fm Ts T)
 cases c;exact q _ _ (j.const (.bl (!b)))
def EndT (K:FG) (G:Gm) (W:D->Sto->Prop) (σ:St) (T:List It3) (ρ':Sto) (Q:Bool->Hp->Prop):Except D Bool->Prop
 | .ok b=>∀ H' g',Wf K G H' σ ρ' T g'->Q b H'
 | .error e=>W e ρ'
theorem EndT.err (h:EndT K G W σ T ρ' Q r):∀ x,r=.error x->W x ρ':=by
 intro x e;subst e;exact h
theorem tT.open (h:tT K G0 W0 m σ H Q):∃ G W,Le K G W G0 W0/\∃ ρ T g r ρ',Wf K G H σ ρ T g/\m ρ=some (r,ρ')/\EndT K G W σ T ρ' Q r:=by
 obtain ⟨G,W,le,ρ,T,g,r,ρ',w,e,q⟩:=h
 refine ⟨G,W,le,ρ,T,g,r,ρ',w,e,?_⟩
 cases r with
 | ok r=>exact q
 | error x=>exact q
theorem tT.use (h:tT K G0 W0 m σ H Q) {P:Prop} (k:∀ G W,Le K G W G0 W0->∀ ρ T g r ρ',Wf K G H σ ρ T g->m ρ=some (r,ρ')->EndT K G W σ T ρ' Q r->P):P:=by
 obtain ⟨G,W,le,ρ,T,g,r,ρ',w,e,q⟩:=h.open
 exact k G W le ρ T g r ρ' w e q
theorem tT.mk (le:Le K G W G0 W0) (w:Wf K G H σ ρ T g) (e:m ρ=some (r,ρ')) (h:EndT K G W σ T ρ' Q r):tT K G0 W0 m σ H Q:=by
 refine ⟨G,W,le,ρ,T,g,r,ρ',w,e,?_⟩
 cases r with
 | ok r=>exact h
 | error x=>exact h
def cB (m:EM):M3 Bool:=af m fun r=>af (der r) fun d=>aV (asB d)
theorem tT_b (h:tT K G0 W0 (cB m) σ H Q):tB (tE K G0 W0 m) σ H Q:=by
 refine h.use fun G W le ρ T g o ρ' w e q=>?_
 refine tE.seq le w e q.err fun ra ρ1 e1 i H1 ⟨Ts,g1,a,a1⟩=>?_
 obtain ⟨d,d1,c⟩:=aI e1
 obtain ⟨b,f,rfl,rfl⟩:=bv c
 exact ⟨b,a1.bool a d1 f,q _ _ (a.sub (Fm Ts T))⟩
def lJ (a b:M3 Bool):M3 Bool:=af a fun c=>if c then b else aO false
def cOr (a b:M3 Bool):M3 Bool:=af a fun c=>if c then aO true else b
def iH (a:M3 Bool):M3 Bool:=af a fun c=>aO (!c)
theorem CH (h:tT K G0 W0 (lJ a b) σ H Q):tAnd (tT K G0 W0 a) (tT K G0 W0 b) σ H Q:=by
 refine h.use fun G W le ρ T g o ρ' w e q=>?_
 refine tT.seq le w e q.err fun c ρ1 e1 H1 g1 d=>?_
 cases c with
 | true=>exact tT.mk le d e1 q
 | false=>cases e1;exact q _ _ d
theorem tT_or (h:tT K G0 W0 (cOr a b) σ H Q):tOr (tT K G0 W0 a) (tT K G0 W0 b) σ H Q:=by
 refine h.use fun G W le ρ T g o ρ' w e q=>?_
 refine tT.seq le w e q.err fun c ρ1 e1 H1 g1 d=>?_
 cases c with
 | false=>exact tT.mk le d e1 q
 | true=>cases e1;exact q _ _ d
theorem CG (h:tT K G0 W0 (iH a) σ H Q):tNot (tT K G0 W0 a) σ H Q:=by
 refine h.use fun G W le ρ T g o ρ' w e q=>?_
 refine tT.seq le w e q.err fun c ρ1 e1 H1 g1 b=>?_
 cases e1;exact q _ _ b
def mIf (c:M3 Bool) (ma mb:EM):EM:=af c fun b=>if b then ma else mb
theorem tE_if (h:tE K G0 W0 (mIf c ma mb) σ H Q):tIf (tT K G0 W0 c) (tE K G0 W0 ma) (tE K G0 W0 mb) σ H Q:=by
 refine h.use fun G W le ρ T g o ρ' w e q=>?_
 refine tT.seq le w e q.err fun c ρ1 e1 H1 g1 a=>?_
 cases c with
 | true=>exact tE.mk le a e1 q
 | false=>exact tE.mk le a e1 q
end
end L3
end
section
namespace L3
open PySem L2
def cW (x:It3):It3:={ x with f:=.z }
theorem cr:NoRoot (cW x) y:=fun h=>absurd rfl h
def lowAt (i:Nat) (ρ:Sto):Sto:=match (ρ[i]?).join with
 | some (d,.u)=>ρ.set i (some (d,.z))
 | some (d,.l)=>ρ.set i (some (d,.z))
 | _=>ρ
noncomputable def frz (is:List Nat) (ρ:Sto):Sto:=is.foldl (fun ρ i=>lowAt i ρ) ρ
def vB (is:List Nat):M3 Unit:=fun ρ=>some (.ok (),frz is ρ)
def pls:List R3->List Nat
 | []=>[]
 | .pl i :: rs=>i :: pls rs
 | .val _ _ :: rs=>pls rs
section
variable {K:FG} {G G0:Gm} {W W0:D->Sto->Prop} {H H':Hp} {σ:St} {ρ ρ':Sto} {T T':List It3} {g:Nat->Option It3} {x y z:It3} {α β:Type}
theorem ItOk.low (h:ItOk K G H x):ItOk K G H (cW x):=⟨h.rep,fun q=>absurd rfl q,h.src⟩
theorem cv {i j:Nat} (hi:i < ρ.length):((ρ.set i o)[j]?).join=if j=i then o else (ρ[j]?).join:=by grind
theorem fq {i:Nat} (h:(ρ[i]?).join=some p):i < ρ.length:=by grind
theorem Wf.lowSlot (w:Wf K G H σ ρ T g) {i:Nat} (e:(ρ[i]?).join=some (d,f)):Wf K G H σ (ρ.set i (some (d,.z))) T (fun j=>if j=i then (g i).map cW else g j):=by
 have hi:=fq e
 obtain ⟨y,A,C,E,ev⟩:=w.slot e
 have val:∀ j x,(if j=i then (g i).map cW else g j)=some x->∃ x0,g j=some x0/\(x=x0\/x=cW x0)/\(j=i->x=cW x0):=fun j x h=>by
  grind
 have s:∀ {a b:It3},NoRoot a b->∀ r p,(r=a\/r=cW a)->(p=b\/p=cW b)->NoRoot r p:=fun h r p h1 h2=>by
  rcases h1 with rfl | rfl
  ·rcases h2 with rfl | rfl
   ·exact h
   ·exact h
  ·exact cr
 refine ⟨by rw [List.length_set];exact w.len,fun j=>?_,fun j x h=>?_,fun j x h=>?_,w.okT,fun j k a b n h1 h2=>?_,fun j a h b l=>?_,w.tt,w.base,w.pro,⟨w.fx.frT,fun j x h v hf a D=>?_,w.fx.bin,w.fx.ob,fun j x h u=>?_⟩⟩
 ·rw [cv hi]
  by_cases q:j=i
  ·subst q
   rw [if_pos rfl,if_pos rfl,A]
   show some ((cW y).d,Fl.z)=_
   rw [<- C];rfl
  ·rw [if_neg q,if_neg q];exact w.sl j
 ·obtain ⟨x0,h0,c,_⟩:=val j x h
  have:=w.sv j x0 h0
  rcases c with rfl | rfl <;> exact this
 ·obtain ⟨x0,h0,c,_⟩:=val j x h
  rcases c with rfl | rfl
  ·exact w.okS j x h0
  ·exact (w.okS j x0 h0).low
 ·obtain ⟨o,h0,m,_⟩:=val j a h1
  obtain ⟨B,t,l,_⟩:=val k b h2
  exact s (w.ss j k o B n h0 t) a b m l
 ·obtain ⟨o,h0,m,_⟩:=val j a h
  exact ⟨s (w.st j o h0 b l).1 a b m (.inl rfl),s (w.st j o h0 b l).2 b a (.inl rfl) m⟩
 ·obtain ⟨x0,h0,c,_⟩:=val j x h
  rcases c with rfl | rfl
  ·exact w.fx.frS j x h0 v hf a D
  ·exact absurd rfl hf
 ·obtain ⟨x0,h0,c,_⟩:=val j x h
  rcases c with rfl | rfl
  ·exact w.fx.lvS j x h0 u
  ·cases u
def Kin (x y:It3):Prop:=y.d=x.d/\y.v=x.v/\y.L=x.L/\(y.f=x.f\/y.f=.z)
theorem Kin.refl (x:It3):Kin x x:=⟨rfl,rfl,rfl,.inl rfl⟩
theorem Kin.trans (a:Kin x y) (b:Kin y z):Kin x z:=⟨b.1.trans a.1,b.2.1.trans a.2.1,b.2.2.1.trans a.2.2.1,by
 rcases b.2.2.2 with h | h
 ·rcases a.2.2.2 with h' | h'
  ·exact .inl (h.trans h')
  ·exact .inr (h.trans h')
 ·exact .inr h⟩
theorem Wf.lowAt {i:Nat} (w:Wf K G H σ ρ T g):∃ g',Wf K G H σ (lowAt i ρ) T g'/\(∀ j y,g j=some y->∃ a,g' j=some a/\Kin y a/\(j=i->a.f=.z)):=by
 have keep:∀ d,(ρ[i]?).join=some (d,.z)->∃ g',Wf K G H σ ρ T g'/\(∀ j y,g j=some y->∃ a,g' j=some a/\Kin y a/\(j=i->a.f=.z)):=fun d e=>⟨g,w,fun j y h=>⟨y,h,Kin.refl y,fun q=>by
  subst q
  obtain ⟨a,h',_,hf,_⟩:=w.slot e
  rw [h] at h';cases h';exact hf⟩⟩
 have low:∀ d f,(ρ[i]?).join=some (d,f)->∃ g',Wf K G H σ (ρ.set i (some (d,.z))) T g'/\(∀ j y,g j=some y->∃ a,g' j=some a/\Kin y a/\(j=i->a.f=.z)):=fun d f e=>⟨_,w.lowSlot e,fun j y h=>by
  by_cases q:j=i
  ·subst q;exact ⟨cW y,by rw [if_pos rfl,h];rfl,⟨rfl,rfl,rfl,.inr rfl⟩,fun _=>rfl⟩
  ·exact ⟨y,by rw [if_neg q];exact h,Kin.refl y,fun z=>absurd z q⟩⟩
 unfold L3.lowAt
 cases e:(ρ[i]?).join with
 | none =>
  refine ⟨g,w,fun j y h=>⟨y,h,Kin.refl y,fun q=>?_⟩⟩
  subst q
  have:=w.sl j
  rw [h,e] at this;cases this
 | some p =>
  obtain ⟨d,f⟩:=p
  cases f with
  | u=>exact low d _ e
  | l=>exact low d _ e
  | z=>exact keep d e
theorem Wf.frz:∀ {is:List Nat} {ρ:Sto} {g:Nat->Option It3},Wf K G H σ ρ T g->∃ g',Wf K G H σ (frz is ρ) T g'/\(∀ j y,g j=some y->∃ a,g' j=some a/\Kin y a/\(j ∈ is->a.f=.z))
 | [],ρ,g,w=>⟨g,w,fun j y h=>⟨y,h,Kin.refl y,fun q=>by cases q⟩⟩
 | i :: is,ρ,g,w=>by
  obtain ⟨g1,n,h1⟩:=w.lowAt (i:=i)
  obtain ⟨g2,k,h2⟩:=Wf.frz (is:=is) n
  refine ⟨g2,k,fun j y h=>?_⟩
  obtain ⟨l,e1,c,m⟩:=h1 j y h
  obtain ⟨d,b,k2,e⟩:=h2 j l e1
  refine ⟨d,b,c.trans k2,fun hm=>?_⟩
  rcases Fc.mp hm with q | q
  ·rcases k2.2.2.2 with h | h
   ·exact h.trans (m q)
   ·exact h
  ·exact e q
theorem Wf.lowT (w:Wf K G H σ ρ (Ts ++ T) g):Wf K G H σ ρ (Ts.map cW ++ T) g:=by
 have sp:∀ {a b:It3},Apart3 a b->Apart3 (cW a) (cW b):=fun h=>⟨cr,cr⟩
 refine ⟨w.len,w.sl,w.sv,w.okS,fun x c=>?_,w.ss,fun i x e y k=>?_,?_,w.base,w.pro,⟨fun x c hf a l=>?_,w.fx.frS,w.fx.bin,w.fx.ob,w.fx.lvS⟩⟩
 ·rcases Ff.mp c with h | h
  ·obtain ⟨x0,h0,rfl⟩:=Fo.mp h
   exact (w.okT x0 (Fa _ h0)).low
  ·exact w.okT x (Fb _ h)
 ·rcases Ff.mp k with h | h
  ·obtain ⟨y0,h0,rfl⟩:=Fo.mp h
   exact ⟨(w.st i x e y0 (Fa _ h0)).1,cr⟩
  ·exact w.st i x e y (Fb _ h)
 ·have h:=List.pairwise_append.mp w.tt
  refine List.pairwise_append.mpr ⟨?_,h.2.1,fun a f b d=>?_⟩
  ·grind
  ·obtain ⟨j,h0,rfl⟩:=Fo.mp f
   exact ⟨cr,(h.2.2 j h0 b d).2⟩
 ·rcases Ff.mp c with h | h
  ·obtain ⟨x0,h0,rfl⟩:=Fo.mp h
   exact absurd rfl hf
  ·exact w.fx.frT x (Fb _ h) hf a l
theorem kD:∀ {rs:List R3} {i:Nat},R3.pl i ∈ rs->i ∈ pls rs
 | [],_,h=>by cases h
 | .pl j :: rs,i,h=>by
  rcases Fc.mp h with e | h
  ·cases e;exact E6
  ·exact E7 _ (kD h)
 | .val _ _ :: rs,i,h=>by
  rcases Fc.mp h with e | h
  ·cases e
  ·exact kD (rs:=rs) h
theorem Ars.given:∀ {rs:List R3} {m:List V} {Ts:List It3} {ds:List D} {S:List It3} {g':Nat->Option It3} {is:List Nat},Wf K G H σ ρ T g->(∀ j y,g j=some y->∃ b,g' j=some b/\Kin y b/\(j ∈ is->b.f=.z))->(∀ i,R3.pl i ∈ rs->i ∈ is) ->
  Ars σ rs m Ts->(∀ x ∈ Ts,x ∈ T)->(∀ x ∈ Ts,cW x ∈ S)->cG rs ρ=some (.ok ds,ρ)->∃ ys:List It3,(∀ y ∈ ys,Itm S g' y/\y.f=.z)/\ys.map (·.d)=ds/\ys.map (·.v)=m
 | [],_,_,ds,S,g',is,w,hg,hi,.nil,_,_,e=>by cases e;exact ⟨[],fun _ h=>(by cases h),rfl,rfl⟩
 | r :: rs,_,_,ds,S,g',is,w,hg,hi,.cons (v:=v0) a as,hs,hS,e=>by
  obtain ⟨d,e1,A⟩:=aI (k:=fun d=>af (cG rs) fun ds=>aO (d :: ds)) e
  obtain ⟨t,B,I⟩:=bB A
  cases I
  obtain ⟨ys,o,n,f4⟩:=Ars.given w hg (fun i h=>hi i (E7 _ h)) as (fun x c=>hs x (Fa _ c)) (fun x c=>hS x (Fa _ c)) B
  have one:∃ y,(Itm S g' y/\y.f=.z)/\y.d=d/\y.v=v0:=by
   cases a with
   | @pl i v h =>
    have E:der (.pl i) ρ=((ρ[i]?).join).map fun p=>(.ok p.1,ρ):=rfl
    rw [E] at e1
    cases q:(ρ[i]?).join with
    | none=>rw [q] at e1;exact nsE e1
    | some p =>
     rw [q] at e1
     obtain ⟨y,s,F,J,l⟩:=w.slot (d:=p.1) (f:=p.2) q
     obtain ⟨b,h1,h2,h3⟩:=hg i y s
     have C:p.1=d:=by cases e1;rfl
     rw [h] at l
     refine ⟨b,⟨.inl ⟨i,h1⟩,h3 (hi i E6)⟩,h2.1.trans (F.trans C),?_⟩
     rw [h2.2.1];cases l;rfl
   | val x=>cases e1;exact ⟨cW x,⟨.inr (hS x (by simp)),rfl⟩,rfl,rfl⟩
  obtain ⟨y,u,f1,f2⟩:=one
  refine ⟨y :: ys,fun z hz=>?_,by simp [f1,n],by simp [f2,f4]⟩
  rcases Fc.mp hz with h | hz
  ·rw [h];exact u
  ·exact o z hz
def c7 (ys:List It3) (c:Addr):Prop:=∃ y ∈ ys,c ∈ y.L
def gives (rs:List R3):M3 (List D):=af (cG rs) fun ds=>af (vB (pls rs)) fun _=>aO ds
theorem Ars.gives (w:Wf K G H σ ρ (Ts ++ T) g) (a:Ars σ rs vs Ts) (e:af (gives rs) k ρ=some (r,ρ')) :
  ∃ ds ρ1 g1,k ds ρ1=some (r,ρ')/\ρ1=frz (pls rs) ρ/\Wf K G H σ ρ1 (Ts.map cW ++ T) g1/\(∀ j y,g j=some y->∃ c,g1 j=some c/\Kin y c)/\∃ ys:List It3,(∀ y ∈ ys,Itm (Ts.map cW ++ T) g1 y/\y.f=.z)/\ys.map (·.d)=ds/\ys.map (·.v)=vs:=by
 unfold L3.gives at e
 have m:af (cG rs) (fun ds=>af (vB (pls rs)) fun _=>k ds) ρ=some (r,ρ'):=by
  rw [<- e]
  unfold af
  cases q:cG rs ρ with
  | none=>rfl
  | some p =>
   obtain ⟨o,ρ2⟩:=p
   cases o with
   | error x=>rfl
   | ok ds=>rfl
 obtain ⟨ds,d1,e1⟩:=bB m
 obtain ⟨g1,n,h1⟩:=Wf.frz (is:=pls rs) w
 refine ⟨ds,L3.frz (pls rs) ρ,g1,e1,rfl,n.lowT,fun j y h=>let ⟨c,a,b,_⟩:=h1 j y h;⟨c,a,b⟩,?_⟩
 exact Ars.given w h1 (fun i h=>kD h) a (fun x l=>Fa _ l) (fun x l=>Fa _ (Fo.mpr ⟨x,l,rfl⟩)) d1
theorem Wf.alls (w:Wf K G H σ ρ T g) (a:∀ y ∈ ys,Itm T g y/\y.f=.z) (h:c7 ys c):dg T g c/\(G.H0 c=none\/G.src c):=by
 obtain ⟨y,m,b⟩:=h
 exact ⟨w.kid (a y m).1 b fun hf=>absurd (a y m).2 hf,(w.itm (a y m).1).src c b⟩
theorem Wf.doneA (w:Wf K G H σ ρ (Us ++ T) g) (a:∀ y ∈ ys,Itm (Us ++ T) g y/\y.f=.z) (n:New K H H' (c7 ys) x):Got K G σ ρ T (.val x.d x.f) x.v H' :=
 ⟨[x],g,(w.push n fun c h=>w.alls a h).sub (by simpa using List.Sublist.cons_cons x (Fm Us T)),.val x⟩
theorem kA:∀ {ys:List It3},(∀ y ∈ ys,Rep K H y.d y.v y.L)->Reps (Rep K H) (ys.map (·.d)) (ys.map (·.v)) (ys.map (·.L)).flatten
 | [],_=>.nil
 | y :: ys,h=>.cons (h y E6) (kA fun z hz=>h z (E7 _ hz))
theorem eh (h:c ∈ (ys.map (·.L)).flatten):c7 ys c:=by
 obtain ⟨l,a,d⟩:=List.mem_flatten.mp h
 obtain ⟨y,b,rfl⟩:=Fo.mp a
 exact ⟨y,b,d⟩
noncomputable def pZ (mk:List D->D) (f:Fl) (ms:M3 (List R3)):EM:=af ms fun rs=>af (gives rs) fun ds=>aV (if ds.length<=16777216 then some (.val (mk ds) f) else none)
abbrev fQ:M3 (List R3)->EM:=pZ .tup .z
abbrev jt:M3 (List R3)->EM:=pZ .lst .u
theorem bm (h:H p=none):Same H (upd H p o):=fun b u e=>by
 rw [au (aL e h)];exact e
set_option tactic.hygienic true in
theorem CT (hz:(16777216:Nat)=sizeLine) (h:tE K G0 W0 (fQ ms) σ H Q):tTup (tA K G0 W0 ms) σ H Q:=by
 refine h.use fun G W le ρ T g o ρ' w e q=>?_
 refine tA.seq le w e q.err fun rs ρ1 e1 r H1 Ts g1 n a1=>?_
 obtain ⟨ds,ρ2,g2,m,_,f,_,ys,i,f1,f2⟩:=a1.gives n e1
 obtain ⟨v,b,rfl,rfl⟩:=bv m
 subst f1 f2
 split at b
 ·rename_i k
  cases b
  refine ⟨by rw [Fh] at k ⊢;lia,fun p j=>?_⟩
  refine q _ _ (Wf.doneA (x:=⟨.tup (ys.map (·.d)),.ref p,(ys.map (·.L)).flatten,.z⟩) f i ⟨bm j,.tup aT ((kA fun y a=>(f.itm (i y a).1).rep).same (bm j)),fun c l=>.inr (eh l),fun hf=>absurd rfl hf⟩)
 ·exact nsE b
set_option tactic.hygienic true in
theorem CW (hz:(16777216:Nat)=sizeLine) (h:tE K G0 W0 (jt ms) σ H Q):tLst (tA K G0 W0 ms) σ H Q:=by
 refine h.use fun G W le ρ T g o ρ' w e q=>?_
 refine tA.seq le w e q.err fun rs ρ1 e1 s H1 Ts g1 r a1=>?_
 obtain ⟨ds,ρ2,g2,n,_,f,_,ys,j,f1,f2⟩:=a1.gives r e1
 obtain ⟨v,k,rfl,rfl⟩:=bv n
 subst f1 f2
 split at k
 ·rename_i m
  cases k
  refine ⟨by rw [Fh] at m ⊢;lia,fun p b=>?_⟩
  have np:p ∉ (ys.map (·.L)).flatten:=fun a=>by
   obtain ⟨y,hm,a⟩:=eh a
   obtain ⟨o,l⟩:=((f.itm (j y hm).1).rep.inH p a).ex
   rw [b] at l;exact nsE l
  refine q _ _ (Wf.doneA (x:=⟨.lst (ys.map (·.d)),.ref p,p :: (ys.map (·.L)).flatten,.u⟩) f j ⟨bm b,.lst aT ((kA fun y i=>(f.itm (j y i).1).rep).same (bm b)),fun c a=>?_,fun _=>⟨rfl,p,_,rfl,rfl,np,b⟩⟩)
  rcases Fc.mp a with e | a
  ·rw [e];exact .inl b
  ·exact .inr (eh a)
 ·exact nsE k
end
end L3
end
section
namespace L3
open PySem L2
section
variable {K:FG} {G G0:Gm} {W W0:D->Sto->Prop} {H H':Hp} {σ:St} {ρ ρ':Sto} {T T':List It3} {g:Nat->Option It3} {x y z:It3} {α β:Type}
def EndS (K:FG) (G:Gm) (W:D->Sto->Prop) (T:List It3) (ρ':Sto) (E:Ends):Except D Flw->Prop
 | .ok .nx=>∀ σ' H' g',Wf K G H' σ' ρ' T g'->E.nx σ' H'
 | .ok .br=>∀ σ' H' g',Wf K G H' σ' ρ' T g'->E.bk σ' H'
 | .ok .ct=>∀ σ' H' g',Wf K G H' σ' ρ' T g'->E.ct σ' H'
 | .ok (.rt d f)=>∀ x σ' H' g',Wf K G H' σ' ρ' (x :: T) g'->x.d=d->x.f=f->E.rt x.v H'
 | .error e=>W e ρ'
theorem EndS.err (h:EndS K G W T ρ' E r):∀ x,r=.error x->W x ρ':=by
 intro x e;subst e;exact h
theorem tS.open (h:tS K G0 W0 m E σ H):∃ G W,Le K G W G0 W0/\∃ ρ T g r ρ',Wf K G H σ ρ T g/\m ρ=some (r,ρ')/\EndS K G W T ρ' E r:=by
 obtain ⟨G,W,le,ρ,T,g,r,ρ',w,e,q⟩:=h
 refine ⟨G,W,le,ρ,T,g,r,ρ',w,e,?_⟩
 cases r with
 | ok r=>cases r <;> exact q
 | error x=>exact q
theorem tS.use (h:tS K G0 W0 m E σ H) {P:Prop} (k:∀ G W,Le K G W G0 W0->∀ ρ T g r ρ',Wf K G H σ ρ T g->m ρ=some (r,ρ')->EndS K G W T ρ' E r->P):P:=by
 obtain ⟨G,W,le,ρ,T,g,r,ρ',w,e,q⟩:=h.open
 exact k G W le ρ T g r ρ' w e q
theorem tS.mk (le:Le K G W G0 W0) (w:Wf K G H σ ρ T g) (e:m ρ=some (r,ρ')) (h:EndS K G W T ρ' E r):tS K G0 W0 m E σ H:=by
 refine ⟨G,W,le,ρ,T,g,r,ρ',w,e,?_⟩
 cases r with
 | ok r=>cases r <;> exact h
 | error x=>exact h
def dC:SM:=aO .nx
noncomputable def aA (a b:SM):SM:=af a fun f=>match f with
 | .nx=>b
 | o=>aO o
theorem CM (h:tS K G0 W0 dC E σ H):B2 E σ H:=by
 refine h.use fun G W le ρ T g r ρ' w e q=>?_
 cases e
 exact q _ _ _ w
theorem CK (h:tS K G0 W0 (aA a b) E σ H):tSeq (tS K G0 W0 a) (tS K G0 W0 b) E σ H:=by
 refine h.use fun G W le ρ T g r ρ' w e q=>?_
 unfold aA af at e
 cases p:a ρ with
 | none=>rw [p] at e;exact nsE e
 | some p' =>
  obtain ⟨o,ρ1⟩:=p'
  rw [p] at e
  cases o with
  | error x=>cases e;exact tS.mk le w p q
  | ok f =>
   cases f with
   | nx=>exact tS.mk le (r:=.ok .nx) w p fun σ' H' g' c=>tS.mk le c e q
   | br=>cases e;exact tS.mk le w p q
   | ct=>cases e;exact tS.mk le w p q
   | rt d f=>cases e;exact tS.mk le w p q
def fV (m:EM):SM:=af m fun _=>aO .nx
theorem zS (h:tS K G0 W0 (fV m) E σ H):B4 (tE K G0 W0 m) E σ H:=by
 refine h.use fun G W le ρ T g r ρ' w e q=>?_
 refine tE.seq le w e q.err fun ra ρ1 e1 v H1 ⟨Ts,g1,a,a1⟩=>?_
 cases e1
 exact q _ _ _ (a.sub (Fm Ts T))
def sIf (c:M3 Bool) (a b:SM):SM:=af c fun t=>if t then a else b
theorem tS_if (h:tS K G0 W0 (sIf c a b) E σ H):tIfS (tT K G0 W0 c) (tS K G0 W0 a) (tS K G0 W0 b) E σ H:=by
 refine h.use fun G W le ρ T g r ρ' w e q=>?_
 refine tT.seq le w e q.err fun t ρ1 e1 H1 g1 d=>?_
 cases t with
 | true=>exact tS.mk le d e1 q
 | false=>exact tS.mk le d e1 q
def nol:Fl->Fl
 | .u=>.u
 | _=>.z
theorem Ei (f:Fl):nol f ≠ .l:=by cases f <;> intro h <;> cases h
theorem Eh (f:Fl):nol f=f\/nol f=.z:=by cases f <;> first | exact .inl rfl | exact .inr rfl
noncomputable def c6 (r:R3):M3 (D × Fl):=match r with
 | .val d f=>aO (d,nol f)
 | .pl i=>fun ρ=>((ρ[i]?).join).map fun p=>(.ok (p.1,.z),lowAt i ρ)
theorem oR {i:Nat}:c6 (.pl i) ρ=((ρ[i]?).join).map fun p=>(.ok (p.1,.z),lowAt i ρ):=rfl
theorem Ar.val_inv (a:Ar σ (.val d f) v Ts):∃ x,Ts=[x]/\x.d=d/\x.f=f/\x.v=v:=by
 generalize h:R3.val d f=r at a
 cases a with
 | pl _=>cases h
 | val x=>cases h;exact ⟨x,rfl,rfl,rfl,rfl⟩
theorem Ar.take (w:Wf K G H σ ρ (Ts ++ T) g) (a:Ar σ r v Ts) (e:af (c6 r) k ρ=some (o,ρ')) :
  ∃ p ρ1 g1 x,k p ρ1=some (o,ρ')/\Wf K G H σ ρ1 (x :: T) g1/\x.d=p.1/\(p.2=x.f\/p.2=.z)/\p.2 ≠ .l/\x.v=v:=by
 cases a with
 | val x=>exact ⟨(x.d,nol x.f),ρ,g,x,e,w,rfl,Eh _,Ei _,rfl⟩
 | @pl i v h =>
  unfold af at e
  rw [oR] at e
  cases q:(ρ[i]?).join with
  | none=>rw [q] at e;exact nsE e
  | some p =>
   rw [q] at e
   obtain ⟨y,E,F,J,t⟩:=w.slot (d:=p.1) (f:=p.2) q
   obtain ⟨g1,b,h1⟩:=w.lowAt (i:=i)
   obtain ⟨c,n,A,D⟩:=h1 i y E
   have hz:=D rfl
   refine ⟨(p.1,.z),_,g1,c,e,?_,A.1.trans F,.inr rfl,(by intro h;cases h),?_⟩
   ·have s:∀ u:It3,NoRoot c u:=fun u hf=>absurd hz hf
    refine ⟨b.len,b.sl,b.sv,b.okS,fun u hu=>?_,b.ss,fun j u m C hu=>?_,?_,b.base,b.pro,⟨fun u hu hf a I=>?_,b.fx.frS,b.fx.bin,b.fx.ob,b.fx.lvS⟩⟩
    ·rcases Fc.mp hu with h | hu
     ·rw [h];exact b.okS i c n
     ·exact b.okT u hu
    ·rcases Fc.mp hu with h | hu
     ·rw [h]
      refine ⟨?_,s _⟩
      by_cases B:j=i
      ·subst B
       rw [n] at m;cases m
       exact s _
      ·exact b.ss j i u c B m n
     ·exact b.st j u m C hu
    ·exact List.pairwise_cons.mpr ⟨fun u hu=>⟨s _,(b.st i c n u hu).2⟩,b.tt⟩
    ·rcases Fc.mp hu with h | hu
     ·rw [h] at hf;exact absurd hz hf
     ·exact b.fx.frT u hu hf a I
   ·rw [A.2.1]
    rw [h] at t;cases t;rfl
theorem Wf.store {i:Nat} (w:Wf K G H σ ρ (x :: T) g) (hi:i < ρ.length) (J:G.pr i=false) (hf:f=x.f\/f=.z) (s:f ≠ .l) :
  Wf K G H (σ.set i (some x.v)) (ρ.set i (some (x.d,f))) T (fun j=>if j=i then some { x with f:=f } else g j):=by
 have A:i < σ.length:=by rw [w.len];exact hi
 have B:=List.pairwise_cons.mp w.tt
 have y:=w.okT x E6
 have nx:∀ u:It3,NoRoot x u->NoRoot { x with f:=f } u:=fun u h q=>by
  rcases hf with e | e
  ·exact h (by rw [<- e];exact q)
  ·exact absurd e q
 have val:∀ j u,(if j=i then some { x with f:=f } else g j)=some u->(j=i/\u = { x with f:=f })\/(j ≠ i/\g j=some u):=fun j u h=>by
  by_cases q:j=i
  ·rw [if_pos q] at h;cases h;exact .inl ⟨q,rfl⟩
  ·rw [if_neg q] at h;exact .inr ⟨q,h⟩
 refine ⟨by rw [List.length_set,List.length_set];exact w.len,fun j=>?_,fun j u h=>?_,fun j u h=>?_,fun u hu=>w.okT u (E7 _ hu),fun j k a b n h1 h2=>?_,fun j a h b r=>?_,B.2,w.base,fun j C=>?_,⟨fun u hu=>w.fx.frT u (E7 _ hu),fun j u h t m a p=>?_,w.fx.bin,w.fx.ob,fun j u h D=>?_⟩⟩
 ·rw [cv hi]
  by_cases q:j=i
  ·rw [if_pos q,if_pos q];rfl
  ·rw [if_neg q,if_neg q];exact w.sl j
 ·rcases val j u h with ⟨rfl,rfl⟩ | ⟨n,h⟩
  ·rw [List.getElem?_set_self A]
  ·rw [List.getElem?_set_ne (fun z=>n z.symm)];exact w.sv j u h
 ·rcases val j u h with ⟨rfl,rfl⟩ | ⟨n,h⟩
  ·refine ⟨y.rep,fun q=>?_,y.src⟩
   rcases hf with e | e
   ·subst e
    exact y.own q
   ·exact absurd e q
  ·exact w.okS j u h
 ·rcases val j a h1 with ⟨L,p⟩ | ⟨M,o⟩
  ·rcases val k b h2 with ⟨E,F⟩ | ⟨I,c⟩
   ·exact absurd (L.trans E.symm) n
   ·rw [p];exact nx b (w.st k b c x E6).2
  ·rcases val k b h2 with ⟨E,F⟩ | ⟨I,c⟩
   ·rw [F];exact (w.st j a o x E6).1
   ·exact w.ss j k a b n o c
 ·rcases val j a h with ⟨rfl,rfl⟩ | ⟨n,h⟩
  ·exact ⟨nx b (B.1 b r).1,(B.1 b r).2⟩
  ·exact w.st j a h b (E7 _ r)
 ·have n:j ≠ i:=fun z=>by subst z;rw [J] at C;cases C
  rw [List.getElem?_set_ne (fun z=>n z.symm)];exact w.pro j C
 ·rcases val j u h with ⟨_,rfl⟩ | ⟨n,h⟩
  ·rcases hf with e | e
   ·exact w.fx.frT x E6 (by rw [<- e];exact m) a p
   ·exact absurd e m
  ·exact w.fx.frS j u h t m a p
 ·rcases val j u h with ⟨_,rfl⟩ | ⟨n,h⟩
  ·exact absurd D s
  ·exact w.fx.lvS j u h D
def aR (i:Nat) (m:EM):SM:=af m fun r=>af (c6 r) fun p=>fun ρ=>if i < ρ.length then some (.ok .nx,ρ.set i (some p)) else none
set_option tactic.hygienic true in
theorem CJ {i:Nat} (b:G0.pr i=false) (h:tS K G0 W0 (aR i m) E σ H):wB (tE K G0 W0 m) (tZ i) E σ H:=by
 refine h.use fun G W le ρ T g r ρ' w e q=>?_
 refine tE.seq le w e q.err fun ra ρ1 e1 v H1 ⟨Ts,g1,j,a1⟩=>?_
 obtain ⟨p,ρ2,g2,x,a,d,f1,f2,f4,c⟩:=a1.take j e1
 split at a
 ·rename_i hi
  cases a
  have:=d.store (f:=p.2) hi (by rw [le.pr];exact b) f2 f4
  rw [f1,c] at this
  exact q _ _ _ this
 ·exact nsE a
def aU (np:Nat) (m:EM):SM:=af m fun r=>match r with
 | .val d f=>aO (.rt d f)
 | .pl i=>fun ρ=>match (ρ[i]?).join with
  | some (d,.u)=>if i < np then some (.ok (.rt d .z),lowAt i ρ) else some (.ok (.rt d .u),ρ.set i none)
  | some (d,_)=>some (.ok (.rt d .z),lowAt i ρ)
  | none=>none
def sO:SM:=aO (.rt .non .z)
theorem Wf.move {i:Nat} (w:Wf K G H σ ρ T g) (f:G.pr i=false) (e:g i=some y):Wf K G H σ (ρ.set i none) (y :: T) (fun j=>if j=i then none else g j):=by
 have hi:i < ρ.length:=by
  have:=w.sl i
  rw [e] at this
  exact fq this.symm
 have val:∀ j u,(if j=i then none else g j)=some u->j ≠ i/\g j=some u:=fun j u h=>by
  grind
 refine ⟨by rw [List.length_set];exact w.len,fun j=>?_,fun j u h=>w.sv j u (val j u h).2,fun j u h=>w.okS j u (val j u h).2,fun u hu=>?_,fun j k a b n h1 h2=>w.ss j k a b n (val j a h1).2 (val k b h2).2,fun j a h b c=>?_,?_,w.base,w.pro,⟨fun u hu hf a d=>?_,fun j u h=>w.fx.frS j u (val j u h).2,w.fx.bin,w.fx.ob,fun j u h=>w.fx.lvS j u (val j u h).2⟩⟩
 ·rw [cv hi]
  by_cases q:j=i
  ·rw [if_pos q,if_pos q];rfl
  ·rw [if_neg q,if_neg q];exact w.sl j
 ·rcases Fc.mp hu with h | hu
  ·rw [h];exact w.okS i y e
  ·exact w.okT u hu
 ·obtain ⟨n,h⟩:=val j a h
  rcases Fc.mp c with h' | c
  ·rw [h'];exact ⟨w.ss j i a y n h e,w.ss i j y a (Ne.symm n) e h⟩
  ·exact w.st j a h b c
 ·exact List.pairwise_cons.mpr ⟨fun u hu=>w.st i y e u hu,w.tt⟩
 ·rcases Fc.mp hu with h | hu
  ·subst h;exact w.fx.frS i u e f hf a d
  ·exact w.fx.frT u hu hf a d
theorem CL {np:Nat} (n:∀ i,np<=i->G0.pr i=false) (h:tS K G0 W0 (aU np m) E σ H):tRet (tE K G0 W0 m) E σ H:=by
 refine h.use fun G W le ρ T g r ρ' w e q=>?_
 refine tE.seq le w e q.err fun ra ρ1 e1 v H1 ⟨Ts,g1,j,a1⟩=>?_
 have low:∀ {i:Nat} {d:D} {f:Fl},(ρ1[i]?).join=some (d,f)->some ((.ok (.rt d .z),lowAt i ρ1):Except D Flw × Sto)=some (r,ρ')->Ar σ (.pl i) v Ts->E.rt v H1:=fun {i d f} b C a=>by
  cases C
  have F:af (c6 (.pl i)) (fun p=>aO (Flw.rt p.1 p.2)) ρ1=some (.ok (.rt d .z),L3.lowAt i ρ1):=by
   unfold af
   rw [oR,b]
   rfl
  obtain ⟨p,ρ2,g2,x,k,o,f1,f2,_,A⟩:=a.take j F
  have c:Flw.rt p.1 p.2=Flw.rt d .z/\ρ2=L3.lowAt i ρ1:=by
   unfold aO at k
   injection k with k
   injection k with c s
   injection c with c
   exact ⟨c,s⟩
  obtain ⟨c,s⟩:=c
  injection c with e7 e8
  subst s
  rw [<- A]
  have L:=Wf.lowT (Ts:=[x]) o
  exact q (cW x) σ H1 g2 L (f1.trans e7) rfl
 cases a1 with
 | val x=>cases e1;exact q x σ H1 g1 j rfl rfl
 | @pl i v h =>
  dsimp only at e1
  cases b:(ρ1[i]?).join with
  | none=>rw [b] at e1;exact nsE e1
  | some p =>
   obtain ⟨d,f⟩:=p
   rw [b] at e1
   cases f with
   | u =>
    dsimp only at e1
    split at e1
    ·exact low b e1 (.pl h)
    ·cases e1
     obtain ⟨y,B,I,J,t⟩:=j.slot b
     have o:=Wf.move j (by rw [le.pr];exact n i (by lia)) B
     have:=q y σ H1 _ o I J
     rw [h] at t
     cases t
     exact this
   | l=>exact low b e1 (.pl h)
   | z=>exact low b e1 (.pl h)
def bO (c:M3 Bool) (b:SM):Nat->SM
 | 0=>fun _=>none
 | n+1=>af c fun t=>if t then af b (fun f=>match f with
   | .nx=>bO c b n
   | .ct=>bO c b n
   | .br=>aO .nx
   | .rt d f=>aO (.rt d f)) else aO .nx
def dR (c:M3 Bool) (b:SM):SM:=fun ρ=>open Classical in if h:∃ n r,bO c b n ρ=some r then some (Classical.choose (Classical.choose_spec h)) else none
theorem fR:∀ {n:Nat} {ρ:Sto} {r:Except D Flw × Sto},bO c b n ρ=some r->bO c b (n+1) ρ=some r
 | 0,ρ,r,e=>by cases e
 | n+1,ρ,r,e=>by
  unfold bO at e ⊢
  unfold af at e ⊢
  cases h:c ρ with
  | none=>rw [h] at e;exact nsE e
  | some p =>
   obtain ⟨o,ρ1⟩:=p
   rw [h] at e
   cases o with
   | error x=>exact e
   | ok t =>
    cases t with
    | false=>exact e
    | true =>
     simp only [if_true] at e ⊢
     cases h2:b ρ1 with
     | none=>rw [h2] at e;exact nsE e
     | some p2 =>
      obtain ⟨a,ρ2⟩:=p2
      rw [h2] at e
      cases a with
      | error x=>exact e
      | ok f =>
       cases f with
       | nx=>exact fR (n:=n) e
       | ct=>exact fR (n:=n) e
       | br=>exact e
       | rt d f=>exact e
theorem jj {n m:Nat} (h:n<=m) (e:bO c b n ρ=some r):bO c b m ρ=some r:=by
 induction h with
 | refl=>exact e
 | step _ ih=>exact fR ih
theorem o4 (e:dR c b ρ=some r):∃ n,bO c b n ρ=some r:=by
 unfold dR at e
 split at e
 ·grind
 ·exact nsE e
theorem wy (h:tS K G0 W0 (dR c b) E σ H):wx (tT K G0 W0 c) (tS K G0 W0 b) E σ H:=by
 refine h.use fun G W le ρ T g r ρ' w e q=>?_
 obtain ⟨n,e⟩:=o4 e
 refine ⟨fun m σ H=>∃ ρ g,Wf K G H σ ρ T g/\bO c b m ρ=some (r,ρ'),⟨n,ρ,g,w,e⟩,?_⟩
 rintro m σ1 H1 ⟨ρ1,g1,k,e1⟩
 cases m with
 | zero=>exact nsE e1
 | succ m =>
  unfold bO at e1
  refine tT.seq le k e1 q.err fun t ρ2 a H2 g2 i=>?_
  cases t with
  | false=>cases a;exact q _ _ _ i
  | true =>
   refine ⟨fun σ H=>∃ ρ g,Wf K G H σ ρ T g/\bO c b m ρ=some (r,ρ'),fun σ' H' h=>⟨m,Nat.lt_succ_self m,h⟩,?_⟩
   simp only [if_true] at a
   unfold af at a
   cases p:b ρ2 with
   | none=>rw [p] at a;exact nsE a
   | some p2 =>
    obtain ⟨o,ρ3⟩:=p2
    rw [p] at a
    cases o with
    | error x=>cases a;exact tS.mk le i p q
    | ok f =>
     cases f with
     | nx=>exact tS.mk le (r:=.ok .nx) i p fun σ' H' g' j=>⟨ρ3,g',j,a⟩
     | ct=>exact tS.mk le (r:=.ok .ct) i p fun σ' H' g' j=>⟨ρ3,g',j,a⟩
     | br=>cases a;exact tS.mk le (r:=.ok .br) i p q
     | rt d f=>cases a;exact tS.mk le (r:=.ok (.rt d f)) i p q
end
end L3
end
section
namespace L3
open PySem L2
abbrev Fn:=List (D × Fl)->Option (Except D (D × Fl) × List (D × Fl))
def prs (ρ:Sto):List R3->Option (List (D × Fl))
 | []=>some []
 | .pl i :: rs=>match (ρ[i]?).join,prs ρ rs with
  | some p,some ps=>some (p :: ps)
  | _,_=>none
 | .val d f :: rs=>match prs ρ rs with
  | some ps=>some ((d,f) :: ps)
  | _=>none
def ki (rs:List R3):List Nat:=(pls rs).filter fun i=>decide (2<=(pls rs).count i)
def back:List R3->List (D × Fl)->List (D × Fl)->Sto->Sto
 | .pl i :: rs,p :: ps,q :: qs,ρ=>back rs ps qs (if p.2=.z then ρ else ρ.set i (some (q.1,if q.2=.z then .z else p.2)))
 | .val _ _ :: rs,_ :: ps,_ :: qs,ρ=>back rs ps qs ρ
 | _,_,_,ρ=>ρ
section
variable {K:FG} {G G0:Gm} {W W0:D->Sto->Prop} {H H':Hp} {σ:St} {ρ ρ':Sto} {T T':List It3} {g:Nat->Option It3} {x y z:It3} {α β:Type}
structure Back1 (K:FG) (H H':Hp) (ps:List It3) (p q:It3):Prop where
 z:p.f=.z->q=p
 v:q.v=p.v
 f:q.f=p.f\/q.f=.z
 arg:Arg K H' q
 src:∀ c ∈ q.L,H c=none\/c7 ps c
 there:p.f=.u->∀ b,p.v=.ref b->∃ o,H' b=some o
structure BehindX (K:FG) (H H':Hp) (ps qs:List It3):Prop where
 frame:∀ b o,H b=some o->(∀ p ∈ ps,p.f=.u->p.v ≠ .ref b)->H' b=some o
 back:Paired (Back1 K H H' ps) ps qs
 apart:qs.Pairwise Apart3
structure Behind (K:FG) (H H':Hp) (ps qs:List It3) (x:It3):Prop extends BehindX K H H' ps qs where
 rep:Rep K H' x.d x.v x.L
 own:x.f ≠ .z->jb x.d=true/\∃ a L',x.v=.ref a/\x.L=a :: L'/\a ∉ L'/\H a=none
 src:∀ c ∈ x.L,H c=none\/c7 ps c
 apx:∀ q ∈ qs,Apart3 x q
theorem Ars.args:∀ {rs:List R3} {E:List V} {Ts T:List It3} {c:List (D × Fl)},Ars σ rs E Ts->Wf K G H σ ρ (Ts ++ T) g->(∀ i,2<=(pls rs).count i->∀ y,g i=some y->y.f=.z)->prs ρ rs=some c ->
  ∃ ps:List It3,ps.map (fun p=>(p.d,p.f))=c/\ps.map (·.v)=E/\ps.Pairwise Apart3/\(∀ p ∈ ps,(∃ i,R3.pl i ∈ rs/\g i=some p)\/p ∈ Ts)/\Paired (fun r p=>match r with | .pl i=>g i=some p | .val _ _=>p ∈ Ts) rs ps
 | [],_,_,T,c,.nil,w,_,e=>by cases e;exact ⟨[],rfl,rfl,.nil,fun _ h=>(by cases h),.nil⟩
 | r :: rs,_,_,T,c,.cons (v:=v0) (Ts:=T0) (Us:=U0) a as,w,hd,e=>by
  have F:Wf K G H σ ρ (U0 ++ (T0 ++ T)) g:=by rw [<- List.append_assoc];exact w
  have o:∀ i,2<=(pls rs).count i->∀ y,g i=some y->y.f=.z:=fun i s=>hd i (by
   cases r with
   | pl j=>show 2<=(j :: pls rs).count i;rw [List.count_cons];lia
   | val _ _=>exact s)
  cases a with
  | @pl i v h =>
   unfold prs at e
   cases q:(ρ[i]?).join with
   | none=>rw [q] at e;exact nsE e
   | some p0 =>
    cases l:prs ρ rs with
    | none=>rw [q,l] at e;exact nsE e
    | some pfs' =>
     rw [q,l] at e
     cases e
     obtain ⟨ps,f1,f2,t,f4,u⟩:=Ars.args as F o l
     obtain ⟨y,m,L,I,C⟩:=w.slot (d:=p0.1) (f:=p0.2) q
     have J:y.v=v0:=by rw [h] at C;cases C;rfl
     refine ⟨y :: ps,by rw [Fu,f1,L,I],by rw [Fu,f2,J],List.pairwise_cons.mpr ⟨fun p b=>?_,t⟩,fun p b=>?_,.cons m ?_⟩
     ·rcases f4 p b with ⟨j,n,k⟩ | b
      ·by_cases A:i=j
       ·subst A
        have s:2<=(pls (R3.pl i :: rs)).count i:=by
         show 2<=(i :: pls rs).count i
         rw [List.count_cons_self]
         have:=List.count_pos_iff.mpr (kD n)
         lia
        have hz:=hd i s y m
        have B:=hd i s p k
        exact ⟨fun q=>absurd hz q,fun q=>absurd B q⟩
       ·exact ⟨w.ss i j y p A m k,w.ss j i p y (Ne.symm A) k m⟩
      ·exact w.st i y m p (Fa _ (Fa _ b))
     ·rcases Fc.mp b with h' | b
      ·rw [h'];exact .inl ⟨i,E6,m⟩
      ·rcases f4 p b with ⟨j,n,k⟩ | b
       ·exact .inl ⟨j,E7 _ n,k⟩
       ·exact .inr (Fa _ b)
     ·exact Paired.mapP u fun r p h=>by
       cases r with
       | pl j=>exact h
       | val _ _=>exact Fa _ h
  | val x =>
   unfold prs at e
   cases l:prs ρ rs with
   | none=>rw [l] at e;exact nsE e
   | some pfs' =>
    rw [l] at e
    cases e
    obtain ⟨ps,f1,f2,t,f4,u⟩:=Ars.args as F o l
    refine ⟨x :: ps,by rw [Fu,f1],by rw [Fu,f2],List.pairwise_cons.mpr ⟨fun p b=>?_,t⟩,fun p b=>?_,.cons (Fb _ E6) ?_⟩
    ·rcases f4 p b with ⟨j,n,k⟩ | b
     ·exact (w.st j p k x (Fa _ (Fb _ E6))).symm
     ·have t1:=(List.pairwise_append.mp w.tt).1
      exact ((List.pairwise_append.mp t1).2.2 p b x E6).symm
    ·rcases Fc.mp b with h' | b
     ·rw [h'];exact .inr (Fb _ E6)
     ·rcases f4 p b with ⟨j,n,k⟩ | b
      ·exact .inl ⟨j,E7 _ n,k⟩
      ·exact .inr (Fa _ b)
    ·exact Paired.mapP u fun r p h=>by
      cases r with
      | pl j=>exact h
      | val _ _=>exact Fa _ h
theorem fD:∀ {rs:List R3} {ps qs:List It3} {ρ:Sto} {g:Nat->Option It3},(∀ j,(g j).map (fun x=>(x.d,x.f))=(ρ[j]?).join)->rs.length=ps.length->Paired (Back1 K H H' T) ps qs->(∀ i,R3.pl i ∈ rs->i < ρ.length) ->
  ∃ g':Nat->Option It3,(∀ j,(g' j).map (fun x=>(x.d,x.f))=((back rs (ps.map fun p=>(p.d,p.f)) (qs.map fun q=>(q.d,q.f)) ρ)[j]?).join)/\(back rs (ps.map fun p=>(p.d,p.f)) (qs.map fun q=>(q.d,q.f)) ρ).length = ρ.length /\
   ∀ j:Nat,(g' j=g j/\∀ (k:Nat) (p:It3),rs[k]?=some (R3.pl j)->ps[k]?=some p->p.f=.z)\/∃ (k:Nat) (p q:It3),rs[k]?=some (R3.pl j)/\ps[k]?=some p/\qs[k]?=some q/\p.f ≠ .z/\g' j=some q
 | [],[],_,ρ,g,hg,_,.nil,_=>⟨g,hg,rfl,fun j=>.inl ⟨rfl,fun k p h=>by simp at h⟩⟩
 | [],_ :: _,_,_,_,_,h,_,_=>by cases h
 | _ :: _,[],_,_,_,_,h,_,_=>by cases h
 | .val d f :: rs,p :: ps,_,ρ,g,hg,hl,.cons (b:=q) (l₂:=qs) b1 bs,hi=>by
  obtain ⟨g',h1,h2,h3⟩:=fD (rs:=rs) hg (by simpa using hl) bs fun i h=>hi i (E7 _ h)
  refine ⟨g',h1,h2,fun j=>?_⟩
  rcases h3 j with ⟨e,h⟩ | ⟨k,a,m,a1,a2,n,l⟩
  ·refine .inl ⟨e,fun k a e1 c=>?_⟩
   cases k with
   | zero=>simp at e1
   | succ k=>exact h k a (by simpa using e1) (by simpa using c)
  ·exact .inr ⟨k+1,a,m,by simpa using a1,by simpa using a2,by simpa using n,l⟩
 | .pl i :: rs,p :: ps,_,ρ,g,hg,hl,.cons (b:=q) (l₂:=qs) b1 bs,hi=>by
  have r:=hi i E6
  by_cases hz:p.f=.z
  ·have s:back (.pl i :: rs) ((p :: ps).map fun p=>(p.d,p.f)) ((q :: qs).map fun q=>(q.d,q.f)) ρ=back rs (ps.map fun p=>(p.d,p.f)) (qs.map fun q=>(q.d,q.f)) ρ:=by
    show back rs _ _ (if p.f=.z then ρ else _)=_
    rw [if_pos hz]
   rw [s]
   obtain ⟨g',h1,h2,h3⟩:=fD (rs:=rs) hg (by simpa using hl) bs fun i h=>hi i (E7 _ h)
   refine ⟨g',h1,h2,fun j=>?_⟩
   rcases h3 j with ⟨e,h⟩ | ⟨k,a,m,a1,a2,n,l⟩
   ·refine .inl ⟨e,fun k a e1 c=>?_⟩
    cases k with
    | zero=>simp at c;rw [<- c];exact hz
    | succ k=>exact h k a (by simpa using e1) (by simpa using c)
   ·exact .inr ⟨k+1,a,m,by simpa using a1,by simpa using a2,by simpa using n,l⟩
  ·have s:back (.pl i :: rs) ((p :: ps).map fun p=>(p.d,p.f)) ((q :: qs).map fun q=>(q.d,q.f)) ρ=back rs (ps.map fun p=>(p.d,p.f)) (qs.map fun q=>(q.d,q.f)) (ρ.set i (some (q.d,q.f))):=by
    show back rs _ _ (if p.f=.z then ρ else ρ.set i (some (q.d,if q.f=.z then .z else p.f)))=_
    rw [if_neg hz]
    have:(if q.f=.z then Fl.z else p.f)=q.f:=by
     by_cases h:q.f=.z
     ·rw [if_pos h,h]
     ·rw [if_neg h]
      rcases b1.f with h' | h'
      ·exact h'.symm
      ·exact absurd h' h
    rw [this]
   rw [s]
   obtain ⟨g',h1,h2,h3⟩:=fD (rs:=rs) (ρ:=ρ.set i (some (q.d,q.f))) (g:=fun j=>if j=i then some q else g j) (fun j=>by
    rw [cv r]
    by_cases e:j=i
    ·rw [if_pos e,if_pos e];rfl
    ·rw [if_neg e,if_neg e];exact hg j) (by simpa using hl) bs fun i h=>by rw [List.length_set];exact hi i (E7 _ h)
   refine ⟨g',h1,by rw [h2,List.length_set],fun j=>?_⟩
   rcases h3 j with ⟨e,h⟩ | ⟨k,a,m,a1,a2,n,l⟩
   ·by_cases o:j=i
    ·rw [if_pos o] at e
     exact .inr ⟨0,p,q,by simp [o],rfl,rfl,hz,e⟩
    ·rw [if_neg o] at e
     refine .inl ⟨e,fun k a e1 c=>?_⟩
     cases k with
     | zero=>simp at e1;exact absurd e1.symm o
     | succ k=>exact h k a (by simpa using e1) (by simpa using c)
   ·exact .inr ⟨k+1,a,m,by simpa using a1,by simpa using a2,by simpa using n,l⟩
theorem nK:∀ {rs:List R3} {a:List (D × Fl)},prs ρ rs=some a->rs.length=a.length
 | [],a,e=>by cases e;rfl
 | .pl i :: rs,a,e=>by
  unfold prs at e
  cases q:(ρ[i]?).join with
  | none=>rw [q] at e;exact nsE e
  | some p =>
   cases b:prs ρ rs with
   | none=>rw [q,b] at e;exact nsE e
   | some ps=>rw [q,b] at e;cases e;rw [FC,FC,nK b]
 | .val d f :: rs,a,e=>by
  unfold prs at e
  cases b:prs ρ rs with
  | none=>rw [b] at e;exact nsE e
  | some ps=>rw [b] at e;cases e;rw [FC,FC,nK b]
theorem q9:∀ {rs:List R3} {a:List (D × Fl)},prs ρ rs=some a->∀ i,R3.pl i ∈ rs->i < ρ.length
 | [],a,e,i,h=>by cases h
 | .pl i :: rs,a,e,j,h=>by
  unfold prs at e
  cases q:(ρ[i]?).join with
  | none=>rw [q] at e;exact nsE e
  | some p =>
   cases b:prs ρ rs with
   | none=>rw [q,b] at e;exact nsE e
   | some ps =>
    rcases Fc.mp h with h | h
    ·cases h;exact fq q
    ·exact q9 b j h
 | .val d f :: rs,a,e,j,h=>by
  unfold prs at e
  cases b:prs ρ rs with
  | none=>rw [b] at e;exact nsE e
  | some ps =>
   rcases Fc.mp h with h | h
   ·cases h
   ·exact q9 b j h
theorem Paired.at:∀ {l:List α} {m:List β} {k:Nat} {a:α} {b:β},Paired F l m->l[k]?=some a->m[k]?=some b->F a b
 | _,_,_,_,_,.nil,h,_=>by simp at h
 | _,_,0,_,_,.cons r _,h,h'=>by simp at h h';subst h h';exact r
 | _,_,k+1,_,_,.cons _ t,h,h'=>Paired.at (k:=k) t (by simpa using h) (by simpa using h')
theorem Paired.exL:∀ {l:List α} {m:List β} {k:Nat} {a:α},Paired F l m->l[k]?=some a->∃ b,m[k]?=some b/\F a b
 | _,_,_,_,.nil,h=>by simp at h
 | _,_,0,_,.cons r _,h=>by simp at h;subst h;exact ⟨_,rfl,r⟩
 | _,_,k+1,_,.cons _ t,h=>let ⟨b,h1,h2⟩:=Paired.exL (k:=k) t (by simpa using h);⟨b,by simpa using h1,h2⟩
theorem Paired.exR:∀ {l:List α} {m:List β} {k:Nat} {b:β},Paired F l m->m[k]?=some b->∃ a,l[k]?=some a/\F a b
 | _,_,_,_,.nil,h=>by simp at h
 | _,_,0,_,.cons r _,h=>by simp at h;subst h;exact ⟨_,rfl,r⟩
 | _,_,k+1,_,.cons _ t,h=>let ⟨b,h1,h2⟩:=Paired.exR (k:=k) t (by simpa using h);⟨b,by simpa using h1,h2⟩
theorem cR {R:α->α->Prop} {l:List α} (p:l.Pairwise R) (e:∀ a b,R a b->R b a) {i j:Nat} {a b:α} (n:i ≠ j) (c:l[i]?=some a) (d:l[j]?=some b):R a b:=by
 obtain ⟨h1,e1⟩:=Fi.mp c
 obtain ⟨h2,f⟩:=Fi.mp d
 have q:=List.pairwise_iff_getElem.mp p
 grind
theorem Wf.after (w:Wf K G H σ ρ (Ts ++ T) g) (e:prs ρ rs=some pfs) (f1:ps.map (fun p=>(p.d,p.f))=pfs) (f4:∀ p ∈ ps,(∃ i,R3.pl i ∈ rs/\g i=some p)\/p ∈ Ts) (f5:Paired (fun r p=>match r with | .pl i=>g i=some p | .val _ _=>p ∈ Ts) rs ps) (B:BehindX K H H' ps qs) :
  ∃ g',Wf K G H' σ (L3.back rs pfs (qs.map fun q=>(q.d,q.f)) ρ) T g' /\
   ∀ x,Rep K H' x.d x.v x.L->(x.f ≠ .z->jb x.d=true/\∃ a L',x.v=.ref a/\x.L=a :: L'/\a ∉ L'/\H a=none)->(∀ c ∈ x.L,H c=none\/c7 ps c)->(∀ q ∈ qs,Apart3 x q)->Wf K G H' σ (L3.back rs pfs (qs.map fun q=>(q.d,q.f)) ρ) (x :: T) g':=by
 subst f1
 have V:rs.length=ps.length:=by have:=nK e;rwa [Fh] at this
 obtain ⟨g',h1,h2,h3⟩:=fD (K:=K) (H:=H) (H':=H') (T:=ps) (rs:=rs) (ps:=ps) (qs:=qs) w.sl V B.back (q9 e)
 have F:∀ p ∈ ps,Itm (Ts ++ T) g p:=fun p l=>by
  rcases f4 p l with ⟨i,_,Q⟩ | h
  ·exact .inl ⟨i,Q⟩
  ·exact .inr (Fa _ h)
 have ab:∀ b o,H b=some o->∃ o',H' b=some o':=fun b o R=>by
  by_cases h:∀ p ∈ ps,p.f=.u->p.v ≠ .ref b
  ·exact ⟨o,B.frame b o R h⟩
  ·have h':∃ p,p ∈ ps/\p.f=.u/\p.v=.ref b:=by
    refine Classical.byContradiction fun n=>h fun p l hf J=>n ⟨p,l,hf,J⟩
   obtain ⟨p,l,hf,J⟩:=h'
   obtain ⟨k,hk,ek⟩:=List.mem_iff_getElem.mp l
   obtain ⟨q,e1,b1⟩:=Paired.exL B.back (show ps[k]?=some p by rw [Fd hk,ek])
   exact b1.there hf b J
 have ka:∀ j z,g j=some z->(∀ (k:Nat) (p:It3),rs[k]?=some (R3.pl j)->ps[k]?=some p->p.f=.z)->∀ p ∈ ps,Apart3 p z:=fun j z ej hu p l=>by
  rcases f4 p l with ⟨i,hi,Q⟩ | h
  ·by_cases ij:i=j
   ·subst ij
    have ar:p=z:=FS (Q.symm.trans ej)
    subst ar
    have hz:p.f=.z:=by
     obtain ⟨k,hk,ek⟩:=List.mem_iff_getElem.mp hi
     have Y:rs[k]?=some (R3.pl i):=by rw [Fd hk,ek]
     obtain ⟨A,e1,D⟩:=Paired.exL f5 Y
     have D:g i=some A:=D
     rw [Q] at D
     cases D
     exact hu k p Y e1
    exact ⟨fun q=>absurd hz q,fun q=>absurd hz q⟩
   ·exact ⟨w.ss i j p z ij Q ej,w.ss j i z p (Ne.symm ij) ej Q⟩
  ·exact (w.st j z ej p (Fa _ h)).symm
 have kt:∀ z ∈ T,∀ p ∈ ps,Apart3 p z:=fun z hz p l=>by
  rcases f4 p l with ⟨i,hi,Q⟩ | h
  ·exact w.st i p Q z (Fb _ hz)
  ·exact (List.pairwise_append.mp w.tt).2.2 p h z hz
 have keep:∀ z,ItOk K G H z->(∀ p ∈ ps,Apart3 p z)->ItOk K G H' z:=fun z P W=>by
  refine P.keep (M:=fun b=>∃ p ∈ ps,p.f=.u/\p.v=.ref b) (fun b o R n=>B.frame b o R fun p l hf J=>n ⟨p,l,hf,J⟩) (fun b ⟨p,l,hf,J⟩=>?_) (fun b R ⟨p,l,hf,J⟩=>?_)
  ·obtain ⟨_,a,L',e1,D,_⟩:=(w.itm (F p l)).own (by rw [hf];intro q;cases q)
   rw [J] at e1
   cases e1
   exact (w.itm (F p l)).rep.inH b (by rw [D];exact E6)
  ·exact (W p l).1 (by rw [hf];intro q;cases q) b J R
 have a0:∀ k p q,ps[k]?=some p->qs[k]?=some q->ItOk K G H' q:=fun k p q e1 D=>by
  have b:=Paired.at B.back e1 D
  refine ⟨b.arg.rep,fun hf=>?_,fun c S=>?_⟩
  ·obtain ⟨m,a,L',v1,v2,v3⟩:=b.arg.own hf
   refine ⟨m,a,L',v1,v2,v3,fun hu=>?_⟩
   have pf:p.f=.u:=by
    rcases b.f with h | h
    ·rw [<- h];exact hu
    ·rw [h] at hu;cases hu
   obtain ⟨_,a',a4,e3,_,_,e5⟩:=(w.itm (F p (Fj e1))).own (by rw [pf];intro q;cases q)
   rw [<- b.v,v1] at e3
   cases e3
   exact e5 pf
  ·rcases b.src c S with h | ⟨A,C,h⟩
   ·exact .inl (w.h0none h)
   ·exact (w.itm (F A C)).src c h
 have kq:∀ z,ItOk K G H z->(∀ p ∈ ps,Apart3 p z)->∀ k p q,ps[k]?=some p->qs[k]?=some q->Apart3 z q:=fun z P W k p q e1 D=>by
  have b:=Paired.at B.back e1 D
  refine ⟨fun hf a ev hm=>?_,fun hf a ev=>?_⟩
  ·rcases b.src a hm with h | ⟨A,C,S⟩
   ·obtain ⟨_,a',L',s,O,_⟩:=P.own hf
    rw [ev] at s;cases s
    obtain ⟨o,I⟩:=(P.rep.inH a (by rw [O];exact E6)).ex
    rw [h] at I;exact nsE I
   ·exact (W A C).2 hf a ev S
  ·have pf:p.f ≠ .z:=fun X=>by
    have:=b.z X
    rw [this] at hf
    exact hf X
   exact (W p (Fj e1)).1 pf a (by rw [<- b.v];exact ev)
 have old:∀ j z,g' j=some z->(g j=some z/\∀ p ∈ ps,Apart3 p z)\/∃ k p,rs[k]?=some (R3.pl j)/\ps[k]?=some p/\qs[k]?=some z:=fun j z E=>by
  rcases h3 j with ⟨e1,hu⟩ | ⟨k,p,q,a1,a2,y,_,a5⟩
  ·rw [e1] at E
   exact .inl ⟨E,ka j z E hu⟩
  ·rw [a5] at E
   cases E
   exact .inr ⟨k,p,a1,a2,y⟩
 have wf:Wf K G H' σ (L3.back rs (ps.map fun p=>(p.d,p.f)) (qs.map fun q=>(q.d,q.f)) ρ) T g':=by
  refine ⟨by rw [h2];exact w.len,h1,fun j z E=>?_,fun j z E=>?_,fun z hz=>keep z (w.okT z (Fb _ hz)) (kt z hz),fun i j a b n U eb=>?_,fun j z E t N=>?_,(List.pairwise_append.mp w.tt).2.1,fun b o e n=>?_,w.pro,⟨fun u hu=>w.fx.frT u (Fb _ hu),fun j u h l hf a U=>?_,fun b R=>?_,fun b o h=>?_,fun j u h V=>?_⟩⟩
  ·rcases old j z E with ⟨e1,_⟩ | ⟨k,p,a1,a2,y⟩
   ·exact w.sv j z e1
   ·have Z:g j=some p:=by
     obtain ⟨A,s,O⟩:=Paired.exL f5 a1
     rw [a2] at s;cases s
     exact O
    rw [(Paired.at B.back a2 y).v]
    exact w.sv j p Z
  ·rcases old j z E with ⟨e1,ap⟩ | ⟨k,p,a1,a2,y⟩
   ·exact keep z (w.okS j z e1) ap
   ·exact a0 k p z a2 y
  ·rcases old i a U with ⟨e1,ap⟩ | ⟨k,p,a1,a2,y⟩
   ·rcases old j b eb with ⟨D,_⟩ | ⟨k',A,b1,b2,b3⟩
    ·exact w.ss i j a b n e1 D
    ·exact (kq a (w.okS i a e1) ap k' A b b2 b3).1
   ·rcases old j b eb with ⟨D,ap⟩ | ⟨k',A,b1,b2,b3⟩
    ·exact (kq b (w.okS j b D) ap k p a a2 y).2
    ·have kk:k ≠ k':=fun z=>by
      subst z
      rw [a1] at b1
      cases b1
      exact n rfl
     exact (cR B.apart (fun _ _=>Apart3.symm) kk y b3).1
  ·rcases old j z E with ⟨e1,ap⟩ | ⟨k,p,a1,a2,y⟩
   ·exact w.st j z e1 t (Fb _ N)
   ·exact (kq t (w.okT t (Fb _ N)) (kt t N) k p z a2 y).symm
  ·refine B.frame b o (w.base b o e n) fun p l hf J=>?_
   obtain ⟨_,a,L',e1,_,_,e3⟩:=(w.itm (F p l)).own (by rw [hf];intro q;cases q)
   rw [J] at e1
   cases e1
   rcases e3 hf with h | h
   ·rw [e] at h;cases h
   ·exact n h
  ·rcases old j u h with ⟨e1,_⟩ | ⟨k,p,a1,a2,y⟩
   ·exact w.fx.frS j u e1 l hf a U
   ·have b:=Paired.at B.back a2 y
    have Z:g j=some p:=by
     obtain ⟨A,s,O⟩:=Paired.exL f5 a1
     rw [a2] at s;cases s
     exact O
    refine w.fx.frS j p Z l (fun X=>?_) a (by rw [<- b.v];exact U)
    have:=b.z X
    rw [this] at hf
    exact hf X
  ·obtain ⟨o,I⟩:=w.fx.bin b R
   exact ab b o I
  ·obtain ⟨o',I⟩:=w.fx.ob b o h
   exact ab b o' I
  ·rcases old j u h with ⟨e1,_⟩ | ⟨k,p,a1,a2,y⟩
   ·exact w.fx.lvS j u e1 V
   ·have b:=Paired.at B.back a2 y
    have Z:g j=some p:=by
     obtain ⟨A,s,O⟩:=Paired.exL f5 a1
     rw [a2] at s;cases s
     exact O
    rw [b.v]
    refine w.fx.lvS j p Z ?_
    rcases b.f with h | h
    ·rw [<- h];exact V
    ·rw [h] at V;cases V
 refine ⟨g',wf,fun x rx ox sx ax=>?_⟩
 have kx:∀ z,ItOk K G H z->(∀ p ∈ ps,Apart3 p z)->Apart3 z x:=fun z P W=>by
  refine ⟨fun hf a ev hm=>?_,fun hf a ev hm=>?_⟩
  ·rcases sx a hm with h | ⟨A,C,S⟩
   ·obtain ⟨_,a',L',s,O,_⟩:=P.own hf
    rw [ev] at s;cases s
    obtain ⟨o,I⟩:=(P.rep.inH a (by rw [O];exact E6)).ex
    rw [h] at I;exact nsE I
   ·exact (W A C).2 hf a ev S
  ·obtain ⟨_,a',L',s,_,_,q4⟩:=ox hf
   rw [ev] at s;cases s
   obtain ⟨o,I⟩:=(P.rep.inH a hm).ex
   rw [q4] at I;exact nsE I
 refine ⟨wf.len,wf.sl,wf.sv,wf.okS,fun z hz=>?_,wf.ss,fun j z E t N=>?_,?_,wf.base,wf.pro,⟨fun u hu hf a U=>?_,wf.fx.frS,wf.fx.bin,wf.fx.ob,wf.fx.lvS⟩⟩
 ·rcases Fc.mp hz with h | hz
  ·rw [h]
   refine ⟨rx,fun hf=>?_,fun c S=>?_⟩
   ·obtain ⟨m,a,L',v1,v2,v3,v4⟩:=ox hf
    exact ⟨m,a,L',v1,v2,v3,fun _=>.inl (w.h0none v4)⟩
   ·rcases sx c S with h | ⟨A,C,h⟩
    ·exact .inl (w.h0none h)
    ·exact (w.itm (F A C)).src c h
  ·exact wf.okT z hz
 ·rcases Fc.mp N with h | N
  ·rw [h]
   rcases old j z E with ⟨e1,ap⟩ | ⟨k,p,a1,a2,y⟩
   ·exact kx z (w.okS j z e1) ap
   ·exact (ax z (Fj y)).symm
  ·exact wf.st j z E t N
 ·exact List.pairwise_cons.mpr ⟨fun t N=>(kx t (w.okT t (Fb _ N)) (kt t N)).symm,wf.tt⟩
 ·rcases Fc.mp hu with h | hu
  ·subst h
   obtain ⟨_,a',L',s,_,_,q4⟩:=ox hf
   rw [U] at s;cases s
   exact w.ornone q4
  ·exact wf.fx.frT u hu hf a U
set_option tactic.hygienic true in
theorem rM {i a:Nat} (h:(ρ[i]?).join=none):((L3.lowAt a ρ)[i]?).join=none:=by
 unfold L3.lowAt
 split
 ·grind
 ·rename_i d hd
  rw [cv (fq hd)]
  by_cases b:i=a
  ·subst b;rw [h] at hd;exact nsE hd
  ·rw [if_neg b];exact h
 ·exact h
theorem qc {i:Nat}:∀ {is:List Nat} {ρ:Sto},(ρ[i]?).join=none->((L3.frz is ρ)[i]?).join=none
 | [],ρ,h=>h
 | a :: is,ρ,h=>qc (is:=is) (ρ:=L3.lowAt a ρ) (rM h)
end
end L3
end
section
namespace L3
open PySem L2
def eF (ρ:Sto):Nat->List (D × Fl)->Option (List (D × Fl))
 | _,[]=>some []
 | i,(d,.z) :: ps=>(eF ρ (i+1) ps).map fun r=>(d,.z) :: r
 | i,(d,f) :: ps=>match (ρ[i]?).join,eF ρ (i+1) ps with
  | some (d',f'),some r=>if f'=f\/f'=.z then some ((d',f') :: r) else none
  | _,_=>none
def fN (n:Nat) (ps:List (D × Fl)):Sto:=ps.map some ++ List.replicate (n - ps.length) none
def fn0 (n:Nat) (b:SM):Fn:=fun ps=>match b (fN n ps) with
 | some (.ok .nx,ρ')=>(eF ρ' 0 ps).map fun fs=>(.ok (.non,.z),fs)
 | some (.ok (.rt d f),ρ')=>(eF ρ' 0 ps).map fun fs=>(.ok (d,f),fs)
 | some (.error e,ρ')=>(eF ρ' 0 ps).map fun fs=>(.error e,fs)
 | _=>none
def l4 (b:Bool) (p:D × Fl):D × Fl:=if b then (p.1,.z) else p
noncomputable def fnM (mask:List Bool) (n:Nat) (b:SM):Fn:=fun ps=>if ps.length=mask.length then fn0 n b (List.zipWith l4 mask ps) else none
section
variable {K:FG} {G:Gm} {W:D->Sto->Prop} {H H':Hp} {σ:St} {ρ ρ':Sto} {T T':List It3} {g:Nat->Option It3} {x y z:It3} {α β:Type}
def gOf (H:Hp) (pr:Nat->Bool) (σ0:St) (ps:List It3):Gm:=⟨H,fun b=>∃ p ∈ ps,p.f=.u/\p.v=.ref b,pr,σ0,H,c7 ps,fun i=>(ps[i]?).map (·.v)⟩
theorem vF {n:Nat} (a:ps.length<=n) (i:Nat):((fN n ps)[i]?).join=ps[i]?:=by
 unfold fN
 grind
theorem my {n:Nat} {a:List V} {i:Nat} (h:a[i]?=some v):(a.map some ++ List.replicate n (none:Option V))[i]?=some (some v):=by grind
theorem wk {n:Nat} (u:ps.length<=n) (g:∀ p ∈ ps,Arg K H p) (l:ps.Pairwise Apart3) (k:∀ (i:Nat) (p:It3),ps[i]?=some p->p.f ≠ .z->pr i=true) :
  Wf K (gOf H pr ((ps.map (·.v)).map some ++ List.replicate (n - (ps.map (·.v)).length) none) ps) H ((ps.map (·.v)).map some ++ List.replicate (n - (ps.map (·.v)).length) none) (fN n (ps.map fun p=>(p.d,p.f))) [] (fun i=>ps[i]?):=by
 refine ⟨?_,fun i=>?_,fun i x e=>?_,fun i x e=>?_,fun _ h=>(by cases h),fun i j a b n w s=>?_,fun _ _ _ _ h=>(by cases h),.nil,fun b o e _=>e,fun i _=>rfl,⟨fun _ h=>(by cases h),fun i x e hz hf=>?_,fun b h=>?_,fun b o e=>⟨o,e⟩,fun i x e _=>(by show (ps[i]?).map (·.v)=_;rw [e];rfl)⟩⟩
 ·unfold fN;simp
 ·rw [vF (by simpa using u),Fp]
 ·exact my (by rw [Fp,e];rfl)
 ·have hm:=Fj e
  refine ⟨(g x hm).rep,fun hf=>?_,fun c t=>.inr ⟨x,hm,t⟩⟩
  obtain ⟨m,a,L',v1,v2,v3⟩:=(g x hm).own hf
  exact ⟨m,a,L',v1,v2,v3,fun hu=>.inr ⟨x,hm,hu,v1⟩⟩
 ·exact (cR l (fun _ _=>Apart3.symm) n w s).1
 ·have hz:pr i=false:=hz
  rw [k i x e hf] at hz;cases hz
 ·obtain ⟨p,hm,hf,r⟩:=h
  obtain ⟨_,a,L',v1,v2,_⟩:=(g p hm).own (by rw [hf];intro q;cases q)
  rw [r] at v1;cases v1
  exact ((g p hm).rep.inH b (by rw [v2];exact E6)).ex
def FinsOk (ρ:Sto) (i:Nat) (ps fs:List (D × Fl)):Prop:=fs.length=ps.length/\∀ (k:Nat) (p:D × Fl),ps[k]?=some p->∃ q,fs[k]?=some q/\(p.2=.z->q=p)/\(p.2 ≠ .z->(ρ[i+k]?).join=some q/\(q.2=p.2\/q.2=.z))
theorem FinsOk.cons {i:Nat} {e d:D × Fl} {ps fs:List (D × Fl)} (h:FinsOk ρ (i+1) ps fs) (hz:e.2=.z->d=e) (g:e.2 ≠ .z->(ρ[i]?).join=some d/\(d.2=e.2\/d.2=.z)):FinsOk ρ i (e :: ps) (d :: fs):=by
 refine ⟨by rw [FC,FC,h.1],fun k p f=>?_⟩
 cases k with
 | zero=>cases f;exact ⟨d,rfl,hz,g⟩
 | succ k =>
  obtain ⟨q,a,b,c⟩:=h.2 k p f
  grind
theorem jF:∀ {i:Nat} {ps:List (D × Fl)} {fs:List (D × Fl)},eF ρ i ps=some fs->FinsOk ρ i ps fs
 | i,[],fs,e=>by cases e;exact ⟨rfl,fun k p h=>by cases h⟩
 | i,p0 :: ps,fs,e=>by
  obtain ⟨d,f⟩:=p0
  have key:f ≠ .z->(match (ρ[i]?).join,eF ρ (i+1) ps with
    | some (d',a),some r=>if a=f\/a=.z then some ((d',a) :: r) else none
    | _,_=>none)=some fs->FinsOk ρ i ((d,f) :: ps) fs:=fun hf e=>by
   cases h:(ρ[i]?).join with
   | none=>rw [h] at e;exact nsE e
   | some p0 =>
    cases h2:eF ρ (i+1) ps with
    | none=>rw [h,h2] at e;exact nsE e
    | some r =>
     rw [h,h2] at e
     obtain ⟨d',a⟩:=p0
     dsimp only at e
     rcases Decidable.em (a=f\/a=.z) with b | b
     ·rw [if_pos b] at e
      cases e
      exact (jF h2).cons (fun z=>absurd z hf) fun _=>⟨h,b⟩
     ·rw [if_neg b] at e;exact nsE e
  cases f with
  | z =>
   obtain ⟨r,h,h'⟩:=E9.mp (show (eF ρ (i+1) ps).map (fun r=>(d,Fl.z) :: r)=some fs from e)
   subst h'
   exact (jF h).cons (fun _=>rfl) fun n=>absurd rfl n
  | u=>exact key (by intro q;cases q) e
  | l=>exact key (by intro q;cases q) e
theorem j3 {P:Nat->α->β->Prop}:∀ (l:List α) (i:Nat),(∀ (k:Nat) a,l[k]?=some a->∃ b,P (i+k) a b)->∃ m:List β,m.length=l.length/\∀ (k:Nat) a,l[k]?=some a->∃ b,m[k]?=some b/\P (i+k) a b
 | [],i,_=>⟨[],rfl,fun k a h=>by simp at h⟩
 | a :: l,i,h=>by
  obtain ⟨b,d⟩:=h 0 a rfl
  obtain ⟨m,h1,h2⟩:=j3 l (i+1) fun k a e=>by
   have:=h (k+1) a (by simpa using e)
   rwa [show i+(k+1)=i+1+k by lia] at this
  refine ⟨b :: m,by simp [h1],fun k c e=>?_⟩
  cases k with
  | zero=>simp at e;subst e;exact ⟨b,rfl,d⟩
  | succ k =>
   obtain ⟨f,e1,g⟩:=h2 k c (by simpa using e)
   exact ⟨f,by simpa using e1,by rwa [show i+(k+1)=i+1+k by lia]⟩
theorem Paired.ofGet:∀ {l:List α} {m:List β},l.length=m.length->(∀ (k:Nat) a b,l[k]?=some a->m[k]?=some b->F a b)->Paired F l m
 | [],[],_,_=>.nil
 | [],_ :: _,h,_=>by cases h
 | _ :: _,[],h,_=>by cases h
 | a :: l,b :: m,h,f=>.cons (f 0 a b rfl rfl) (Paired.ofGet (by simpa using h) fun k a b e1 c=>f (k+1) a b (by simpa using e1) (by simpa using c))
theorem qy {n:Nat} {pr:Nat->Bool} {σ0:St} {ps:List It3} {fs:List (D × Fl)} (E:∀ p ∈ ps,Arg K H p) (J:ps.Pairwise Apart3) (O:∀ (i:Nat) (p:It3),ps[i]?=some p->p.f ≠ .z->pr i=true) (h0:∀ (i:Nat) (p:It3),ps[i]?=some p->σ0[i]?=some (some p.v))
  (w:Wf K (gOf H pr σ0 ps) H' σ ρ T g) (e:eF ρ 0 (ps.map fun p=>(p.d,p.f))=some fs) :
  ∃ qs,BehindX K H H' ps qs/\qs.map (fun q=>(q.d,q.f))=fs/\(∀ (k:Nat) (p q:It3),ps[k]?=some p->qs[k]?=some q->(p.f=.z/\q=p)\/(p.f ≠ .z/\g k=some q)):=by
 obtain ⟨hl,hs⟩:=jF e
 rw [Fh] at hl
 have frame:∀ b o,H b=some o->(∀ p ∈ ps,p.f=.u->p.v ≠ .ref b)->H' b=some o:=fun b o t N=>w.base b o t fun ⟨p,hm,hf,x⟩=>N p hm hf x
 have there:∀ b o,H b=some o->∃ o',H' b=some o':=fun b o t=>w.fx.ob b o t
 have F:∀ (k:Nat) (p:It3),ps[k]?=some p->p.f=.z->Rep K H' p.d p.v p.L:=fun k p l hz=>by
  refine (E p (Fj l)).rep.keep (M:=fun b=>∃ p ∈ ps,p.f=.u/\p.v=.ref b) (fun b o t N=>frame b o t fun p J hf x=>N ⟨p,J,hf,x⟩) (fun b ⟨B,hm,hf,x⟩=>?_) fun b t ⟨B,hm,hf,x⟩=>?_
  ·obtain ⟨_,a,L',v1,v2,_⟩:=(E B hm).own (by rw [hf];intro q;cases q)
   rw [x] at v1;cases v1
   exact (E B hm).rep.inH b (by rw [v2];exact E6)
  ·obtain ⟨j,S,I⟩:=List.mem_iff_getElem.mp hm
   have A:ps[j]?=some B:=by rw [Fd S,I]
   have jk:j ≠ k:=fun z=>by subst z;rw [l] at A;cases A;rw [hz] at hf;cases hf
   exact (cR J (fun _ _=>Apart3.symm) jk A l).1 (by rw [hf];intro q;cases q) b x t
 have one:∀ (k:Nat) (p:It3),ps[k]?=some p->∃ q,(q.d,q.f)=(fs[k]?).getD (p.d,p.f)/\fs[k]?=some (q.d,q.f)/\Back1 K H H' ps p q/\((p.f=.z/\q=p)\/(p.f ≠ .z/\g k=some q)):=fun k p l=>by
  have hm:=Fj l
  obtain ⟨Z,f1,f2,f3⟩:=hs k (p.d,p.f) (by rw [Fp,l];rfl)
  by_cases hz:p.f=.z
  ·have:=f2 hz
   subst this
   refine ⟨p,by rw [f1];rfl,f1,⟨fun _=>rfl,rfl,.inl rfl,⟨F k p l hz,fun h=>absurd hz h⟩,fun c U=>.inr ⟨p,hm,U⟩,fun h=>?_⟩,.inl ⟨hz,rfl⟩⟩
   rw [hz] at h;cases h
  ·obtain ⟨h1,h2⟩:=f3 hz
   rw [Fz] at h1
   obtain ⟨y,Y,y2,Q,y4⟩:=w.slot (d:=Z.1) (f:=Z.2) h1
   have x:y.v=p.v:=by
    have:=w.pro k (O k p l hz)
    rw [y4] at this
    have h0:some (some y.v)=some (some p.v):=this.trans (h0 k p l)
    injection h0 with h0
    injection h0
   have ok:=w.okS k y Y
   refine ⟨y,by rw [f1,y2,Q];rfl,by rw [f1,y2,Q],⟨fun h=>absurd h hz,x,by rw [Q];exact h2,⟨ok.rep,fun hf=>?_⟩,fun c U=>ok.src c U,fun hf b t=>?_⟩,.inr ⟨hz,Y⟩⟩
   ·obtain ⟨m,a,L',v1,v2,v3,_⟩:=ok.own hf
    exact ⟨m,a,L',v1,v2,v3⟩
   ·obtain ⟨_,a,L',v1,v2,_⟩:=(E p hm).own hz
    rw [t] at v1;cases v1
    obtain ⟨o,ho⟩:=((E p hm).rep.inH b (by rw [v2];exact E6)).ex
    exact there b o ho
 obtain ⟨qs,hq,C⟩:=j3 (P:=fun k p q=>fs[k]?=some (q.d,q.f)/\Back1 K H H' ps p q/\((p.f=.z/\q=p)\/(p.f ≠ .z/\g k=some q))) ps 0 fun k p l=>by
  obtain ⟨q,_,a,b,c⟩:=one k p l
  exact ⟨q,by simpa using ⟨a,b,c⟩⟩
 have get:∀ (k:Nat) (p q:It3),ps[k]?=some p->qs[k]?=some q->fs[k]?=some (q.d,q.f)/\Back1 K H H' ps p q/\((p.f=.z/\q=p)\/(p.f ≠ .z/\g k=some q)):=fun k p q s eq=>by
  obtain ⟨q',e1,e2⟩:=C k p s
  rw [eq] at e1
  cases e1
  simpa using e2
 have par:∀ (k:Nat) (q:It3),qs[k]?=some q->∃ p,ps[k]?=some p:=fun k q e=>by
  have X:=(Fi.mp e).1
  exact ⟨ps[k]'(by lia),by simp [show k < ps.length by lia]⟩
 refine ⟨qs,⟨frame,Paired.ofGet hq.symm fun k p q s eq=>(get k p q s eq).2.1,?_⟩,?_,fun k p q s eq=>(get k p q s eq).2.2⟩
 ·rw [List.pairwise_iff_getElem]
  intro k j X S lt
  have l:qs[k]?=some qs[k]:=Fd X
  have I:qs[j]?=some qs[j]:=Fd S
  have side:∀ (k j:Nat) (q r:It3),k ≠ j->qs[k]?=some q->qs[j]?=some r->NoRoot q r:=fun k j q r n eq W=>by
   obtain ⟨p,s⟩:=par k q eq
   obtain ⟨B,G⟩:=par j r W
   obtain ⟨_,b,c⟩:=get k p q s eq
   obtain ⟨_,b',c'⟩:=get j B r G W
   rcases c with ⟨hz,e⟩ | ⟨hz,e⟩
   ·rw [e];exact fun h=>absurd hz h
   ·rcases c' with ⟨R,V⟩ | ⟨R,V⟩
    ·rw [V]
     intro hf a ea
     exact (cR J (fun _ _=>Apart3.symm) n s G).1 hz a (by rw [<- b.v];exact ea)
    ·exact w.ss k j q r n e V
  exact ⟨side k j _ _ (Fs lt) l I,side j k _ _ (Nat.ne_of_gt lt) I l⟩
 ·refine List.ext_getElem? fun k=>?_
  rw [Fp]
  cases eq:qs[k]? with
  | none =>
   have:qs.length<=k:=List.getElem?_eq_none_iff.mp eq
   rw [List.getElem?_eq_none (by lia)]
   rfl
  | some q =>
   obtain ⟨p,s⟩:=par k q eq
   rw [(get k p q s eq).1]
   rfl
theorem sE {n:Nat} {pr:Nat->Bool} {σ0:St} {ps:List It3} {fs:List (D × Fl)} (l:∀ p ∈ ps,Arg K H p) (A:ps.Pairwise Apart3) (j:∀ (i:Nat) (p:It3),ps[i]?=some p->p.f ≠ .z->pr i=true) (h0:∀ (i:Nat) (p:It3),ps[i]?=some p->σ0[i]?=some (some p.v))
  (w:Wf K (gOf H pr σ0 ps) H' σ ρ (x :: T) g) (e:eF ρ 0 (ps.map fun p=>(p.d,p.f))=some fs):∃ qs,Behind K H H' ps qs x/\qs.map (fun q=>(q.d,q.f))=fs:=by
 obtain ⟨qs,B,f,C⟩:=qy (n:=n) l A j h0 w e
 have ok:=w.okT x E6
 refine ⟨qs,⟨B,ok.rep,fun hf=>?_,fun c u=>ok.src c u,fun q F=>?_⟩,f⟩
 ·obtain ⟨m,a,L',v1,v2,v3,_⟩:=ok.own hf
  exact ⟨m,a,L',v1,v2,v3,w.fx.frT x E6 hf a v1⟩
 ·obtain ⟨k,t,E⟩:=List.mem_iff_getElem.mp F
  have eq:qs[k]?=some q:=by rw [Fd t,E]
  obtain ⟨p,r,b⟩:=Paired.exR B.back eq
  rcases C k p q r eq with ⟨hz,e⟩ | ⟨hz,e⟩
  ·rw [e]
   refine ⟨fun hf a y hm=>?_,fun h=>absurd hz h⟩
   have h1:=w.fx.frT x E6 hf a y
   obtain ⟨o,s⟩:=((l p (Fj r)).rep.inH a hm).ex
   have h2:H a=none:=h1
   rw [h2] at s;exact nsE s
  ·exact (w.st k q e x E6).symm
end
end L3
end
section
namespace L3
open PySem L2
def cu:Fl->Fl
 | .u=>.l
 | f=>f
def bc (x:It3):It3:={ x with f:=cu x.f }
def fO:Fl->Fl
 | .l=>.u
 | f=>f
def zO (x:It3):It3:={ x with f:=fO x.f }
def i6 (h:Fl->Fl) (i:Nat) (ρ:Sto):Sto:=match (ρ[i]?).join with
 | some (d,f)=>ρ.set i (some (d,h f))
 | none=>ρ
def ay (h:Fl->Fl) (is:List Nat) (ρ:Sto):Sto:=is.foldl (fun ρ i=>i6 h i ρ) ρ
def us (ρ:Sto) (is:List Nat):List Nat:=is.filter fun i=>match (ρ[i]?).join with
 | some (_,.u)=>true
 | _=>false
theorem lentF_z:cu f=.z ↔ f=.z:=by cases f <;> simp [cu]
theorem unlF_z:fO f=.z ↔ f=.z:=by cases f <;> simp [fO]
theorem tO (f:Fl):cu f ≠ .u:=by cases f <;> simp [cu]
theorem CB (f:Fl):fO f ≠ .l:=by cases f <;> simp [fO]
section
variable {K:FG} {G G0:Gm} {W W0:D->Sto->Prop} {H H':Hp} {σ:St} {ρ ρ':Sto} {T T':List It3} {g:Nat->Option It3} {x y z:It3} {α β:Type}
theorem rF {i j:Nat}:((i6 h i ρ)[j]?).join=if j=i then ((ρ[j]?).join).map (fun p=>(p.1,h p.2)) else (ρ[j]?).join:=by
 unfold i6
 grind
theorem vi {i:Nat}:(i6 h i ρ).length = ρ.length:=by
 unfold i6
 split
 ·rw [List.length_set]
 ·rfl
theorem fY (a:∀ f,h (h f)=h f):∀ {is:List Nat} {ρ:Sto} {j:Nat},((ay h is ρ)[j]?).join=if j ∈ is then ((ρ[j]?).join).map (fun p=>(p.1,h p.2)) else (ρ[j]?).join
 | [],ρ,j=>by simp [ay]
 | i :: is,ρ,j=>by
  have e:ay h (i :: is) ρ=ay h is (i6 h i ρ):=rfl
  rw [e,fY a,rF]
  by_cases q:j=i
  ·subst q
   by_cases m:j ∈ is
   ·rw [if_pos m,if_pos rfl,if_pos E6]
    cases (ρ[j]?).join with
    | none=>rfl
    | some p=>simp [a]
   ·rw [if_neg m,if_pos rfl,if_pos E6]
  ·by_cases m:j ∈ is
   ·rw [if_pos m,if_neg q,if_pos (E7 _ m)]
   ·rw [if_neg m,if_neg q,if_neg (fun z=>(Fc.mp z).elim q m)]
theorem iB:∀ {is:List Nat} {ρ:Sto},(ay h is ρ).length = ρ.length
 | [],ρ=>rfl
 | i :: is,ρ=>by
  have e:ay h (i :: is) ρ=ay h is (i6 h i ρ):=rfl
  rw [e,iB,vi]
def dy (G:Gm) (H:Hp) (g:Nat->Option It3) (is:List Nat):Gm :=
 ⟨H,fun b=>∃ j y,j ∉ is/\g j=some y/\y.f=.u/\y.v=.ref b,G.pr,G.σ0,G.orig,fun c=>G.H0 c=none\/G.src c,fun j=>if j ∈ is then (g j).map (·.v) else G.lv j⟩
structure Fk (x y:It3):Prop where
 d:y.d=x.d
 v:y.v=x.v
 L:y.L=x.L
 z:y.f=.z ↔ x.f=.z
theorem Fk.noRoot (a:Fk x x') (b:Fk y y') (h:NoRoot x y):NoRoot x' y':=fun hf c e=>by
 rw [b.L]
 exact h (fun q=>hf (a.z.mpr q)) c (by rw [<- a.v];exact e)
theorem Fk.apart (a:Fk x x') (b:Fk y y') (h:Apart3 x y):Apart3 x' y':=⟨a.noRoot b h.1,b.noRoot a h.2⟩
theorem Fk.refl (x:It3):Fk x x:=⟨rfl,rfl,rfl,Iff.rfl⟩
theorem kF (x:It3):Fk x (bc x):=⟨rfl,rfl,rfl,lentF_z⟩
theorem EE (x:It3):Fk x (zO x):=⟨rfl,rfl,rfl,unlF_z⟩
theorem pS {o:Option It3} {h:Fl->Fl} (e:o.map (fun x=>(x.d,x.f))=p):(o.map fun x=>{ x with f:=h x.f }).map (fun x:It3=>(x.d,x.f))=p.map fun p=>(p.1,h p.2):=by
 subst e
 cases o <;> rfl
theorem Wf.enter (w:Wf K G H σ ρ T g) (is:List Nat):Wf K (dy G H g is) H σ (ay cu is ρ) (T.map bc) (fun j=>if j ∈ is then (g j).map bc else g j):=by
 have val:∀ j u,(if j ∈ is then (g j).map bc else g j)=some u->∃ l,g j=some l/\Fk l u/\((j ∈ is/\u=bc l)\/(j ∉ is/\u=l)):=fun j u h=>by
  by_cases q:j ∈ is
  ·rw [if_pos q] at h
   obtain ⟨l,e1,x⟩:=E9.mp h
   subst x
   exact ⟨l,e1,kF l,.inl ⟨q,rfl⟩⟩
  ·rw [if_neg q] at h
   exact ⟨u,h,Fk.refl u,.inr ⟨q,rfl⟩⟩
 refine ⟨by rw [iB];exact w.len,fun j=>?_,fun j u h=>?_,fun j u h=>?_,fun u hu=>?_,fun i j a b n C p=>?_,fun j a h b p=>?_,?_,fun b o e _=>e,w.pro,⟨fun u hu hf a A=>?_,fun j u h F hf a A=>?_,fun b p=>?_,w.fx.ob,fun j u h E=>?_⟩⟩
 ·rw [fY (by intro f;cases f <;> rfl)]
  by_cases q:j ∈ is
  ·rw [if_pos q,if_pos q];exact pS (w.sl j)
  ·rw [if_neg q,if_neg q];exact w.sl j
 ·obtain ⟨l,e,k,_⟩:=val j u h
  rw [k.v];exact w.sv j l e
 ·obtain ⟨l,e,k,c⟩:=val j u h
  have ok:=w.okS j l e
  refine ⟨by rw [k.d,k.v,k.L];exact ok.rep,fun hf=>?_,fun c t=>.inr (ok.src c (by rw [<- k.L];exact t))⟩
  obtain ⟨m,a,L',v1,v2,v3,_⟩:=ok.own (fun q=>hf (k.z.mpr q))
  refine ⟨by rw [k.d];exact m,a,L',by rw [k.v];exact v1,by rw [k.L];exact v2,v3,fun hu=>?_⟩
  rcases c with ⟨_,rfl⟩ | ⟨D,rfl⟩
  ·exact absurd hu (tO _)
  ·exact .inr ⟨j,u,D,e,hu,v1⟩
 ·obtain ⟨l,h0,rfl⟩:=Fo.mp hu
  have ok:=w.okT l h0
  refine ⟨ok.rep,fun hf=>?_,fun c t=>.inr (ok.src c t)⟩
  obtain ⟨m,a,L',v1,v2,v3,_⟩:=ok.own (fun q=>hf (lentF_z.mpr q))
  exact ⟨m,a,L',v1,v2,v3,fun hu=>absurd hu (tO _)⟩
 ·obtain ⟨s,e1,B,_⟩:=val i a C
  obtain ⟨r,x,k2,_⟩:=val j b p
  exact B.noRoot k2 (w.ss i j s r n e1 x)
 ·obtain ⟨s,e1,B,_⟩:=val j a h
  obtain ⟨r,h0,rfl⟩:=Fo.mp p
  exact B.apart (kF r) (w.st j s e1 r h0)
 ·rw [List.pairwise_map]
  exact w.tt.imp fun {a b} h=>(kF a).apart (kF b) h
 ·obtain ⟨l,h0,rfl⟩:=Fo.mp hu
  exact w.fx.frT l h0 (fun q=>hf (lentF_z.mpr q)) a A
 ·obtain ⟨l,e,k,_⟩:=val j u h
  exact w.fx.frS j l e F (fun q=>hf (k.z.mpr q)) a (by rw [<- k.v];exact A)
 ·obtain ⟨j,y,_,e,hf,I⟩:=p
  obtain ⟨_,a,L',v1,v2,_⟩:=(w.okS j y e).own (by rw [hf];intro q;cases q)
  rw [I] at v1;cases v1
  exact ((w.okS j y e).rep.inH b (by rw [v2];exact E6)).ex
 ·obtain ⟨l,e,k,c⟩:=val j u h
  show (if j ∈ is then (g j).map (·.v) else G.lv j)=_
  rcases c with ⟨q,rfl⟩ | ⟨q,rfl⟩
  ·rw [if_pos q,e];rfl
  ·rw [if_neg q];exact w.fx.lvS j u e E
theorem Wf.leave (w:Wf K G H σ ρ T g) (F:∀ i ∈ is,∀ y,g i=some y->y.f=.u) (P:T'.Sublist T) (p:Wf K (dy G H g is) H' σ' ρ2 (R ++ T'.map bc) g2) :
  Wf K G H' σ' (ay fO is ρ2) (R ++ T') (fun j=>if j ∈ is then (g2 j).map zO else g2 j):=by
 have val:∀ j u,(if j ∈ is then (g2 j).map zO else g2 j)=some u->∃ r,g2 j=some r/\Fk r u/\((j ∈ is/\u=zO r)\/(j ∉ is/\u=r)):=fun j u h=>by
  by_cases q:j ∈ is
  ·rw [if_pos q] at h
   obtain ⟨r,e1,J⟩:=E9.mp h
   subst J
   exact ⟨r,e1,EE r,.inl ⟨q,rfl⟩⟩
  ·rw [if_neg q] at h
   exact ⟨u,h,Fk.refl u,.inr ⟨q,rfl⟩⟩
 have may:∀ a,H a=none\/(∃ j y,j ∉ is/\g j=some y/\y.f=.u/\y.v=.ref a)->G.H0 a=none\/G.bw a:=fun a h=>by
  rcases h with h | ⟨j,y,_,e,hf,V⟩
  ·exact .inl (w.h0none h)
  ·obtain ⟨_,a',L',v1,_,_,v4⟩:=(w.okS j y e).own (by rw [hf];intro q;cases q)
   rw [V] at v1;cases v1
   exact v4 hf
 have t:∀ c,H c=none\/(G.H0 c=none\/G.src c)->G.H0 c=none\/G.src c:=fun c h=>by
  rcases h with h | h
  ·exact .inl (w.h0none h)
  ·exact h
 have Q:∀ x ∈ T',x ∈ T:=fun x Z=>P.subset Z
 have M:∀ b o,H b=some o->∃ o',H' b=some o':=fun b o s=>by
  by_cases q:∃ j y,j ∉ is/\g j=some y/\y.f=.u/\y.v=.ref b
  ·exact p.fx.bin b q
  ·exact ⟨o,p.base b o s q⟩
 refine ⟨by rw [iB];exact p.len,fun j=>?_,fun j u h=>?_,fun j u h=>?_,fun u hu=>?_,fun i j a b n E s=>?_,fun j a h b s=>?_,?_,fun b o e n=>?_,p.pro,⟨fun u hu=>?_,fun j u h U hf a S=>?_,fun b s=>?_,p.fx.ob,fun j u h B=>?_⟩⟩
 ·rw [fY (by intro f;cases f <;> rfl)]
  by_cases q:j ∈ is
  ·rw [if_pos q,if_pos q];exact pS (p.sl j)
  ·rw [if_neg q,if_neg q];exact p.sl j
 ·obtain ⟨r,e,k,_⟩:=val j u h
  rw [k.v];exact p.sv j r e
 ·obtain ⟨r,e,k,c⟩:=val j u h
  have ok:=p.okS j r e
  refine ⟨by rw [k.d,k.v,k.L];exact ok.rep,fun hf=>?_,fun c I=>t c (ok.src c (by rw [<- k.L];exact I))⟩
  obtain ⟨m,a,L',v1,v2,v3,v4⟩:=ok.own (fun q=>hf (k.z.mpr q))
  refine ⟨by rw [k.d];exact m,a,L',by rw [k.v];exact v1,by rw [k.L];exact v2,v3,fun hu=>?_⟩
  rcases c with ⟨q,rfl⟩ | ⟨nj,rfl⟩
  ·cases A:r.f with
   | u=>exact may a (v4 A)
   | l =>
    have B:=p.fx.lvS j r e A
    have B:(if j ∈ is then (g j).map (·.v) else G.lv j)=some r.v:=B
    rw [if_pos q] at B
    obtain ⟨y,O,ev⟩:=E9.mp B
    have N:=F j q y O
    obtain ⟨_,a',Y,b1,_,_,W⟩:=(w.okS j y O).own (by rw [N];intro q;cases q)
    rw [ev,v1] at b1;cases b1
    exact W N
   | z=>exact absurd (unlF_z.mpr A) hf
  ·exact may a (v4 hu)
 ·rcases Ff.mp hu with hu | hu
  ·have ok:=p.okT u (Fa _ hu)
   refine ⟨ok.rep,fun hf=>?_,fun c I=>t c (ok.src c I)⟩
   obtain ⟨m,a,L',v1,v2,v3,v4⟩:=ok.own hf
   exact ⟨m,a,L',v1,v2,v3,fun h=>may a (v4 h)⟩
  ·have ok:=w.okT u (Q u hu)
   exact ⟨(p.okT (bc u) (Fb _ (Fo.mpr ⟨u,hu,rfl⟩))).rep,ok.own,ok.src⟩
 ·obtain ⟨C,e1,D,_⟩:=val i a E
  obtain ⟨X,J,k2,_⟩:=val j b s
  exact D.noRoot k2 (p.ss i j C X n e1 J)
 ·obtain ⟨C,e1,D,_⟩:=val j a h
  rcases Ff.mp s with s | s
  ·exact D.apart (Fk.refl b) (p.st j C e1 b (Fa _ s))
  ·have:=p.st j C e1 (bc b) (Fb _ (Fo.mpr ⟨b,s,rfl⟩))
   exact D.apart (y:=bc b) ⟨rfl,rfl,rfl,lentF_z.symm⟩ this
 ·have h:=List.pairwise_append.mp p.tt
  refine List.pairwise_append.mpr ⟨h.1,w.tt.sublist P,fun a E b s=>?_⟩
  exact (Fk.refl a).apart (y:=bc b) ⟨rfl,rfl,rfl,lentF_z.symm⟩ (h.2.2 a E (bc b) (Fo.mpr ⟨b,s,rfl⟩))
 ·have s:=w.base b o e n
  refine p.base b o s fun q=>?_
  rcases may b (.inr q) with h | h
  ·rw [e] at h;cases h
  ·exact n h
 ·rcases Ff.mp hu with hu | hu
  ·exact p.fx.frT u (Fa _ hu)
  ·exact w.fx.frT u (Q u hu)
 ·obtain ⟨r,e,k,_⟩:=val j u h
  exact p.fx.frS j r e U (fun q=>hf (k.z.mpr q)) a (by rw [<- k.v];exact S)
 ·obtain ⟨o,ho⟩:=w.fx.bin b s
  exact M b o ho
 ·obtain ⟨r,e,k,c⟩:=val j u h
  rcases c with ⟨q,rfl⟩ | ⟨q,rfl⟩
  ·exact absurd B (CB _)
  ·have:=p.fx.lvS j u e B
   have this:(if j ∈ is then (g j).map (·.v) else G.lv j)=some u.v:=this
   rw [if_neg q] at this
   exact this
theorem BC (w:Wf K G H σ ρ T g) (a:∀ i ∈ is,∀ y,g i=some y->y.f=.u):∀ (H':Hp) (σ':St) (ρ2:Sto) (b:List It3) (g2:Nat->Option It3),Wf K (dy G H g is) H' σ' ρ2 b g2->∃ g3,Wf K G H' σ' (ay fO is ρ2) [] g3 :=
 fun H' σ' ρ2 b g2 c=>⟨_,by simpa using Wf.leave (T':=[]) (R:=[]) w a (List.nil_sublist T) (by simpa using c.sub (List.nil_sublist b))⟩
end
end L3
end
section
namespace L3
open PySem L2
section
variable {K:FG} {G G0:Gm} {W W0:D->Sto->Prop} {H H':Hp} {σ:St} {ρ ρ':Sto} {T T':List It3} {g:Nat->Option It3} {x y z:It3} {α β:Type}
def Walk (K:FG) (J:It) (H1:Hp) (ys:List It3) (ds:List D):Prop:=∃ els:List It3,(∀ x ∈ els,x.f=.z/\Rep K H1 x.d x.v x.L/\∀ c ∈ x.L,cZ ys c) /\
 ∀ (M:Addr->Prop) (H':Hp),(∀ b,M b->MutAt H1 b)->(∀ b o,H1 b=some o->¬ M b->H' b=some o)->(∀ y ∈ ys,∀ b ∈ y.L,¬ M b) ->
  (∀ (i:Nat) (d:D),ds[i]?=some d->J.go i H'/\∀ x a,J.yld i H' x a->∃ w,New K H' a (c7 els) w/\w.d=d/\w.f=.z/\w.v=x)/\J.stop ds.length H'
abbrev IM:=M3 (List R3 × List D)
def EndI (K:FG) (G:Gm) (W:D->Sto->Prop) (σ:St) (T:List It3) (ρ':Sto) (R:It->Hp->Prop):Except D (List R3 × List D)->Prop
 | .ok p=>∀ J H1 a Ts g1 ys,Wf K G H1 σ ρ' (Ts ++ T) g1->Ars σ p.1 a Ts->(∀ y ∈ ys,(∃ i,i ∈ pls p.1/\g1 i=some y)\/y ∈ Ts)->Walk K J H1 ys p.2->R J H1
 | .error e=>W e ρ'
def tI (K:FG) (G0:Gm) (W0:D->Sto->Prop) (m:IM):TI:=fun σ H R=>∃ G W,Le K G W G0 W0/\∃ ρ T g r ρ',Wf K G H σ ρ T g/\m ρ=some (r,ρ')/\EndI K G W σ T ρ' R r
theorem tI.seq (le:Le K G W G0 W0) (w:Wf K G H σ ρ T g) (e:af m k ρ=some (r,ρ')) (he:∀ x,r=.error x->W x ρ') (h:∀ p ρ1,k p ρ1=some (r,ρ')->EndI K G W σ T ρ1 P (.ok p)):tI K G0 W0 m σ H P:=by
 unfold af at e
 cases q:m ρ with
 | none=>rw [q] at e;exact nsE e
 | some p =>
  obtain ⟨o,ρ1⟩:=p
  rw [q] at e
  cases o with
  | error x=>cases e;exact ⟨G,W,le,ρ,T,g,.error x,ρ',w,q,he x rfl⟩
  | ok ra=>exact ⟨G,W,le,ρ,T,g,.ok ra,ρ1,w,q,h ra ρ1 e⟩
def Bnd (K:FG) (pr:Nat->Bool) (tg:TG) (bnd:D->Sto->Option Sto):Prop:=∀ (G:Gm) (H:Hp) (σ:St) (ρ ρ1:Sto) (T:List It3) (g:Nat->Option It3) (w:It3) (Q:St->Hp->Prop),G.pr=pr->w.f=.z->Wf K G H σ ρ (w :: T) g->bnd w.d ρ=some ρ1 ->
 (∀ σ2 g2,Wf K G H σ2 ρ1 T g2->Q σ2 H)->tg w.v σ H Q
def aj (i:Nat) (d:D) (ρ:Sto):Option Sto:=if i < ρ.length then some (ρ.set i (some (d,.z))) else none
set_option tactic.hygienic true in
theorem jh {i:Nat} (b:pr i=false):Bnd K pr (tZ i) (aj i):=fun G H σ ρ ρ1 T g w Q a hz wf e q=>by
 unfold aj at e
 split at e
 ·rename_i hi
  cases e
  exact q _ _ (wf.store (f:=.z) hi (by rw [a];exact b) (.inr rfl) (by intro h;cases h))
 ·exact nsE e
def zM (K:FG) (pr:Nat->Bool) (tg:TGs) (bnd:List D->Sto->Option Sto):Prop:=∀ (G:Gm) (H:Hp) (σ:St) (ρ ρ1:Sto) (T:List It3) (g:Nat->Option It3) (ws:List It3) (Q:St->Hp->Prop),G.pr=pr->(∀ w ∈ ws,w.f=.z)->Wf K G H σ ρ (ws ++ T) g->bnd (ws.map (·.d)) ρ=some ρ1 ->
 (∀ σ2 g2,Wf K G H σ2 ρ1 T g2->Q σ2 H)->tg (ws.map (·.v)) σ H Q
def ik:List D->Sto->Option Sto
 | [],ρ=>some ρ
 | _,_=>none
def bH (b:D->Sto->Option Sto) (bs:List D->Sto->Option Sto):List D->Sto->Option Sto
 | [],_=>none
 | d :: ds,ρ=>match b d ρ with
  | some ρ1=>bs ds ρ1
  | none=>none
theorem qw:zM K pr gNil ik:=fun G H σ ρ ρ1 T g ws Q _ _ wf e q=>by
 cases ws with
 | nil=>cases e;exact ⟨rfl,q _ _ wf⟩
 | cons w ws=>exact nsE e
theorem jL (h1:Bnd K pr tg b) (h2:zM K pr tgs bs):zM K pr (Cu tg tgs) (bH b bs):=fun G H σ ρ ρ1 T g ws Q a hz wf e q=>by
 cases ws with
 | nil=>exact nsE e
 | cons w ws =>
  have e:(match b w.d ρ with | some ρ1=>bs (ws.map (·.d)) ρ1 | none=>none)=some ρ1:=e
  cases c:b w.d ρ with
  | none=>rw [c] at e;exact nsE e
  | some ρ2 =>
   rw [c] at e
   exact ⟨w.v,ws.map (·.v),rfl,h1 G H σ ρ ρ2 (ws ++ T) g w _ a (hz w E6) wf c fun σ2 g2 f=>h2 G H σ2 ρ2 ρ1 T g2 ws Q a (fun x h=>hz x (E7 _ h)) f e q⟩
def ig (n:Nat) (bs:List D->Sto->Option Sto):D->Sto->Option Sto
 | .tup ds,ρ=>if ds.length=n then bs ds ρ else none
 | _,_=>none
theorem Reps.split:∀ {ds:List D} {b:List V} {L:List Addr},Reps (Rep K H) ds b L->∃ ws:List It3,ws.map (·.d)=ds/\ws.map (·.v)=b/\(∀ w ∈ ws,w.f=.z/\Rep K H w.d w.v w.L/\∀ c ∈ w.L,c ∈ L)
 | _,_,_,.nil=>⟨[],rfl,rfl,fun _ h=>(by cases h)⟩
 | _,_,_,.cons (d:=d) (v:=v) (L:=L) r rs=>by
  obtain ⟨ws,h1,h2,h3⟩:=Reps.split rs
  refine ⟨⟨d,v,L,.z⟩ :: ws,by simp [h1],by simp [h2],fun w hw=>?_⟩
  rcases Fc.mp hw with h | h
  ·subst h;exact ⟨rfl,r,fun c a=>Fa _ a⟩
  ·exact ⟨(h3 w h).1,(h3 w h).2.1,fun c a=>Fb _ ((h3 w h).2.2 c a)⟩
theorem Wf.pushAll:∀ {ws:List It3} {T:List It3},Wf K G H σ ρ T g->(∀ w ∈ ws,w.f=.z/\Rep K H w.d w.v w.L/\∀ c ∈ w.L,dg T g c/\(G.H0 c=none\/G.src c))->Wf K G H σ ρ (ws ++ T) g
 | [],T,w,_=>w
 | x :: ws,T,w,h=>by
  have i:=Wf.pushAll (ws:=ws) w fun y a=>h y (E7 _ a)
  obtain ⟨hz,e,b⟩:=h x E6
  refine i.push (Ks:=fun c=>c ∈ x.L) ⟨Same.refl _,e,fun c h=>.inr h,fun q=>absurd hz q⟩ fun c m=>⟨⟨(b c m).1.1,fun y a hf=>?_⟩,(b c m).2⟩
  rcases Ff.mp a with q | q
  ·exact absurd (h y (E7 _ q)).1 hf
  ·exact (b c m).1.2 y q hf
set_option tactic.hygienic true in
theorem ug {n:Nat} (h2:zM K pr tgs bs):Bnd K pr (gTup K n tgs) (ig n bs):=fun G H σ ρ ρ1 T g w Q j hz wf e q=>by
 have r:=(wf.okT w E6).rep
 obtain ⟨d,v,L,f⟩:=w
 cases r with
 | @tup xs a vs _ hs rs =>
  have e:(if xs.length=n then bs xs ρ else none)=some ρ1:=e
  split at e
  ·rename_i m
   obtain ⟨ws,h1,h3,h⟩:=Reps.split rs
   refine ⟨a,vs,rfl,SqT.of hs,?_,?_⟩
   ·rw [<- h3,Fh,<- m,<- h1,Fh]
   ·have o:Wf K G H σ ρ (ws ++ (⟨.tup xs,.ref a,L,f⟩ :: T)) g:=wf.pushAll fun u hu=>⟨(h u hu).1,(h u hu).2.1,fun c k=>⟨wf.kid (y:=⟨.tup xs,.ref a,L,f⟩) (.inr E6) ((h u hu).2.2 c k) fun hf=>absurd hz hf,(wf.okT _ E6).src c ((h u hu).2.2 c k)⟩⟩
    have l:Wf K G H σ ρ (ws ++ T) g:=o.sub ((List.Sublist.refl ws).append (List.sublist_cons_self _ _))
    rw [<- h3]
    exact h2 G H σ ρ ρ1 T g ws Q j (fun u hu=>(h u hu).1) l (by rw [h1];exact e) q
  ·exact nsE e
 | non=>exact nsE e
 | bl b=>exact nsE e
 | int i=>exact nsE e
 | str s=>exact nsE e
 | lst _ _=>exact nsE e
 | lstF _ _=>exact nsE e
 | dK _ _ _=>exact nsE e
 | dT _ _ _=>exact nsE e
 | exc _ _=>exact nsE e
noncomputable def cF (bnd:D->Sto->Option Sto) (b:SM):List D->SM
 | []=>aO .nx
 | d :: ds=>fun ρ=>match bnd d ρ with
  | none=>none
  | some ρ1=>af b (fun f=>match f with
   | .nx=>cF bnd b ds
   | .ct=>cF bnd b ds
   | .br=>aO .nx
   | .rt d f=>aO (.rt d f)) ρ1
noncomputable def cy (im:IM) (bnd:D->Sto->Option Sto) (b:SM):SM:=af im fun p=>fun ρ=>(cF bnd b p.2 (ay cu (us ρ (pls p.1)) ρ)).map fun r=>(r.1,ay fO (us ρ (pls p.1)) r.2)
theorem us_u (w:Wf K G H σ ρ T g):∀ i ∈ us ρ is,∀ y,g i=some y->y.f=.u:=fun i hi y a=>by
 have h:=(FJ.mp hi).2
 have s:=w.sl i
 rw [a] at s
 have s:some (y.d,y.f)=(ρ[i]?).join:=s
 rw [<- s] at h
 cases hf:y.f with
 | u=>rfl
 | l=>rw [hf] at h;cases h
 | z=>rw [hf] at h;cases h
theorem wl {i:Nat} (w:Wf K G H σ ρ T g) (hi:i ∈ is) (a:g i=some y) (hf:y.f=.u):i ∈ us ρ is:=by
 refine FJ.mpr ⟨hi,?_⟩
 have s:=w.sl i
 grind
theorem CN (U:Bnd K G0.pr tg bnd) (h:tS K G0 W0 (cy im bnd b) E σ H):tFor (tI K G0 W0 im) tg (tS K G0 W0 b) E σ H:=by
 refine h.use fun G W le ρ T g r ρ' w e q=>?_
 refine tI.seq le w e q.err fun p ρ1 e1=>?_
 intro J H1 vs Ts g1 ys A a1 ab hw
 have Q:=us_u (is:=pls p.1) A
 have ar:∀ i y,i ∈ pls p.1->g1 i=some y->y.f=.u->i ∈ us ρ1 (pls p.1):=fun i y hi ey hf=>wl A hi ey hf
 generalize us ρ1 (pls p.1)=is at e1 Q ar
 have w2:=A.enter is
 obtain ⟨els,n,walk⟩:=hw
 have hM:∀ b,(∃ j y,j ∉ is/\g1 j=some y/\y.f=.u/\y.v=.ref b)->MutAt H1 b:=fun b ⟨j,y,_,ey,hf,D⟩=>by
  obtain ⟨_,a,L',v1,v2,_⟩:=(A.okS j y ey).own (by rw [hf];intro q;cases q)
  rw [D] at v1;cases v1
  exact (A.okS j y ey).rep.inH b (by rw [v2];exact E6)
 have ax:∀ y ∈ ys,∀ b ∈ y.L,¬ ∃ j y,j ∉ is/\g1 j=some y/\y.f=.u/\y.v=.ref b:=fun y t b U ⟨j,y',nj,C,hf,D⟩=>by
  have Z:y'.f ≠ .z:=by rw [hf];intro q;cases q
  rcases ab y t with ⟨i,hi,ei⟩ | t
  ·by_cases ij:i=j
   ·subst ij
    rw [ei] at C;cases C
    exact nj (ar i y hi ei hf)
   ·exact A.ss j i y' y (Ne.symm ij) C ei Z b D U
  ·exact (A.st j y' C y (Fa _ t)).1 Z b D U
 have Y:∀ y ∈ ys,Itm (Ts ++ T) g1 y:=fun y t=>by
  rcases ab y t with ⟨i,_,ei⟩ | h
  ·exact .inl ⟨i,ei⟩
  ·exact .inr (Fa _ h)
 have kid:∀ x ∈ els,∀ c ∈ x.L,dg ((Ts ++ T).map bc) (fun j=>if j ∈ is then (g1 j).map bc else g1 j) c/\(H1 c=none\/(G.H0 c=none\/G.src c)):=fun x hx c hc=>by
  obtain ⟨nr,sr⟩:=A.kids Y ((n x hx).2.2 c hc)
  refine ⟨⟨fun i z V hf D=>?_,fun z hz hf D=>?_⟩,.inr sr⟩
  ·have V:(if i ∈ is then (g1 i).map bc else g1 i)=some z:=V
   by_cases q:i ∈ is
   ·rw [if_pos q] at V
    obtain ⟨z0,e0,e1⟩:=E9.mp V
    subst e1
    exact nr.1 i z0 e0 (fun q=>hf (lentF_z.mpr q)) D
   ·rw [if_neg q] at V
    exact nr.1 i z V hf D
  ·obtain ⟨z0,h0,rfl⟩:=Fo.mp hz
   exact nr.2 z0 h0 (fun q=>hf (lentF_z.mpr q)) D
 have w3:Wf K (dy G H1 g1 is) H1 σ (ay cu is ρ1) (els ++ (Ts ++ T).map bc) (fun j=>if j ∈ is then (g1 j).map bc else g1 j):=w2.pushAll fun x hx=>⟨(n x hx).1,(n x hx).2.1,fun c hc=>kid x hx c hc⟩
 cases e2:cF bnd b p.2 (ay cu is ρ1) with
 | none=>rw [e2] at e1;exact nsE e1
 | some rr =>
  obtain ⟨r2,ρ3⟩:=rr
  rw [e2] at e1
  have er:r2=r/\ay fO is ρ3 = ρ':=by cases e1;exact ⟨rfl,rfl⟩
  obtain ⟨rfl,eρ⟩:=er
  have leave:∀ {σ':St} {H':Hp} {ρ2:Sto} {g2:Nat->Option It3} {R:List It3},Wf K (dy G H1 g1 is) H' σ' ρ2 (R ++ (els ++ (Ts ++ T).map bc)) g2->∃ g3,Wf K G H' σ' (ay fO is ρ2) (R ++ T) g3:=fun {σ' H' ρ2 g2 R} I =>
   ⟨_,Wf.leave (T:=Ts ++ T) (T':=T) (R:=R) A Q (Fm Ts T) (I.sub ((List.Sublist.refl R).append (by
    rw [List.map_append]
    exact (Fm (Ts.map bc) (T.map bc)).trans (Fm els _))))⟩
  have a0:Le K (dy G H1 g1 is) (fun e ρ2=>W e (ay fO is ρ2)) G W:=⟨rfl,fun H' σ' ρ2 T2 g2 e I he=>by
   obtain ⟨g3,w5⟩:=BC A Q H' σ' ρ2 T2 g2 I
   exact ⟨_,[],g3,w5,he⟩⟩
  have s:Le K (dy G H1 g1 is) (fun e ρ2=>W e (ay fO is ρ2)) G0 W0:=a0.trans le
  refine ⟨fun k m σ' H'=>k<=p.2.length/\m=p.2.length - k/\∃ ρ2 g2,Wf K (dy G H1 g1 is) H' σ' ρ2 (els ++ (Ts ++ T).map bc) g2/\cF bnd b (p.2.drop k) ρ2=some (r2,ρ3),⟨_,Nat.zero_le _,rfl,_,_,w3,e2⟩,?_⟩
  rintro k m σ' H' ⟨hk,rfl,ρ2,g2,I,e4⟩
  obtain ⟨az,P⟩:=walk _ H' hM (fun b o U hn=>I.base b o U hn) ax
  by_cases B:k < p.2.length
  ·obtain ⟨d,hd⟩:∃ d,p.2[k]?=some d:=⟨_,Fd B⟩
   have S:p.2.drop k=d :: p.2.drop (k+1):=by
    rw [List.drop_eq_getElem_cons B]
    rw [Fd B] at hd
    cases hd;rfl
   rw [S] at e4
   obtain ⟨go,yld⟩:=az k d hd
   refine .inr ⟨go,fun σ5 H5=>∃ ρ5 g5,Wf K (dy G H1 g1 is) H5 σ5 ρ5 (els ++ (Ts ++ T).map bc) g5/\cF bnd b (p.2.drop (k+1)) ρ5=some (r2,ρ3),fun σ5 H5 ⟨ρ5,g5,w5,l⟩=>⟨p.2.length - (k+1),by lia,B,rfl,ρ5,g5,w5,l⟩,fun x M t=>?_⟩
   obtain ⟨u,nu,ud,uf,uv⟩:=yld x M t
   have w5:Wf K (dy G H1 g1 is) M σ' ρ2 (u :: (els ++ (Ts ++ T).map bc)) g2:=I.push nu fun c hc=>I.alls (ys:=els) (fun y t=>⟨.inr (Fa _ t),(n y t).1⟩) hc
   have l:(match bnd d ρ2 with
    | none=>none
    | some ρ1=>af b (fun f=>match f with
     | .nx=>cF bnd b (p.2.drop (k+1))
     | .ct=>cF bnd b (p.2.drop (k+1))
     | .br=>aO .nx
     | .rt d f=>aO (.rt d f)) ρ1)=some (r2,ρ3):=e4
   cases e6:bnd d ρ2 with
   | none=>rw [e6] at l;exact nsE l
   | some ρ6 =>
    rw [e6] at l
    dsimp only at l
    rw [<- uv]
    refine U (dy G H1 g1 is) M σ' ρ2 ρ6 _ g2 u _ le.pr uf w5 (by rw [ud];exact e6) fun σ6 g6 w6=>?_
    unfold af at l
    cases O:b ρ6 with
    | none=>rw [O] at l;exact nsE l
    | some pr7 =>
     obtain ⟨o7,ρ7⟩:=pr7
     rw [O] at l
     cases o7 with
     | error er =>
      cases l
      refine tS.mk (r:=.error er) s w6 O ?_
      show W er (ay fO is _)
      rw [eρ];exact q
     | ok f =>
      cases f with
      | nx=>exact tS.mk (r:=.ok .nx) s w6 O fun σ8 H8 X N=>⟨ρ7,X,N,l⟩
      | ct=>exact tS.mk (r:=.ok .ct) s w6 O fun σ8 H8 X N=>⟨ρ7,X,N,l⟩
      | br =>
       cases l
       refine tS.mk (r:=.ok .br) s w6 O fun σ8 H8 X N=>?_
       obtain ⟨g9,F⟩:=leave (R:=[]) N
       rw [eρ] at F
       exact q _ _ _ F
      | rt d' f' =>
       cases l
       refine tS.mk (r:=.ok (.rt d' f')) s w6 O fun x8 σ8 H8 X N x1 x2=>?_
       obtain ⟨g9,F⟩:=leave (R:=[x8]) N
       rw [eρ] at F
       exact q x8 _ _ _ F x1 x2
  ·have ek:k=p.2.length:=by lia
   subst ek
   rw [List.drop_length] at e4
   cases e4
   obtain ⟨g9,F⟩:=leave (R:=[]) I
   rw [eρ] at F
   exact .inl ⟨P,q _ _ _ F⟩
end
end L3
end
section
namespace L3
open PySem L2
def r9 (ix:List (Option Nat)) (ρ:Sto):Sto:=ix.map fun o=>match o with
 | some i=>(ρ[i]?).join
 | none=>none
def uncap:List (Option Nat)->Sto->Sto->Option Sto
 | [],_,ρ=>some ρ
 | none :: ix,τ,ρ=>uncap ix τ.tail ρ
 | some i :: ix,τ,ρ=>match (ρ[i]?).join,τ.head? with
  | some (_,f),some (some (d',f'))=>if f'=f\/f'=.z then uncap ix τ.tail (ρ.set i (some (d',f'))) else none
  | _,_=>none
noncomputable def bN (bnd:D->Sto->Option Sto) (c:M3 Bool) (elt:EM):List D->M3 (List D)
 | []=>aO []
 | d :: ds=>fun τ=>match bnd d τ with
  | none=>none
  | some τ1=>af c (fun b=>if b then af elt (fun r=>af (c6 r) fun p=>af (bN bnd c elt ds) fun l=>aO (p.1 :: l)) else bN bnd c elt ds) τ1
def bz (im:IM) (bnd:D->Sto->Option Sto) (c:M3 Bool) (elt:EM) (ix:List (Option Nat)):EM:=af im fun p=>fun ρ =>
 match bN bnd c elt p.2 (r9 ix (ay cu (us ρ (pls p.1)) ρ)) with
 | some (.ok ds,τ)=>if p.2.length < 16777216 then (uncap ix τ (ay cu (us ρ (pls p.1)) ρ)).map fun ρ2=>(.ok (.val (.lst ds) .u),ay fO (us ρ (pls p.1)) ρ2) else none
 | _=>none
section
variable {K:FG} {G G0:Gm} {W W0:D->Sto->Prop} {H H':Hp} {σ τ:St} {ρ ρ':Sto} {T T':List It3} {g:Nat->Option It3} {x y z:It3} {α β:Type} {ix:List (Option Nat)}
def Inj (ix:List (Option Nat)):Prop:=∀ (j k i:Nat),ix[j]?=some (some i)->ix[k]?=some (some i)->j=k
def BJ (ix:List (Option Nat)) (g:Nat->Option It3) (j:Nat):Option It3:=(ix[j]?).join.bind g
def rf (ix:List (Option Nat)) (n:Nat) (g:Nat->Option It3):List It3:=(List.range n).filterMap fun i=>if some i ∈ ix then none else g i
def zo (G:Gm) (ix:List (Option Nat)) (σ:St):Gm:=⟨G.H0,G.bw,fun j=>((ix[j]?).join).isSome,cap ix σ,fun _=>none,G.src,fun j=>(ix[j]?).join.bind G.lv⟩
theorem di {j:Nat} (h:BJ ix g j=some x):∃ i,ix[j]?=some (some i)/\g i=some x:=by
 unfold BJ at h
 cases e:ix[j]? with
 | none=>rw [e] at h;exact nsE h
 | some o =>
  rw [e] at h
  cases o with
  | none=>exact nsE h
  | some i=>exact ⟨i,rfl,h⟩
set_option tactic.hygienic true in
theorem lc {n:Nat} (h:x ∈ rf ix n g):∃ i,some i ∉ ix/\g i=some x:=by
 obtain ⟨i,_,e⟩:=List.mem_filterMap.mp h
 split at e
 ·exact nsE e
 ·rename_i a;exact ⟨i,a,e⟩
theorem xT {n i:Nat} (hi:i < n) (a:some i ∉ ix) (e:g i=some x):x ∈ rf ix n g:=List.mem_filterMap.mpr ⟨i,List.mem_range.mpr hi,by rw [if_neg a];exact e⟩
theorem Wf.cap (w:Wf K G H σ ρ T g) (p:Inj ix):Wf K (zo G ix σ) H (cap ix σ) (r9 ix ρ) (rf ix ρ.length g ++ T) (BJ ix g):=by
 have ne:∀ {i j:Nat},ix[j]?=some (some i)->∀ k,some k ∉ ix->i ≠ k:=fun e k l q=>l (by rw [<- q];exact Fj e)
 refine ⟨by unfold L2.cap r9;rw [Fh,Fh],fun j=>?_,fun j x h=>?_,fun j x h=>?_,fun x s=>?_,fun j k x y n s t=>?_,fun j x h y t=>?_,?_,w.base,fun _ _=>rfl,⟨fun _ _ _ _ _=>rfl,fun _ _ _ _ _ _ _=>rfl,w.fx.bin,fun b o e=>(by cases e),fun j x h z=>?_⟩⟩
 ·unfold BJ r9
  rw [Fp]
  cases e:ix[j]? with
  | none=>rfl
  | some o =>
   cases o with
   | none=>rfl
   | some i=>exact w.sl i
 ·obtain ⟨i,e1,c⟩:=di h
  unfold L2.cap
  rw [Fp,e1]
  show some ((σ[i]?).getD none)=_
  rw [w.sv i x c];rfl
 ·obtain ⟨i,_,c⟩:=di h
  have ok:=w.okS i x c
  exact ⟨ok.rep,ok.own,ok.src⟩
 ·rcases Ff.mp s with h | h
  ·obtain ⟨i,_,e⟩:=lc h
   have ok:=w.okS i x e
   exact ⟨ok.rep,ok.own,ok.src⟩
  ·have ok:=w.okT x h
   exact ⟨ok.rep,ok.own,ok.src⟩
 ·obtain ⟨i,e1,c⟩:=di s
  obtain ⟨v,u,A⟩:=di t
  exact w.ss i v x y (fun q=>n (p j k i e1 (q ▸ u))) c A
 ·obtain ⟨i,e1,c⟩:=di h
  rcases Ff.mp t with q | q
  ·obtain ⟨k,l,e⟩:=lc q
   have:=ne e1 k l
   exact ⟨w.ss i k x y this c e,w.ss k i y x (Ne.symm this) e c⟩
  ·exact w.st i x c y q
 ·refine List.pairwise_append.mpr ⟨?_,w.tt,fun a r b m=>?_⟩
  ·unfold rf
   rw [List.pairwise_filterMap]
   refine List.pairwise_lt_range.imp fun {i k} lt a r b m=>?_
   have f:(if some i ∈ ix then none else g i)=some a:=r
   have d:(if some k ∈ ix then none else g k)=some b:=m
   split at f
   ·cases f
   ·split at d
    ·cases d
    ·exact ⟨w.ss i k a b (Fs lt) f d,w.ss k i b a (Nat.ne_of_gt lt) d f⟩
  ·obtain ⟨k,l,e⟩:=lc r
   exact w.st k a e b m
 ·obtain ⟨i,e1,c⟩:=di h
  show (ix[j]?).join.bind G.lv=_
  rw [e1]
  exact w.fx.lvS i x c z
theorem Wf.perm (w:Wf K G H σ ρ T g) (p:T.Perm T'):Wf K G H σ ρ T' g :=
 ⟨w.len,w.sl,w.sv,w.okS,fun x a=>w.okT x (p.mem_iff.mpr a),w.ss,fun i x e y b=>w.st i x e y (p.mem_iff.mpr b),(p.pairwise_iff fun h=>Apart3.symm h).mp w.tt,w.base,w.pro,w.fx.sub fun x a=>p.mem_iff.mpr a⟩
set_option tactic.hygienic true in
theorem iy:∀ {ix:List (Option Nat)} {τ ρ ρ2:Sto},uncap ix τ ρ=some ρ2->Inj ix->ρ2.length = ρ.length/\(∀ i,some i ∉ ix->(ρ2[i]?).join=(ρ[i]?).join) /\
  ∀ (j i:Nat),ix[j]?=some (some i)->∃ p q,(ρ[i]?).join=some p/\(τ[j]?).join=some q/\(ρ2[i]?).join=some q/\(q.2=p.2\/q.2=.z)
 | [],τ,ρ,ρ2,e,_=>by cases e;exact ⟨rfl,fun _ _=>rfl,fun j i h=>by simp at h⟩
 | none :: ix,τ,ρ,ρ2,e,hij=>by
  unfold uncap at e
  obtain ⟨h1,h2,h3⟩:=iy e fun j k i a b=>by
   have:=hij (j+1) (k+1) i (by simpa using a) (by simpa using b)
   lia
  refine ⟨h1,fun i hi=>h2 i fun q=>hi (E7 _ q),fun j i h=>?_⟩
  cases j with
  | zero=>simp at h
  | succ j =>
   obtain ⟨p,q,a,b,c⟩:=h3 j i (by simpa using h)
   exact ⟨p,q,a,by rw [List.getElem?_tail] at b;exact b,c⟩
 | some i0 :: ix,τ,ρ,ρ2,e,hij=>by
  unfold uncap at e
  cases e1:(ρ[i0]?).join with
  | none=>rw [e1] at e;exact nsE e
  | some p =>
   obtain ⟨d,f⟩:=p
   cases r:τ.head? with
   | none=>rw [e1,r] at e;exact nsE e
   | some o =>
    cases o with
    | none=>rw [e1,r] at e;exact nsE e
    | some q =>
     obtain ⟨d',u⟩:=q
     rw [e1,r] at e
     dsimp only at e
     split at e
     ·rename_i hf
      have g:=fq e1
      have l:some i0 ∉ ix:=fun m=>by
       obtain ⟨k,t,s⟩:=List.mem_iff_getElem.mp m
       have:=hij 0 (k+1) i0 rfl (by simp [t,s])
       lia
      obtain ⟨h1,h2,h3⟩:=iy e fun j k i a b=>by
       have:=hij (j+1) (k+1) i (by simpa using a) (by simpa using b)
       lia
      refine ⟨by rw [h1,List.length_set],fun i hi=>?_,fun j i h=>?_⟩
      ·rw [h2 i fun q=>hi (E7 _ q),cv g,if_neg (fun q=>hi (by rw [q];exact E6))]
      ·cases j with
       | zero =>
        simp at h
        subst h
        refine ⟨(d,f),(d',u),e1,?_,?_,hf⟩
        ·rw [List.head?_eq_getElem?] at r;rw [r];rfl
        ·rw [h2 i0 l,cv g,if_pos rfl]
       | succ j =>
        have n:ix[j]?=some (some i):=by simpa using h
        obtain ⟨p,q,a,b,c⟩:=h3 j i n
        have ii:i ≠ i0:=fun z=>l (by rw [<- z];exact Fj n)
        rw [cv g,if_neg ii] at a
        exact ⟨p,q,a,by rw [List.getElem?_tail] at b;exact b,c⟩
     ·exact nsE e
theorem Wf.uncap (w:Wf K G H σ ρ T g) (hH:∀ b o,H b=some o->G.H0 b=some o) (S:Inj ix) (e:L3.uncap ix τρ ρ=some ρ2) (hR:∀ x ∈ R,x.f=.z) (l:Wf K (zo G ix σ) H' τ' τρ (R ++ (rf ix ρ.length g ++ T)) gC) :
  ∃ g2,Wf K G H' σ ρ2 (R ++ T) g2:=by
 obtain ⟨I,h2,h3⟩:=iy e S
 let inv (i:Nat):Option Nat:=(List.range ix.length).find? fun j=>decide (ix[j]?=some (some i))
 have A:∀ i j,inv i=some j->ix[j]?=some (some i):=fun i j h=>by simpa using List.find?_some h
 have B:∀ i,inv i=none->some i ∉ ix:=fun i h m=>by
  obtain ⟨k,X,ek⟩:=List.mem_iff_getElem.mp m
  have:=List.find?_eq_none.mp h k (List.mem_range.mpr X)
  simp [X,ek] at this
 let g2 (i:Nat):Option It3:=match inv i with | some j=>gC j | none=>g i
 have val:∀ i u,g2 i=some u->(∃ j p q,ix[j]?=some (some i)/\gC j=some u/\(ρ[i]?).join=some p/\(τρ[j]?).join=some q/\(q.2=p.2\/q.2=.z))\/(some i ∉ ix/\g i=some u):=fun i u h=>by
  grind
 have out:∀ i u,some i ∉ ix->g i=some u->u ∈ rf ix ρ.length g:=fun i u C e=>by
  have s:=w.sl i
  rw [e] at s
  exact xT (fq s.symm) C e
 have back:∀ i j u,ix[j]?=some (some i)->gC j=some u->σ[i]?=some (some u.v):=fun i j u t r=>by
  have a:=l.sv j u r
  have b:=l.pro j (by show ((ix[j]?).join).isSome=true;rw [t];rfl)
  rw [a] at b
  have b:some (some u.v)=(L2.cap ix σ)[j]?:=b
  unfold L2.cap at b
  rw [Fp,t] at b
  have b:some (some u.v)=some ((σ[i]?).getD none):=b
  cases q:σ[i]? with
  | none=>rw [q] at b;cases b
  | some o=>rw [q] at b;cases b;rfl
 have L:∀ i j u p q,ix[j]?=some (some i)->gC j=some u->(ρ[i]?).join=some p->(τρ[j]?).join=some q->(q.2=p.2\/q.2=.z)->∃ y,g i=some y/\y.v=u.v/\(u.f=y.f\/u.f=.z):=fun i j u p q t r N eq hf=>by
  obtain ⟨y,J,P,O,y4⟩:=w.slot (d:=p.1) (f:=p.2) N
  have b:=back i j u t r
  rw [y4] at b
  have s:=l.sl j
  rw [r,eq] at s
  have s:some (u.d,u.f)=some q:=s
  refine ⟨y,J,by injection b with b;injection b,?_⟩
  rw [O,show u.f=q.2 by injection s with s;rw [<- s]]
  exact hf
 refine ⟨g2,⟨by rw [I];exact w.len,fun i=>?_,fun i u h=>?_,fun i u h=>?_,fun u hu=>?_,fun i k a b n ha D=>?_,fun i a h b D=>?_,l.tt.sublist ((List.Sublist.refl R).append (Fm _ T)),l.base,w.pro,⟨fun u hu hf=>?_,fun i u h Z hf a Y=>?_,l.fx.bin,fun b o D=>?_,fun i u h I=>?_⟩⟩⟩
 ·show (match inv i with | some j=>gC j | none=>g i).map _=_
  cases ei:inv i with
  | none=>rw [h2 i (B i ei)];exact w.sl i
  | some j =>
   obtain ⟨p,q,a,b,c,_⟩:=h3 j i (A i j ei)
   rw [c,<- b];exact l.sl j
 ·rcases val i u h with ⟨j,p,q,t,r,_⟩ | ⟨C,e⟩
  ·exact back i j u t r
  ·exact w.sv i u e
 ·rcases val i u h with ⟨j,p,q,t,r,_⟩ | ⟨C,e⟩
  ·have ok:=l.okS j u r
   exact ⟨ok.rep,ok.own,ok.src⟩
  ·have ok:=l.okT u (Fb _ (Fa _ (out i u C e)))
   exact ⟨ok.rep,ok.own,ok.src⟩
 ·have ok:=l.okT u (by
   rcases Ff.mp hu with q | q
   ·exact Fa _ q
   ·exact Fb _ (Fb _ q))
  exact ⟨ok.rep,ok.own,ok.src⟩
 ·rcases val i a ha with ⟨j,p,q,t,r,_⟩ | ⟨C,e⟩
  ·rcases val k b D with ⟨Q,p',q',E,F,_⟩ | ⟨M,V⟩
   ·exact l.ss j Q a b (fun z=>n (by subst z;rw [t] at E;injection E with z;injection z)) r F
   ·exact (l.st j a r b (Fb _ (Fa _ (out k b M V)))).1
  ·rcases val k b D with ⟨Q,p',q',E,F,_⟩ | ⟨M,V⟩
   ·exact (l.st Q b F a (Fb _ (Fa _ (out i a C e)))).2
   ·exact w.ss i k a b n e V
 ·have W:b ∈ R ++ (rf ix ρ.length g ++ T):=by
   rcases Ff.mp D with q | q
   ·exact Fa _ q
   ·exact Fb _ (Fb _ q)
  rcases val i a h with ⟨j,p,q,t,r,_⟩ | ⟨C,e⟩
  ·exact l.st j a r b W
  ·rcases Ff.mp D with q | q
   ·exact ((List.pairwise_append.mp l.tt).2.2 b q a (Fa _ (out i a C e))).symm
   ·exact w.st i a e b q
 ·rcases Ff.mp hu with q | q
  ·exact absurd (hR u q) hf
  ·exact w.fx.frT u q hf
 ·rcases val i u h with ⟨j,p,q,t,r,N,eq,U⟩ | ⟨C,e⟩
  ·obtain ⟨y,J,P,O⟩:=L i j u p q t r N eq U
   refine w.fx.frS i y J Z (fun z=>hf ?_) a (by rw [P];exact Y)
   rcases O with h | h
   ·rw [h];exact z
   ·exact h
  ·exact w.fx.frS i u e Z hf a Y
 ·obtain ⟨o',ho⟩:=w.fx.ob b o D
  have h0:=hH b o' ho
  by_cases q:G.bw b
  ·exact l.fx.bin b q
  ·exact ⟨o',l.base b o' h0 q⟩
 ·rcases val i u h with ⟨j,p,q,t,r,N,eq,U⟩ | ⟨C,e⟩
  ·obtain ⟨y,J,P,O⟩:=L i j u p q t r N eq U
   rw [<- P]
   refine w.fx.lvS i y J ?_
   rcases O with h | h
   ·rw [<- h];exact I
   ·rw [h] at I;cases I
  ·exact w.fx.lvS i u e I
theorem vJ {J:It} {H1:Hp} {ys els:List It3} {ds:List D} {bnd:D->Sto->Option Sto} {c:M3 Bool} {elt:EM} {tg:TG} {tc:TT} {te:TE} {Gc:Gm} {a:List It3} {j:List D} {τρ τρ':Sto} {gC:Nat->Option It3} {Z:List V->Hp->Prop} {M:Addr->Prop}
  (hz:(16777216:Nat)=sizeLine) (G:∀ x ∈ els,x ∈ a/\x.f=.z)
  (P:∀ H',(∀ b o,H1 b=some o->¬ Gc.bw b->H' b=some o)->(∀ (i:Nat) (d:D),ds[i]?=some d->J.go i H'/\∀ x g,J.yld i H' x g->∃ w,New K H' g (c7 els) w/\w.d=d/\w.f=.z/\w.v=x)/\J.stop ds.length H')
  (h0:Gc.H0=H1) (hb:Bnd K Gc.pr tg bnd) (ab:∀ σ H Q,tT K Gc (fun _ _=>False) c σ H Q->tc σ H Q) (X:∀ σ H Q,tE K Gc (fun _ _=>False) elt σ H Q->te σ H Q)
  (hlen:ds.length < 16777216) (w:Wf K Gc H1 τ τρ a gC) (e:bN bnd c elt ds τρ=some (.ok j,τρ'))
  (hZ:∀ (us:List It3) (τ':St) (H':Hp) (g':Nat->Option It3),(∀ x ∈ us,x.f=.z)->us.map (·.d)=j->Wf K Gc H' τ' τρ' (us ++ a) g'->Z (us.map (·.v)) H'):qB J tg tc te Z τ H1:=by
 refine ⟨fun i m S τ' H'=>i<=ds.length/\m=ds.length - i/\S.length<=i/\∃ (us:List It3) (ρ2:Sto) (g2:Nat->Option It3) (r:List D),(∀ x ∈ us,x.f=.z)/\us.map (·.v)=S/\Wf K Gc H' τ' ρ2 (us ++ a) g2/\bN bnd c elt (ds.drop i) ρ2=some (.ok r,τρ')/\us.map (·.d) ++ r=j,⟨_,Nat.zero_le _,rfl,Fq _,[],τρ,gC,j,fun _ h=>(by cases h),rfl,w,e,rfl⟩,?_⟩
 rintro i m S τ1 H2 ⟨hi,rfl,ax,us,ρ2,g2,r,q,A,N,L,n⟩
 refine ⟨by lia,?_⟩
 obtain ⟨Y,t⟩:=P H2 fun b o R hn=>N.base b o (by rw [h0];exact R) hn
 by_cases k:i < ds.length
 ·obtain ⟨d,hd⟩:∃ d,ds[i]?=some d:=⟨_,Fd k⟩
  have B:ds.drop i=d :: ds.drop (i+1):=by
   rw [List.drop_eq_getElem_cons k]
   rw [Fd k] at hd
   cases hd;rfl
  rw [B] at L
  obtain ⟨go,yld⟩:=Y i d hd
  refine .inr ⟨go,fun s τ5 T=>s.length<=i+1/\∃ (us:List It3) (ρ5:Sto) (W:Nat->Option It3) (r:List D),(∀ x ∈ us,x.f=.z)/\us.map (·.v)=s/\Wf K Gc T τ5 ρ5 (us ++ a) W/\bN bnd c elt (ds.drop (i+1)) ρ5=some (.ok r,τρ')/\us.map (·.d) ++ r=j,
   fun s τ5 T ⟨ar,h5⟩=>⟨ds.length - (i+1),by lia,k,rfl,ar,h5⟩,fun x g C=>?_⟩
  obtain ⟨u,nu,ud,uf,uv⟩:=yld x g C
  have w3:Wf K Gc g τ1 ρ2 (u :: (us ++ a)) g2:=N.push nu fun c hc=>N.alls (ys:=els) (fun y C=>⟨.inr (Fb _ (G y C).1),(G y C).2⟩) hc
  have I:(match bnd d ρ2 with
   | none=>none
   | some τ1=>af c (fun b=>if b then af elt (fun r=>af (c6 r) fun p=>af (bN bnd c elt (ds.drop (i+1))) fun l=>aO (p.1 :: l)) else bN bnd c elt (ds.drop (i+1))) τ1)=some (.ok r,τρ'):=L
  cases e4:bnd d ρ2 with
  | none=>rw [e4] at I;exact nsE I
  | some ρ3 =>
   rw [e4] at I
   dsimp only at I
   rw [<- uv]
   refine hb Gc g τ1 ρ2 ρ3 _ g2 u _ rfl uf w3 (by rw [ud];exact e4) fun τ4 g4 w4=>?_
   refine ab _ _ _ (tT.seq (Le.refl K Gc _) w4 I (fun x U=>by cases U) fun b ρ5 O T W w5=>?_)
   cases b with
   | false =>
    simp only [FI,if_false] at O ⊢
    exact ⟨by lia,us,ρ5,W,r,q,A,w5,O,n⟩
   | true =>
    simp only [if_true] at O ⊢
    refine X _ _ _ (tE.seq (Le.refl K Gc _) w5 O (fun x U=>by cases U) fun ra ρ6 e6 v H6 ⟨Ts,g6,w6,a6⟩=>?_)
    obtain ⟨p,ρ7,g7,F,E,w7,f1,f2,_,f3⟩:=a6.take w6 e6
    have w8:=Wf.lowT (Ts:=[F]) w7
    unfold af at E
    cases e8:bN bnd c elt (ds.drop (i+1)) ρ7 with
    | none=>rw [e8] at E;exact nsE E
    | some pr =>
     obtain ⟨o,ρ8⟩:=pr
     rw [e8] at E
     cases o with
     | error x=>cases E
     | ok l =>
      cases E
      refine ⟨by rw [FB];simp;lia,us ++ [cW F],ρ7,g7,l,fun y C=>?_,by rw [List.map_append,A,<- f3];rfl,?_,e8,?_⟩
      ·rcases Ff.mp C with h | h
       ·exact q y h
       ·rw [FH.mp h];rfl
      ·exact w8.perm (by
        show ([cW F] ++ (us ++ a)).Perm (us ++ [cW F] ++ a)
        rw [<- List.append_assoc]
        exact (List.perm_append_comm).append_right a)
      ·rw [List.map_append,List.append_assoc]
       show us.map (·.d) ++ ((cW F).d :: l)=j
       rw [show (cW F).d=p.1 from f1]
       exact n
 ·have ei:i=ds.length:=by lia
  subst ei
  rw [List.drop_length] at L
  cases L
  rw [List.append_nil] at n
  subst A
  exact .inl ⟨t,hZ us τ1 H2 g2 q n N⟩
end
end L3
end
section
namespace L3
open PySem L2
section
variable {K:FG} {G G0:Gm} {W W0:D->Sto->Prop} {H H':Hp} {σ τ:St} {ρ ρ':Sto} {T T':List It3} {g:Nat->Option It3} {x y z:It3} {α β:Type} {ix:List (Option Nat)}
def a9 (ix:List (Option Nat)):Gm:=⟨fun _=>none,fun _=>False,fun j=>((ix[j]?).join).isSome,[],fun _=>none,fun _=>False,fun _=>none⟩
abbrev noX:D->Sto->Prop:=fun _ _=>False
theorem tQ (h:G1.pr=(a9 ix).pr) (le:Le K G W G1 noX):Le K G W (a9 ix) noX:=⟨le.pr.trans h,fun H σ ρ T g e w q=>by
 obtain ⟨_,_,_,_,f⟩:=le.ex H σ ρ T g e w q
 exact f.elim⟩
theorem z4 (h:G1.pr=(a9 ix).pr) (q:tE K G1 noX m σ H Q):tE K (a9 ix) noX m σ H Q:=by
 obtain ⟨G,W,le,r⟩:=q
 exact ⟨G,W,tQ h le,r⟩
theorem zR (h:G1.pr=(a9 ix).pr) (q:tT K G1 noX m σ H Q):tT K (a9 ix) noX m σ H Q:=by
 obtain ⟨G,W,le,r⟩:=q
 exact ⟨G,W,tQ h le,r⟩
def fB:M3 Bool:=aO true
theorem CF (h:tT K G0 W0 fB σ H Q):tYes σ H Q:=by
 refine h.use fun G W le ρ T g o ρ' w e q=>?_
 cases e
 exact q _ _ w
set_option tactic.hygienic true in
theorem jI:∀ {ds a:List D} {τρ τρ':Sto},bN bnd c elt ds τρ=some (.ok a,τρ')->a.length<=ds.length
 | [],a,τρ,τρ',e=>by cases e;exact Fq _
 | d :: ds,a,τρ,τρ',e=>by
  unfold bN at e
  split at e
  ·exact nsE e
  ·rename_i τ1 _
   unfold af at e
   split at e
   ·exact nsE e
   ·cases e
   ·rename_i b τ2 _
    cases b with
    | false =>
     simp only [FI,if_false] at e
     have:=jI e
     simp;lia
    | true =>
     simp only [if_true] at e
     split at e
     ·exact nsE e
     ·cases e
     ·split at e
      ·exact nsE e
      ·cases e
      ·split at e
       ·exact nsE e
       ·cases e
       ·rename_i l τ5 f
        cases e
        have:=jI f
        simp;lia
set_option tactic.hygienic true in
theorem qk (hz:(16777216:Nat)=sizeLine) (B:Inj ix) (V:Bnd K (a9 ix).pr tg bnd) (le:Le K G W G0 W0) (w:Wf K G H σ ρ T g) (e:bz im bnd c elt ix ρ=some (o,ρ')) (he:∀ x,o=.error x->W x ρ') (hZ:∀ (us:List It3) (H':Hp) (g':Nat->Option It3) (Ts:List It3) (ds:List D),o=.ok (.val (.lst ds) .u)->(∀ x ∈ us,x.f=.z)->us.map (·.d)=ds->us.length<=16777216->Wf K G H' σ ρ' (us ++ T) g'->Z (us.map (·.v)) H') :
  tI K G0 W0 im σ H fun J H1=>qB J tg (tT K (a9 ix) noX c) (tE K (a9 ix) noX elt) Z (cap ix σ) H1:=by
 refine tI.seq le w e he fun p ρ1 e1=>?_
 intro J H1 vs Ts g1 ys n a1 I hw
 have O:=us_u (is:=pls p.1) n
 have N:∀ i y,i ∈ pls p.1->g1 i=some y->y.f=.u->i ∈ us ρ1 (pls p.1):=fun i y hi X hf=>wl n hi X hf
 generalize us ρ1 (pls p.1)=is at e1 O N
 have w2:=n.enter is
 obtain ⟨els,k,walk⟩:=hw
 have hM:∀ b,(∃ j y,j ∉ is/\g1 j=some y/\y.f=.u/\y.v=.ref b)->MutAt H1 b:=fun b ⟨j,y,_,X,hf,m⟩=>by
  obtain ⟨_,a,L',v1,v2,_⟩:=(n.okS j y X).own (by rw [hf];intro q;cases q)
  rw [m] at v1;cases v1
  exact (n.okS j y X).rep.inH b (by rw [v2];exact E6)
 have P:∀ y ∈ ys,∀ b ∈ y.L,¬ ∃ j y,j ∉ is/\g1 j=some y/\y.f=.u/\y.v=.ref b:=fun y E b V ⟨j,y',nj,l,hf,m⟩=>by
  have F:y'.f ≠ .z:=by rw [hf];intro q;cases q
  rcases I y E with ⟨i,hi,S⟩ | E
  ·by_cases ij:i=j
   ·subst ij
    rw [S] at l;cases l
    exact nj (N i y hi S hf)
   ·exact n.ss j i y' y (Ne.symm ij) l S F b m V
  ·exact (n.st j y' l y (Fa _ E)).1 F b m V
 have C:∀ y ∈ ys,Itm (Ts ++ T) g1 y:=fun y E=>by
  rcases I y E with ⟨i,_,S⟩ | h
  ·exact .inl ⟨i,S⟩
  ·exact .inr (Fa _ h)
 have kid:∀ x ∈ els,∀ c ∈ x.L,dg ((Ts ++ T).map bc) (fun j=>if j ∈ is then (g1 j).map bc else g1 j) c/\(H1 c=none\/(G.H0 c=none\/G.src c)):=fun x r c hc=>by
  obtain ⟨nr,sr⟩:=n.kids C ((k x r).2.2 c hc)
  refine ⟨⟨fun i z s hf m=>?_,fun z hz hf m=>?_⟩,.inr sr⟩
  ·have s:(if i ∈ is then (g1 i).map bc else g1 i)=some z:=s
   by_cases q:i ∈ is
   ·rw [if_pos q] at s
    obtain ⟨Y,e0,e1⟩:=E9.mp s
    subst e1
    exact nr.1 i Y e0 (fun q=>hf (lentF_z.mpr q)) m
   ·rw [if_neg q] at s
    exact nr.1 i z s hf m
  ·obtain ⟨Y,h0,rfl⟩:=Fo.mp hz
   exact nr.2 Y h0 (fun q=>hf (lentF_z.mpr q)) m
 have w3:Wf K (dy G H1 g1 is) H1 σ (ay cu is ρ1) (els ++ (Ts ++ T).map bc) (fun j=>if j ∈ is then (g1 j).map bc else g1 j):=w2.pushAll fun x r=>⟨(k x r).1,(k x r).2.1,fun c hc=>kid x r c hc⟩
 have w4:=w3.cap B
 cases U:bN bnd c elt p.2 (r9 ix (ay cu is ρ1)) with
 | none=>rw [U] at e1;exact nsE e1
 | some rr =>
  obtain ⟨o2,τρ⟩:=rr
  rw [U] at e1
  cases o2 with
  | error x=>exact nsE e1
  | ok ds =>
   dsimp only at e1
   split at e1
   ·rename_i hlen
    cases e3:uncap ix τρ (ay cu is ρ1) with
    | none=>rw [e3] at e1;exact nsE e1
    | some ρ3 =>
     rw [e3] at e1
     have eo:o=.ok (.val (.lst ds) .u)/\ρ'=ay fO is ρ3:=by cases e1;exact ⟨rfl,rfl⟩
     obtain ⟨eo,eρ⟩:=eo
     refine vJ (K:=K) (Gc:=zo (dy G H1 g1 is) ix σ) (els:=els) (M:=fun _=>False) (ys:=ys) hz (fun x r=>⟨Fb _ (Fa _ r),(k x r).1⟩) (fun H' hk=>walk _ H' hM hk P) rfl V (fun σ' H Q q=>zR (G1:=zo (dy G H1 g1 is) ix σ) rfl q) (fun σ' H Q q=>z4 (G1:=zo (dy G H1 g1 is) ix σ) rfl q) hlen w4 U fun us τ' H' g' t A w5=>?_
     obtain ⟨g6,w6⟩:=Wf.uncap w3 (fun b o h=>h) B e3 t w5
     have w7:=Wf.leave (T:=Ts ++ T) (T':=T) (R:=us) n O (Fm Ts T) (w6.sub ((List.Sublist.refl us).append (by
      rw [List.map_append]
      exact (Fm (Ts.map bc) (T.map bc)).trans (Fm els _))))
     have hle:us.length<=16777216:=by
      have h1:us.length=ds.length:=by rw [<- A,Fh]
      have h2:=jI U
      lia
     rw [<- eρ] at w7
     exact hZ us H' _ Ts ds eo t A hle w7
   ·exact nsE e1
theorem nc {us:List It3} (w:Wf K G H σ ρ (us ++ T) g) (j:∀ x ∈ us,x.f=.z) (b:H p=none) :
  Wf K G (upd H p (.lst (us.map (·.v)))) σ ρ (⟨.lst (us.map (·.d)),.ref p,p :: (us.map (·.L)).flatten,.u⟩ :: T) g:=by
 have hi:∀ y ∈ us,Itm (us ++ T) g y/\y.f=.z:=fun y i=>⟨.inr (Fa _ i),j y i⟩
 have np:p ∉ (us.map (·.L)).flatten:=fun a=>by
  obtain ⟨y,hm,a⟩:=eh a
  obtain ⟨o,k⟩:=((w.itm (hi y hm).1).rep.inH p a).ex
  rw [b] at k;exact nsE k
 have n:New K H (upd H p (.lst (us.map (·.v)))) (c7 us) ⟨.lst (us.map (·.d)),.ref p,p :: (us.map (·.L)).flatten,.u⟩:=⟨bm b,.lst aT ((kA fun y i=>(w.itm (hi y i).1).rep).same (bm b)),fun c a=>by
  rcases Fc.mp a with e | a
  ·rw [e];exact .inl b
  ·exact .inr (eh a),fun _=>⟨rfl,p,_,rfl,rfl,np,b⟩⟩
 exact (w.push n fun c h=>w.alls hi h).sub (List.Sublist.cons_cons _ (Fm us T))
theorem z6 (hz:(16777216:Nat)=sizeLine) (f:Inj ix) (k:Bnd K (a9 ix).pr tg bnd) (h:tE K G0 W0 (bz im bnd c elt ix) σ H Q) :
  B5 (tI K G0 W0 im) tg (tT K (a9 ix) noX c) (tE K (a9 ix) noX elt) ix σ H Q:=by
 refine h.use fun G W le ρ T g o ρ' w e q=>?_
 refine qk hz f k le w e q.err fun us H' g' Ts ds i a b n m=>?_
 subst i b
 intro p j
 have l:=nc m a j
 exact q (.ref p) _ ⟨[_],g',l,Ar.val (⟨.lst (us.map (·.d)),.ref p,p :: (us.map (·.L)).flatten,.u⟩:It3)⟩
set_option tactic.hygienic true in
theorem qH {i:Nat} (hz:(16777216:Nat)=sizeLine) (l:Inj ix) (s:Bnd K (a9 ix).pr tg bnd) (n:G0.pr i=false) (h:tS K G0 W0 (aR i (bz im bnd c elt ix)) E σ H) :
  B8 i (tI K G0 W0 im) tg (tT K (a9 ix) noX c) (tE K (a9 ix) noX elt) ix E σ H:=by
 refine h.use fun G W le ρ T g r ρ' w e q=>?_
 unfold aR af at e
 cases e1:bz im bnd c elt ix ρ with
 | none=>rw [e1] at e;exact nsE e
 | some pr =>
  obtain ⟨o,ρ1⟩:=pr
  rw [e1] at e
  have a:∀ x,o=.error x->W x ρ1:=fun x v=>by subst v;cases e;exact q
  refine qk hz l s le w e1 a fun us H' g' Ts ds m b k z y=>?_
  subst m k
  intro p j
  have t:=nc y b j
  have e:(if i < ρ1.length then some ((.ok .nx,ρ1.set i (some (D.lst (us.map (·.d)),Fl.u))):Except D Flw × Sto) else none)=some (r,ρ'):=e
  split at e
  ·rename_i hi
   cases e
   exact q _ _ _ (t.store (f:=.u) hi (by rw [le.pr];exact n) (.inl rfl) (by intro h;cases h))
  ·exact nsE e
end
end L3
end
section
namespace L3
open PySem L2
section
variable {K:FG} {G G0:Gm} {W W0:D->Sto->Prop} {H H':Hp} {σ:St} {ρ ρ':Sto} {T T':List It3} {g:Nat->Option It3} {x y z:It3} {α β:Type}
theorem Wf.mutate {i:Nat} (w:Wf K G H σ ρ T g) (B:g i=some y) (hu:y.f=.u) (ev:y.v=.ref a) (hm:jb d'=true) (rep:Rep K (upd H a o') d' (.ref a) (a :: C)) (na:a ∉ C) (P:∀ c ∈ C,dg T g c/\(G.H0 c=none\/G.src c)):Wf K G (upd H a o') σ (ρ.set i (some (d',.u))) T (fun j=>if j=i then some ⟨d',.ref a,a :: C,.u⟩ else g j):=by
 have x:y.f ≠ .z:=by rw [hu];intro q;cases q
 have X:=w.okS i y B
 obtain ⟨_,a',L',v1,v2,v3,v4⟩:=X.own x
 rw [ev] at v1;cases v1
 have hi:i < ρ.length:=by
  have:=w.sl i
  rw [B] at this
  exact fq this.symm
 have ma:MutAt H a:=X.rep.inH a (by rw [v2];exact E6)
 have val:∀ j u,(if j=i then some (⟨d',.ref a,a :: C,.u⟩:It3) else g j)=some u->(j=i/\u=⟨d',.ref a,a :: C,.u⟩)\/(j ≠ i/\g j=some u):=fun j u h=>by
  by_cases q:j=i
  ·rw [if_pos q] at h;cases h;exact .inl ⟨q,rfl⟩
  ·rw [if_neg q] at h;exact .inr ⟨q,h⟩
 have keep:∀ u,ItOk K G H u->a ∉ u.L->ItOk K G (upd H a o') u:=fun u ou hn=>ou.keep (M:=fun b=>b=a) (fun b o m n=>by rw [au n];exact m) (fun b e=>by rw [e];exact ma) fun b m e=>hn (by rw [<- e];exact m)
 have Q:∀ j u,j ≠ i->g j=some u->a ∉ u.L:=fun j u n e=>w.ss i j y u (Ne.symm n) B e x a ev
 have S:∀ u ∈ T,a ∉ u.L:=fun u r=>(w.st i y B u r).1 x a ev
 have F:∀ b o,H b=some o->∃ V,upd H a o' b=some V:=fun b o m=>by
  by_cases q:b=a
  ·rw [q,aT];exact ⟨_,rfl⟩
  ·rw [au q];exact ⟨o,m⟩
 refine ⟨by rw [List.length_set];exact w.len,fun j=>?_,fun j u h=>?_,fun j u h=>?_,fun u r=>keep u (w.okT u r) (S u r),fun j k p q n N hq=>?_,fun j u h t I=>?_,w.tt,fun b o e n=>?_,w.pro,⟨w.fx.frT,fun j u h N hf b U=>?_,fun b m=>?_,fun b o m=>?_,fun j u h R=>?_⟩⟩
 ·rw [cv hi]
  by_cases q:j=i
  ·rw [if_pos q,if_pos q];rfl
  ·rw [if_neg q,if_neg q];exact w.sl j
 ·rcases val j u h with ⟨rfl,rfl⟩ | ⟨n,h⟩
  ·rw [w.sv j y B,ev]
  ·exact w.sv j u h
 ·rcases val j u h with ⟨rfl,rfl⟩ | ⟨n,h⟩
  ·refine ⟨rep,fun _=>⟨hm,a,C,rfl,rfl,na,fun _=>v4 hu⟩,fun c d=>?_⟩
   rcases Fc.mp d with e | d
   ·rw [e];exact X.src a (by rw [v2];exact E6)
   ·exact (P c d).2
  ·exact keep u (w.okS j u h) (Q j u n h)
 ·rcases val j p N with ⟨J,ep⟩ | ⟨n1,l⟩
  ·rcases val k q hq with ⟨Z,eq⟩ | ⟨Y,A⟩
   ·exact absurd (J.trans Z.symm) n
   ·rw [ep]
    intro _ c s
    cases s
    exact Q k q Y A
  ·rcases val k q hq with ⟨Z,eq⟩ | ⟨Y,A⟩
   ·rw [eq]
    intro hf c s d
    rcases Fc.mp d with e | d
    ·obtain ⟨_,b,L2,D,O,_⟩:=(w.okS j p l).own hf
     rw [s] at D;cases D
     exact Q j p n1 l (by rw [<- e,O];exact E6)
    ·exact (P c d).1.1 j p l hf s
   ·exact w.ss j k p q n l A
 ·rcases val j u h with ⟨J,E⟩ | ⟨n,h'⟩
  ·rw [E]
   refine ⟨fun _ c s=>by cases s;exact S t I,fun hf c s d=>?_⟩
   rcases Fc.mp d with e | d
   ·obtain ⟨_,b,L2,D,O,_⟩:=(w.okT t I).own hf
    rw [s] at D;cases D
    exact S t I (by rw [<- e,O];exact E6)
   ·exact (P c d).1.2 t I hf s
  ·exact w.st j u h' t I
 ·have:b ≠ a:=fun z=>by
   subst z
   rcases v4 hu with h | h
   ·rw [e] at h;cases h
   ·exact n h
  rw [au this];exact w.base b o e n
 ·rcases val j u h with ⟨J,E⟩ | ⟨n,h'⟩
  ·subst J
   rw [E] at U
   cases U
   exact w.fx.frS j y B N x a ev
  ·exact w.fx.frS j u h' N hf b U
 ·obtain ⟨o,W⟩:=w.fx.bin b m
  exact F b o W
 ·obtain ⟨o2,W⟩:=w.fx.ob b o m
  exact F b o2 W
 ·rcases val j u h with ⟨J,E⟩ | ⟨n,h'⟩
  ·rw [E] at R;cases R
  ·exact w.fx.lvS j u h' R
def MutD (K:FG) (r:V->List V->Hp->VK->Prop) (f:D->List D->Option (D × D)):Prop:=∀ (a:Addr) (d:D) (b:List Addr) (as:List It3) (H:Hp) (Q:VK) (p:D × D),Rep K H d (.ref a) (a :: b)->jb d=true->a ∉ b->(∀ x ∈ as,Rep K H x.d x.v x.L)->(∀ x ∈ as,a ∉ x.L)->f d (as.map (·.d))=some p ->
 (∀ (o':HO) (e:List Addr) (w:It3),Rep K (upd H a o') p.1 (.ref a) (a :: e)->jb p.1=true->(∀ c ∈ e,c ∈ b\/c7 as c)->w.f=.z->w.d=p.2->Rep K (upd H a o') w.d w.v w.L->(∀ c ∈ w.L,c ∈ b\/c7 as c)->Q w.v (upd H a o'))->r (.ref a) (as.map (·.v)) H Q
def chk (ok:D->Bool) (i:Nat):M3 Unit:=fun ρ=>match (ρ[i]?).join with
 | some (d,_)=>if ok d then some (.ok (),ρ) else none
 | none=>none
theorem oM {i:Nat} (e:af (ae i) k ρ=some (r,ρ')):∃ p,(ρ[i]?).join=some p/\k (.pl i) ρ=some (r,ρ'):=by
 unfold af ae at e
 cases q:(ρ[i]?).join with
 | none=>rw [q] at e;exact nsE e
 | some p=>rw [q] at e;exact ⟨p,rfl,e⟩
theorem zj {i:Nat} (e:af (chk ok i) k ρ=some (r,ρ')):(∀ p,(ρ[i]?).join=some p->ok p.1=true)/\k () ρ=some (r,ρ'):=by
 unfold af chk at e
 grind
def vn (ok:D->Bool) (f:D->List D->Option (D × D)) (i:Nat) (ms:M3 (List R3)):EM:=af (ae i) fun _=>af (chk ok i) fun _=>af ms fun rs=>af (gives rs) fun ds=>fun ρ=>match (ρ[i]?).join with
 | some (d,.u)=>match f d ds with
  | some p=>some (.ok (.val p.2 .z),ρ.set i (some (p.1,.u)))
  | none=>none
 | _=>none
theorem Wf.changed {i:Nat} {as us:List It3} (O:MutD K r f) (w:Wf K G H σ ρ (us ++ T) g) (e:(ρ[i]?).join=some (d,.u)) (X:σ[i]?=some (some v)) (D:∀ y ∈ as,Itm (us ++ T) g y/\y.f=.z) (U:f d (as.map (·.d))=some p) (q:∀ v H',Got K G σ (ρ.set i (some (p.1,.u))) T (.val p.2 .z) v H'->Q v H'):r v (as.map (·.v)) H Q:=by
 obtain ⟨y,B,N,J,o⟩:=w.slot e
 rw [X] at o
 injection o with o
 injection o with o
 have n:y.f ≠ .z:=by rw [J];intro q;cases q
 have F:=w.okS i y B
 obtain ⟨m,a,E,v1,v2,v3,_⟩:=F.own n
 have ra:=F.rep
 rw [v1,v2,N] at ra
 rw [N] at m
 rw [o,v1]
 have na:∀ x ∈ as,a ∉ x.L:=fun x t b=>by
  have:=(w.kid (D x t).1 b fun hf=>absurd (D x t).2 hf).1 i y B n
  exact this v1
 refine O a d E as H Q p ra m v3 (fun x t=>(w.itm (D x t).1).rep) na U fun o' P u W S s1 I Z V A=>?_
 have k:∀ c,(c ∈ E\/c7 as c)->dg (us ++ T) g c/\(G.H0 c=none\/G.src c):=fun c b=>by
  rcases b with b | b
  ·have C:c ∈ y.L:=by rw [v2];exact E7 _ b
   exact ⟨w.kid (.inl ⟨i,B⟩) C fun _ l=>by rw [v1] at l;cases l;exact v3 b,F.src c C⟩
  ·exact w.alls D b
 have M:∀ c,(c ∈ E\/c7 as c)->c ≠ a:=fun c b z=>(k c b).1.1 i y B n (by rw [z];exact v1)
 have Y:=w.mutate (o':=o') B J v1 S W (fun h=>M a (s1 a h) rfl) fun c b=>k c (s1 c b)
 have R:=Y.pushAll (ws:=[u]) fun x t=>by
  rw [FH.mp t]
  refine ⟨I,V,fun c b=>?_⟩
  have s:=k c (A c b)
  refine ⟨⟨fun j z l hf hz=>?_,s.1.2⟩,s.2⟩
  have l:(if j=i then some (⟨p.1,.ref a,a :: P,.u⟩:It3) else g j)=some z:=l
  by_cases q:j=i
  ·rw [if_pos q] at l
   cases l
   cases hz
   exact M a (A a b) rfl
  ·rw [if_neg q] at l
   exact s.1.1 j z l hf hz
 rw [<- Z,<- I] at q
 exact q u.v _ ⟨[u],_,R.sub ((List.Sublist.refl [u]).append (Fm us T)),.val u⟩
theorem CV {i:Nat} (m:MutD K r f) (hok:∀ d v L H,ok d=true->Rep K H d v L->tyV K Ty v H) (h:tE K G0 W0 (vn ok f i ms) σ H Q):tBM K Ty r (uE i) (tA K G0 W0 ms) σ H Q:=by
 refine h.use fun G W le ρ T g o ρ' w e q=>?_
 obtain ⟨D,j,e⟩:=oM e
 obtain ⟨s,e⟩:=zj e
 obtain ⟨E,f0⟩:=D
 obtain ⟨y,x,F,J,k⟩:=w.slot j
 refine ⟨y.v,k,hok E y.v y.L H (s _ j) (by rw [<- F];exact (w.okS i y x).rep),?_⟩
 refine tA.seq le w e q.err fun rs ρ1 e1 I H1 Ts g1 C a1=>?_
 obtain ⟨ds,ρ2,g2,a,_,t,_,ys,A,f1,f2⟩:=a1.gives C e1
 subst f1 f2
 cases b:(ρ2[i]?).join with
 | none=>rw [b] at a;exact nsE a
 | some p3 =>
  obtain ⟨B,n⟩:=p3
  rw [b] at a
  cases n with
  | u =>
   dsimp only at a
   cases c:f B (ys.map (·.d)) with
   | none=>rw [c] at a;exact nsE a
   | some p =>
    rw [c] at a
    cases a
    exact t.changed m b k A c q
  | l=>exact nsE a
  | z=>exact nsE a
def kY (t:V->V->V->Hp->(Hp->Prop)->Prop):V->List V->Hp->VK->Prop:=fun x a H Q=>∃ k v,a=[k,v]/\t x k v H fun H'=>Q .non H'
def kQ (f:D->List D->Option (D × D)) (i:Nat) (mk a:EM):SM:=af a fun c=>af (ae i) fun _=>af mk fun b=>af (gives [b,c]) fun ds=>fun ρ=>match (ρ[i]?).join with
 | some (d,.u)=>match f d ds with
  | some p=>some (.ok .nx,ρ.set i (some (p.1,.u)))
  | none=>none
 | _=>none
theorem CI {i:Nat} (n:MutD K (kY t) f) (h:tS K G0 W0 (kQ f i mk mv) E σ H):wB (tE K G0 W0 mv) (gSub (uE i) (tE K G0 W0 mk) t) E σ H:=by
 refine h.use fun G W le ρ T g r ρ' w e q=>?_
 refine tE.seq le w e q.err fun x ρ1 e1 v H1 ⟨Ts,g1,m,a1⟩=>?_
 obtain ⟨O,o,e1⟩:=oM e1
 obtain ⟨d0,f0⟩:=O
 obtain ⟨y,X,Y,Z,k⟩:=m.slot o
 refine ⟨y.v,k,?_⟩
 ·refine tE.seq le m e1 q.err fun N ρ2 D M H2 ⟨Us,g2,A,a2⟩=>?_
  have B:Ars σ [N,x] [M,v] (([] ++ Ts) ++ Us):=.cons a2 (.cons a1 .nil)
  have R:Wf K G H2 σ ρ2 ((([] ++ Ts) ++ Us) ++ T) g2:=A.perm (by
   rw [List.nil_append,<- List.append_assoc]
   exact (List.perm_append_comm).append_right T)
  obtain ⟨ds,ρ3,g3,a,_,S,_,ys,C,f1,f2⟩:=B.gives R D
  subst f1
  cases j:(ρ3[i]?).join with
  | none=>rw [j] at a;exact nsE a
  | some p3 =>
   obtain ⟨L,s⟩:=p3
   rw [j] at a
   cases s with
   | u =>
    dsimp only at a
    cases c:f L (ys.map (·.d)) with
    | none=>rw [c] at a;exact nsE a
    | some p =>
     rw [c] at a
     cases a
     have:=S.changed (Q:=fun _ H'=>E.nx σ H') n j k C c fun J H' ⟨I,V,F,a5⟩=>q _ _ _ (F.sub (Fm I T))
     rw [f2] at this
     obtain ⟨U,J,b,P⟩:=this
     cases b
     exact P
   | l=>exact nsE a
   | z=>exact nsE a
end
end L3
end
section
namespace L3
open PySem L2
structure RE (X:Cx) (G0:Gm) (W0:D->Sto->Prop) (e:Expr) (m:EM):Prop where
 h:PE X e (tE X.K G0 W0 m)
structure RT (X:Cx) (G0:Gm) (W0:D->Sto->Prop) (e:Expr) (m:M3 Bool):Prop where
 h:PT X e (tT X.K G0 W0 m)
structure RW (X:Cx) (G0:Gm) (W0:D->Sto->Prop) (e:Expr) (m:M3 Bool):Prop where
 h:PW X e (tT X.K G0 W0 m)
structure RA (X:Cx) (G0:Gm) (W0:D->Sto->Prop) (es:List Expr) (m:M3 (List R3)):Prop where
 h:PA X es (tA X.K G0 W0 m)
structure RS (X:Cx) (G0:Gm) (W0:D->Sto->Prop) (s:Stmt) (m:SM):Prop where
 h:PS X s (tS X.K G0 W0 m)
structure RSs (X:Cx) (G0:Gm) (W0:D->Sto->Prop) (s:List Stmt) (m:SM):Prop where
 h:PSs X s (tS X.K G0 W0 m)
structure RI (X:Cx) (G0:Gm) (W0:D->Sto->Prop) (tg iter:Expr) (m:IM):Prop where
 h:PI X tg iter (tI X.K G0 W0 m)
structure RG (X:Cx) (pr:Nat->Bool) (target:Expr) (bnd:D->Sto->Option Sto):Prop where
 h:∃ tg,PG X target tg/\Bnd X.K pr tg bnd
structure RGs (X:Cx) (pr:Nat->Bool) (targets:List Expr) (bnd:List D->Sto->Option Sto):Prop where
 h:∃ tg,PGs X targets tg/\zM X.K pr tg bnd
theorem PE.imp (h:PE X e t) (f:∀ σ H Q,t' σ H Q->t σ H Q):PE X e t':=fun pins s σ H Q I q=>h pins s σ H Q I (f σ H Q q)
theorem PT.imp (h:PT X e t) (f:∀ σ H Q,t' σ H Q->t σ H Q):PT X e t':=fun pins s σ H Q I q=>h pins s σ H Q I (f σ H Q q)
theorem PW.imp (h:PW X e t) (f:∀ σ H Q,t' σ H Q->t σ H Q):PW X e t':=fun a pins s σ H Q I q=>h a pins s σ H Q I (f σ H Q q)
theorem PA.imp (h:PA X e t) (f:∀ σ H Q,t' σ H Q->t σ H Q):PA X e t':=fun pos pins s σ H Q I q=>h pos pins s σ H Q I (f σ H Q q)
theorem PS.imp (h:PS X e t) (f:∀ D σ H,t' D σ H->t D σ H):PS X e t':=fun pins s σ H D I q=>h pins s σ H D I (f D σ H q)
theorem PSs.imp (h:PSs X e t) (f:∀ D σ H,t' D σ H->t D σ H):PSs X e t':=fun pins s σ H D I q=>h pins s σ H D I (f D σ H q)
theorem PI.imp (h:PI X tg e t) (f:∀ σ H R,t' σ H R->t σ H R):PI X tg e t':=fun pins s σ H R I q=>h pins s σ H R I (f σ H R q)
theorem szl:(16777216:Nat)=sizeLine:=by rw [sizeLine_eq]
section
variable {X:Cx} {G0:Gm} {W0:D->Sto->Prop} {a b c e:Expr} {es:List Expr} {pos:Pos} {ma mb mc m:EM} {ms:M3 (List R3)} {t u:M3 Bool} {cQ:List Expr}
theorem nF (i:Nat) (c:X.N[i]?=some x) (b:Vis X.env.scope x) (hd:(x == ("__debug__":Str))=false) (a:(x == ("__classdict__":Str))=false):RE X G0 W0 (.Name x pos) (ae i):=⟨PE.imp (k6 c b hd a) fun _ _ _ h=>CS h⟩
theorem Du:RE X G0 W0 (.Constant (.int i) j pos) (mC (.int i)):=⟨PE.imp DQ fun _ _ _ h=>iM (fun _=>.int i) h⟩
theorem re_bl:RE X G0 W0 (.Constant (.bool i) j pos) (mC (.bl i)):=⟨PE.imp pe_bl fun _ _ _ h=>iM (fun _=>.bl i) h⟩
theorem Dr:RE X G0 W0 (.Constant .none j pos) (mC .non):=⟨PE.imp DN fun _ _ _ h=>iM (fun _=>.non) h⟩
theorem pi {i:Int} (a:Gl X x) (hm:X.mg x=some (.int i tk)) (hd:(x == ("__debug__":Str))=false):RE X G0 W0 (.Name x pos) (mC (.int i)):=⟨PE.imp (AV (v:=V.int i) a hm ⟨_,rfl⟩ hd) fun _ _ _ h=>iM (fun _=>.int i) h⟩
theorem jr (d:OpR X (binaryOp op) r) (hd:OpD X.K r f) (c:RE X G0 W0 a ma) (e:RE X G0 W0 b mb):RE X G0 W0 (.BinOp a op b pos) (ah f ma mb):=⟨PE.imp (pe_op d c.h e.h) fun _ _ _ h=>kI hd h⟩
theorem re_un (c:UnR X (unaryOp op) r) (hd:UnD X.K r f) (b:RE X G0 W0 a ma):RE X G0 W0 (.UnaryOp op a pos) (mUn f ma):=⟨PE.imp (pe_un c b.h) fun _ _ _ h=>B3 hd h⟩
theorem nG (d:OpR X (compareOp op) r) (hd:OpD X.K r f) (c:RE X G0 W0 a ma) (e:RE X G0 W0 b mb) (hm:behindInMarks op b=false):RE X G0 W0 (.Compare a [op] [b] pos) (ah f ma mb):=⟨PE.imp (AX d c.h e.h hm) fun _ _ _ h=>kI hd h⟩
theorem re_ix (e:IxR X r) (hd:OpD X.K r f) (c:RE X G0 W0 a ma) (g:RE X G0 W0 b mb) (d:uu b):RE X G0 W0 (.Subscript a b pos) (ah f ma mb):=⟨PE.imp (pe_ix e c.h g.h d) fun _ _ _ h=>kI hd h⟩
theorem Dv (c:RE X G0 W0 a ma) (d:RE X G0 W0 (.BoolOp .And (b :: cQ) pos) mb):RE X G0 W0 (.BoolOp .And (a :: b :: cQ) pos) (iD ma mb):=⟨PE.imp (DS c.h d.h) fun _ _ _ h=>CY h⟩
theorem Dp (h:RE X G0 W0 a ma):RE X G0 W0 (.BoolOp op [a] pos) ma:=⟨DL h.h⟩
theorem Dq (b:RE X G0 W0 a ma):RE X G0 W0 (.UnaryOp .Not a pos) (p4 ma):=⟨PE.imp (DM b.h) fun _ _ _ h=>CU h⟩
theorem re_if (e:RT X G0 W0 c t) (d:RE X G0 W0 a ma) (f:RE X G0 W0 b mb):RE X G0 W0 (.IfExp c a b pos) (mIf t ma mb):=⟨PE.imp (xP e.h d.h f.h) fun _ _ _ h=>tE_if h⟩
def fm (f b:D->D->Option (D × Fl)) (ma mb mc:EM):EM:=af ma fun ra=>af mb fun rb=>af (der ra) fun da=>af (der rb) fun db=>af (aV ((f da db).bind fun p=>asB p.1)) fun k=>if k then af mc fun rc=>af (der rb) fun db=>af (der rc) fun a=>aV ((b db a).map fun p=>R3.val p.1 p.2) else aO (.val (.bl false) .z)
theorem Dg (b:RE X G0 W0 a ma) (he:∀ whole,isTrue a X.env whole=(do let v <- whole;standAt a.pos;holding [v] (truthy v))):RT X G0 W0 a (cB ma):=⟨PT.imp (DC b.h he) fun _ _ _ h=>tT_b h⟩
theorem rt_w (h:RW X G0 W0 a t):RT X G0 W0 a t:=⟨h.h.pt⟩
theorem Af (b:RT X G0 W0 a t):RW X G0 W0 (.BoolOp .And [a] pos) t:=⟨AE b.h⟩
theorem C9 (b:RT X G0 W0 a t):RW X G0 W0 (.BoolOp .Or [a] pos) t:=⟨Dz b.h⟩
theorem Da (c:RT X G0 W0 a t) (d:RW X G0 W0 (.BoolOp .And (b :: cQ) pos) u):RW X G0 W0 (.BoolOp .And (a :: b :: cQ) pos) (lJ t u):=⟨PW.imp (DA c.h d.h) fun _ _ _ h=>CH h⟩
theorem rw_or (c:RT X G0 W0 a t) (d:RW X G0 W0 (.BoolOp .Or (b :: cQ) pos) u):RW X G0 W0 (.BoolOp .Or (a :: b :: cQ) pos) (cOr t u):=⟨PW.imp (pw_or c.h d.h) fun _ _ _ h=>tT_or h⟩
theorem Dh (b:RT X G0 W0 a t):RT X G0 W0 (.UnaryOp .Not a pos) (iH t):=⟨PT.imp (DD b.h) fun _ _ _ h=>CG h⟩
theorem xx:RA X G0 W0 [] ai:=⟨PA.imp nP fun _ _ _ h=>wC h⟩
theorem sV (a:RE X G0 W0 e m) (c:RA X G0 W0 es ms) (b:starEach (e :: es) X.env=(false,eval e X.env) :: starEach es X.env):RA X G0 W0 (e :: es) (ac m ms):=⟨PA.imp (iZ a.h c.h b) fun _ _ _ h=>sI h⟩
theorem Do (h:RA X G0 W0 es ms):RE X G0 W0 (.Tuple es x1 pos) (fQ ms):=⟨PE.imp (DK h.h) fun _ _ _ h=>CT szl h⟩
theorem Ds (h:RA X G0 W0 es ms):RE X G0 W0 (.List es pos) (jt ms):=⟨PE.imp (DO h.h) fun _ _ _ h=>CW szl h⟩
theorem bx {id:String} (g:CallR X (.builtin id) r) (hd:b8 X.K r f) (d:Gl X x) (hm:X.mg x=none) (i:bootBuiltins x=some (.builtin id)) (c:RA X G0 W0 (e :: es) ms) (j:x ≠ "__name__") (a:(x == ("__debug__":Str))=false) (he:starEach (e :: es) X.env=(false,eval e X.env) :: starEach es X.env) (b:(backTo pos (starEach es X.env)).any (·.1)=false):RE X G0 W0 (.Call (.Name x p) (e :: es) [] pos) (al f ms):=⟨PE.imp (iX g d hm i c.h j a he b) fun _ _ _ h=>iN hd h⟩
theorem mI (g:CallR X (.type T) r) (hd:b8 X.K r f) (d:Gl X x) (hm:X.mg x=none) (i:bootBuiltins x=some (.type T)) (c:RA X G0 W0 (e :: es) ms) (j:x ≠ "__name__") (a:(x == ("__debug__":Str))=false) (he:starEach (e :: es) X.env=(false,eval e X.env) :: starEach es X.env) (b:(backTo pos (starEach es X.env)).any (·.1)=false):RE X G0 W0 (.Call (.Name x p) (e :: es) [] pos) (al f ms):=⟨PE.imp (mJ g d hm i c.h j a he b) fun _ _ _ h=>iN hd h⟩
variable {st:Stmt} {sts:List Stmt} {sm sn:SM}
theorem An:RSs X G0 W0 [] dC:=⟨PSs.imp AL fun _ _ _ h=>CM h⟩
theorem xc (h1:RS X G0 W0 st sm) (h2:RSs X G0 W0 sts sn):RSs X G0 W0 (st :: sts) (aA sm sn):=⟨PSs.imp (xG h1.h h2.h) fun _ _ _ h=>CK h⟩
theorem Am (h1:RS X G0 W0 st sm):RSs X G0 W0 [st] sm:=⟨AK h1.h⟩
theorem Ao (he:RE X G0 W0 e m) (a:swapsWith e none pos.line X.env=pure false):RS X G0 W0 (.Expr e pos) (fV m):=⟨PS.imp (AM he.h a) fun _ _ _ h=>zS h⟩
theorem Di (np:Nat) (a:∀ i,np<=i->G0.pr i=false) (he:RE X G0 W0 e m):RS X G0 W0 (.Return (some e) pos) (aU np m):=⟨PS.imp (DF he.h) fun _ _ _ h=>CL a h⟩
theorem rs_if (b:RT X G0 W0 c t) (a:RSs X G0 W0 x sm) (d:RSs X G0 W0 y sn):RS X G0 W0 (.If c x y pos) (sIf t sm sn):=⟨PS.imp (ps_if b.h a.h d.h) fun _ _ _ h=>tS_if h⟩
theorem xi (i:Nat) (d:X.N.Nodup) (hi:X.N[i]?=some x) (b:Loc X.env.scope x) (he:RE X G0 W0 e m) (c:swapsWith e (some (.Name x pos')) pos.line X.env=pure false) (hf:X.fn x=true\/X.env.scope.names.lookup x=some .local) (a:G0.pr i=false):RS X G0 W0 (.Assign [.Name x pos'] e pos) (aR i m):=⟨PS.imp (DE d hi b he.h c hf) fun _ _ _ h=>CJ a h⟩
theorem xg (b:PassesOwn (model X.prog X.w) X.A X.env X.xe) (a:RT X G0 W0 c t) (d:RSs X G0 W0 body sm):RS X G0 W0 (.While c body [] pos) (dR t sm):=⟨PS.imp (xH b a.h d.h) fun _ _ _ h=>wy h⟩
theorem Dj (a:PassesOwn (model X.prog X.w) X.A X.env X.xe) (e:X.calm=true) (hi:RI X G0 W0 tg iter im) (b:RG X G0.pr tg bnd) (c:RSs X G0 W0 body sm) (d:∀ x,foldedSetIterable iter X.env x=pure x):RS X G0 W0 (.For tg iter body [] pos) (cy im bnd sm):=by
 obtain ⟨g,h1,h2⟩:=b.h
 exact ⟨PS.imp (DG a e hi.h h1 c.h d) fun _ _ _ h=>CN h2 h⟩
theorem sR (i:Nat) (c:X.N.Nodup) (hi:X.N[i]?=some x) (b:Loc X.env.scope x) (hf:X.fn x=true\/X.env.scope.names.lookup x=some .local) (a:pr i=false):RG X pr (.Name x pos) (aj i):=⟨_,kC c hi b hf,jh a⟩
theorem Az:RGs X pr [] ik:=⟨_,tu,qw⟩
theorem xr (h1:RG X pr e bn) (h2:RGs X pr es bs) (a:(assignEach (e :: es) X.env).map (·.2)=assign e X.env :: (assignEach es X.env).map (·.2)):RGs X pr (e :: es) (bH bn bs):=by
 obtain ⟨g,a1,a2⟩:=h1.h
 obtain ⟨b,b1,b2⟩:=h2.h
 exact ⟨_,k4 a1 b1 a,jL a2 b2⟩
theorem Dm {k n:Nat} (b:X.calm=true) (h:RGs X pr es bs) (c:(assignEach es X.env).length=n) (a:(assignEach es X.env).findIdx? (·.1)=none):RG X pr (.Tuple es k pos) (ig n bs):=by
 obtain ⟨d,b1,b2⟩:=h.h
 exact ⟨_,xN b b1 c a,ug b2⟩
theorem AB (NY:List Str) (ix:List (Option Nat)) (g:X.calm=true) (hi:RI X G0 W0 tg iter im) (e:∀ s H C fp,PTs (aD X NY scope s H C fp) ifs (tT X.K (a9 ix) noX cm)) (he:∀ s H C fp,RE (aD X NY scope s H C fp) (a9 ix) noX elt em) (d:gk scope X.N X.env.scope NY ix=true) (b:Inj ix) (f:∀ x,foldedSetIterable iter X.env x=pure x) (c:∃ a,Bnd X.K (a9 ix).pr a bnd/\∀ s H C fp,PG (aD X NY scope s H C fp) tg a):RE X G0 W0 (.ListComp elt [⟨tg,iter,ifs,0⟩] scope pos) (bz im bnd cm em ix):=by
 obtain ⟨a,b1,b2⟩:=c
 exact ⟨PE.imp (AW NY ix g hi.h b2 e (fun s H C fp=>(he s H C fp).h) d f) fun _ _ _ h=>z6 szl b b1 h⟩
end
end L3
end
section
namespace L3
open PySem L2
noncomputable def am (F:Fn) (ms:M3 (List R3)):EM:=af ms fun rs=>fun ρ=>match prs (frz (ki rs) ρ) rs with
 | none=>none
 | some ps=>match F ps with
  | none=>none
  | some (.ok p,qs)=>if qs.length=ps.length then some (.ok (.val p.1 p.2),back rs ps qs (frz (ki rs) ρ)) else none
  | some (.error _,_)=>none
def uF (K:FG) (F:Fn):Sp:=fun a H Q _=>∃ (ps:List It3) (p:D × Fl) (fs:List (D × Fl)),a=ps.map (·.v)/\(∀ p ∈ ps,Arg K H p)/\ps.Pairwise Apart3/\F (ps.map fun p=>(p.d,p.f))=some (.ok p,fs) /\
 ∀ x qs H',Behind K H H' ps qs x->x.d=p.1->x.f=p.2->qs.map (fun q=>(q.d,q.f))=fs->Q x.v H'
section
variable {K:FG} {G G0:Gm} {W W0:D->Sto->Prop} {H H':Hp} {σ:St} {ρ ρ':Sto} {T T':List It3} {g:Nat->Option It3} {x y z:It3} {α β:Type}
theorem wA (h:tE K G0 W0 (am F ms) σ H Q):tA K G0 W0 ms σ H fun s H1=>uF K F s H1 Q E0:=by
 refine h.use fun G W le ρ T g o ρ' w e q=>?_
 refine tA.seq le w e q.err fun rs ρ1 e1 s H1 Ts g1 u a1=>?_
 obtain ⟨g2,d,D⟩:=Wf.frz (is:=ki rs) u
 cases k:prs (L3.frz (ki rs) ρ1) rs with
 | none=>rw [k] at e1;exact nsE e1
 | some pfs =>
  rw [k] at e1
  dsimp only at e1
  have hd:∀ i,2<=(pls rs).count i->∀ y,g2 i=some y->y.f=.z:=fun i I y n=>by
   have hm:i ∈ ki rs:=FJ.mpr ⟨List.count_pos_iff.mp (by lia),by simpa using I⟩
   have s1:=d.sl i
   rw [n] at s1
   have E:∃ y0,g1 i=some y0:=by
    cases L:g1 i with
    | some y0=>exact ⟨y0,rfl⟩
    | none =>
     exfalso
     have s2:=u.sl i
     rw [L] at s2
     have:=qc (is:=ki rs) s2.symm
     rw [this] at s1
     cases s1
   obtain ⟨y0,l⟩:=E
   obtain ⟨S,b,_,N⟩:=D i y0 l
   rw [n] at b
   cases b
   exact N hm
  obtain ⟨ps,f1,f2,C,f4,P⟩:=Ars.args a1 d hd k
  have hit:∀ p ∈ ps,Itm (Ts ++ T) g2 p:=fun p j=>by
   rcases f4 p j with ⟨i,_,M⟩ | h
   ·exact .inl ⟨i,M⟩
   ·exact .inr (Fa _ h)
  have c:∀ p ∈ ps,Arg K H1 p:=fun p j=>⟨(d.itm (hit p j)).rep,fun hf=>by
   obtain ⟨m,a,L',v1,v2,v3,_⟩:=(d.itm (hit p j)).own hf
   exact ⟨m,a,L',v1,v2,v3⟩⟩
  subst f2
  cases b:F pfs with
  | none=>rw [b] at e1;exact nsE e1
  | some r =>
   obtain ⟨out,fs⟩:=r
   rw [b] at e1
   cases out with
   | ok p =>
    dsimp only at e1
    split at e1
    ·cases e1
     refine ⟨ps,p,fs,rfl,c,C,by rw [f1];exact b,?_⟩
     intro x qs H' B O A R
     obtain ⟨g',U,J⟩:=Wf.after d k f1 f4 P B.toBehindX
     have t:=J x B.rep B.own B.src B.apx
     rw [R] at t
     rw [<- O,<- A] at q
     exact q x.v H' ⟨[x],g',t,.val x⟩
    ·exact nsE e1
   | error er=>exact nsE e1
def dw (b:Bool) (p:It3):It3:=if b then cW p else p
theorem mU:∀ {mask:List Bool} {ps:List It3},(List.zipWith dw mask ps).map (fun p=>(p.d,p.f))=List.zipWith l4 mask (ps.map fun p=>(p.d,p.f))
 | [],_=>rfl
 | _ :: _,[]=>rfl
 | b :: mask,p :: ps=>by
  simp only [List.zipWith_cons_cons,Fu,mU]
  cases b <;> rfl
theorem vp {i:Nat} (h:(List.zipWith dw mask ps)[i]?=some q):∃ b p,mask[i]?=some b/\ps[i]?=some p/\q=dw b p:=by grind
theorem p5 {i:Nat} (a:ps.length=mask.length) (h:ps[i]?=some p):∃ b,mask[i]?=some b/\(List.zipWith dw mask ps)[i]?=some (dw b p):=by
 have hi:i < mask.length:=by have:=(Fi.mp h).1;omega
 simp_all
theorem du (b:Bool) (p:It3):(dw b p).d=p.d/\(dw b p).v=p.v/\(dw b p).L=p.L/\((dw b p).f=p.f\/(dw b p).f=.z):=by
 cases b
 ·exact ⟨rfl,rfl,rfl,.inl rfl⟩
 ·exact ⟨rfl,rfl,rfl,.inr rfl⟩
theorem NoRoot.low (h:NoRoot a b) (g:a'.v=a.v) (hf:a'.f=a.f\/a'.f=.z) (d:b'.L=b.L):NoRoot a' b':=fun q c e=>by
 rw [d]
 rcases hf with f | f
 ·exact h (by rw [<- f];exact q) c (by rw [<- g];exact e)
 ·exact absurd f q
def prM (mask:List Bool) (i:Nat):Bool:=match mask[i]? with
 | some b=>!b
 | none=>false
theorem Bv {f:α->β} {l:List α} {i:Nat} {a:α} (h:l[i]?=some a):(l.map f)[i]?=some (f a):=by rw [Fp,h];rfl
set_option tactic.hygienic true in
theorem t0 {n:Nat} (hn:mask.length<=n) (h:uF K (fnM mask n m) vs H Q E) :
  ∃ G:Gm,G.pr=prM mask/\tS K G noX m { nx:=fun _ H'=>Q .non H',rt:=Q } (vs.map some ++ List.replicate (n - vs.length) none) H:=by
 obtain ⟨ps,p,fs,rfl,W,hp,l,q⟩:=h
 unfold fnM at l
 rw [Fh] at l
 split at l
 ·rename_i hl
  rw [<- mU] at l
  generalize w:List.zipWith dw mask ps=g at l
  have U:g.length=ps.length:=by rw [<- w,List.length_zipWith];lia
  have S:g.map (·.v)=ps.map (·.v):=by
   refine List.ext_getElem? fun i=>?_
   rw [Fp,Fp]
   cases e:ps[i]? with
   | none=>rw [List.getElem?_eq_none (by have:=List.getElem?_eq_none_iff.mp e;lia)]
   | some u =>
    obtain ⟨b,_,t⟩:=p5 (mask:=mask) hl e
    rw [w] at t
    rw [t]
    show some (dw b u).v=some u.v
    rw [(du b u).2.1]
  have up:∀ (i:Nat) (u:It3),g[i]?=some u->∃ b s,mask[i]?=some b/\ps[i]?=some s/\u=dw b s:=fun i u e=>by rw [<- w] at e;exact vp e
  have A:∀ u ∈ g,∃ b s,s ∈ ps/\u=dw b s:=fun u hu=>by
   obtain ⟨i,hi,e⟩:=List.mem_iff_getElem.mp hu
   obtain ⟨b,s,_,t,y⟩:=up i u (by rw [Fd hi,e])
   exact ⟨b,s,Fj t,y⟩
  have O:∀ u ∈ g,Arg K H u:=fun u hu=>by
   obtain ⟨b,s,h0,rfl⟩:=A u hu
   obtain ⟨e1,t,y,e4⟩:=du b s
   refine ⟨by rw [e1,t,y];exact (W s h0).rep,fun hf=>?_⟩
   rw [e1,t,y]
   refine (W s h0).own fun z=>hf ?_
   rcases e4 with f | f
   ·rw [f];exact z
   ·exact f
  have M:g.Pairwise Apart3:=by
   rw [List.pairwise_iff_getElem]
   intro i j hi hj lt
   obtain ⟨b,s,_,t,y⟩:=up i _ (Fd hi)
   obtain ⟨C,ar,_,ab,T⟩:=up j _ (Fd hj)
   have ap:=cR hp (fun _ _=>Apart3.symm) (Fs lt) t ab
   rw [y,T]
   obtain ⟨_,a2,X,R⟩:=du b s
   obtain ⟨_,b2,b3,b4⟩:=du C ar
   exact ⟨ap.1.low a2 R b3,ap.2.low b2 b4 X⟩
  have I:∀ (i:Nat) (u:It3),g[i]?=some u->u.f ≠ .z->prM mask i=true:=fun i u e hf=>by
   obtain ⟨b,s,e1,t,y⟩:=up i u e
   unfold prM
   rw [e1]
   cases b with
   | false=>rfl
   | true=>rw [y] at hf;exact absurd rfl hf
  have alls:∀ c,c7 g c->c7 ps c:=fun c ⟨u,hu,N⟩=>by
   obtain ⟨b,s,h0,rfl⟩:=A u hu
   exact ⟨s,h0,by rw [<- (du b s).2.2.1];exact N⟩
  have lift:∀ {H':Hp} {qs:List It3},BehindX K H H' g qs->BehindX K H H' ps qs:=fun {H' qs} B=>by
   refine ⟨fun b o hb hn=>B.frame b o hb fun u hu hf S=>?_,Paired.ofGet ?_ fun k u v eu ev=>?_,B.apart⟩
   ·obtain ⟨C,s,h0,rfl⟩:=A u hu
    obtain ⟨_,t,_,e4⟩:=du C s
    rcases e4 with f | f
    ·exact hn s h0 (by rw [<- f];exact hf) (by rw [<- t];exact S)
    ·rw [f] at hf;cases hf
   ·rw [<- U];exact Paired.length B.back
   ·obtain ⟨b,_,t⟩:=p5 (mask:=mask) hl eu
    rw [w] at t
    have b1:=Paired.at B.back t ev
    obtain ⟨a1,a2,X,R⟩:=du b u
    refine ⟨fun hz=>?_,by rw [b1.v,a2],?_,b1.arg,fun c N=>(b1.src c N).imp id (alls c),fun hf C J=>?_⟩
    ·have:dw b u=u:=by
      cases b
      ·rfl
      ·obtain ⟨d,v,L,f⟩:=u
       have hz:f=.z:=hz
       subst hz;rfl
     rw [<- this]
     exact b1.z (by rw [this];exact hz)
    ·rcases b1.f with h | h
     ·rcases R with f | f
      ·exact .inl (h.trans f)
      ·exact .inr (h.trans f)
     ·exact .inr h
    ·rcases R with f | f
     ·exact b1.there (by rw [f];exact hf) C (by rw [a2];exact J)
     ·-- lowered: as it was
      obtain ⟨_,a,L',v1,v2,_⟩:=(W u (Fj eu)).own (by rw [hf];intro q;cases q)
      rw [J] at v1;cases v1
      have Z:=b1.z f
      have r:=b1.arg.rep
      rw [Z,a1,a2,X] at r
      exact (r.inH C (by rw [v2];exact E6)).ex
  have Y:g.length<=n:=by lia
  have wf:=wk (K:=K) (H:=H) (n:=n) (pr:=prM mask) Y O M I
  rw [S] at wf
  refine ⟨gOf H (prM mask) ((ps.map (·.v)).map some ++ List.replicate (n - (ps.map (·.v)).length) none) g,rfl,?_⟩
  have h0:∀ (i:Nat) (u:It3),g[i]?=some u->((ps.map (·.v)).map some ++ List.replicate (n - (ps.map (·.v)).length) none)[i]?=some (some u.v):=fun i u e=>my (by rw [<- S];exact Bv e)
  unfold fn0 at l
  cases e:m (fN n (g.map fun p=>(p.d,p.f))) with
  | none=>rw [e] at l;exact nsE l
  | some rr =>
   obtain ⟨r,ρ2⟩:=rr
   rw [e] at l
   refine tS.mk (r:=r) (Le.refl K _ _) wf e ?_
   have fin:∀ {x:It3} {σ':St} {H':Hp} {g':Nat->Option It3} {d:D} {f:Fl},Wf K (gOf H (prM mask) ((ps.map (·.v)).map some ++ List.replicate (n - (ps.map (·.v)).length) none) g) H' σ' ρ2 [x] g'->x.d=d->x.f=f ->
     ((eF ρ2 0 (g.map fun p=>(p.d,p.f))).map fun fs=>((.ok (d,f),fs):Except D (D × Fl) × List (D × Fl)))=some (.ok p,fs)->Q x.v H':=fun {x σ' H' g' d f} P xd xf l=>by
    cases F:eF ρ2 0 (g.map fun p=>(p.d,p.f)) with
    | none=>rw [F] at l;exact nsE l
    | some fs' =>
     rw [F] at l
     cases l
     obtain ⟨qs,B,Z⟩:=sE (n:=n) O M I h0 P F
     have BX:=lift B.toBehindX
     exact q x qs H' ⟨BX,B.rep,B.own,fun c N=>(B.src c N).imp id (alls c),B.apx⟩ xd xf Z
   cases r with
   | error er=>
    dsimp only at l
    cases F:eF ρ2 0 (g.map fun p=>(p.d,p.f)) with
    | none=>rw [F] at l;exact nsE l
    | some fs'=>rw [F] at l;cases l
   | ok fl =>
    cases fl with
    | nx =>
     intro σ' H' g' P
     obtain ⟨Ts,g2,w2,a2⟩:=P.const .non
     obtain ⟨x,rfl,x1,V,x3⟩:=a2.val_inv
     have:=fin w2 x1 V l
     rw [x3] at this
     exact this
    | br=>exact nsE l
    | ct=>exact nsE l
    | rt d f =>
     intro x σ' H' g' P x1 V
     exact fin P x1 V l
 ·exact nsE l
end
abbrev aH (P:Program) (w:World) (K:FG) (mg:Str->Option Value) (base:Heap) (x:Str) (k:Nat) (ps:List Str) (F:Fn):Prop:=Callee P w K mg base x k ps (uF K F)
theorem aN {k:Nat} {nn:Nat} (D:Def K mg x st) (S:FnScope N ps (ag st)) (c:mask.length=ps.length) (b:N.length=nn) (e:∀ (kV doc pm:Value) (an:Option Addr) (a ct:Value) (us:List Value),us.length=ps.length->bindArgs (PySem.W.fnOf x x (aQ st) (aJ st) (ag st) .none kV doc pm an a ct) ⟨us,[]⟩=pure (ps.zip us)) (body:∀ (a:Value) (A:Around) (outer:List Env) (s:Shared) (H:Hp) (E:XK) (f:Addr) (G:Gm),Room k (A.deeper (PyProof.Rows.envOfC x (ag st) s.heap.objs.size f a))->G.pr=prM mask->RSs (qh CX0 P w K mg base N x (ag st) f a A outer s H E).nox G noX (aJ st) m) :
  aH P w K mg base x (k+1) ps (fnM mask nn m):=by
 refine D.callee e fun f fd F=>F.ok S (fun i H Q E h=>?_) fun a A outer s H i Q E d h=>?_
 ·obtain ⟨j,p,fs,rfl,_,_,g,_⟩:=h
  unfold fnM at g
  grind
 ·have hle:mask.length<=nn:=by
   rw [c,<- b]
   have:=congrArg List.length S.pre
   rw [FD] at this
   omega
  obtain ⟨G,l,n⟩:=t0 hle h
  subst b
  exact ⟨_,(body a A outer s H E f G d l).h,n⟩
theorem AC {k:Nat} (c:aH X.prog X.w X.K X.mg X.base x k ps F) (f:Room k X.A) (d:RA X G0 W0 (e :: es) ms) (g:Gl X x) (a:(x == ("__debug__":Str))=false) (he:starEach (e :: es) X.env=(false,eval e X.env) :: starEach es X.env) (b:(backTo pos (starEach es X.env)).any (·.1)=false):RE X G0 W0 (.Call (.Name x p) (e :: es) [] pos) (am F ms) :=
 ⟨PE.imp (pe_fn c f d.h g a he b) fun _ _ _ h=>wA h⟩
end L3
end
section
namespace L3
open PySem L2
def orD (f g:D->D->Option (D × Fl)) (a b:D):Option (D × Fl):=match f a b with
 | some p=>some p
 | none=>g a b
section
variable {K:FG} {H:Hp} {Ks:Addr->Prop} {d:D} {v:V} {L:List Addr} {X:Cx}
theorem b9 (r:Rep K H d v []):New K H H Ks ⟨d,v,[],.z⟩:=⟨Same.refl _,r,fun _ h=>(by cases h),fun h=>absurd rfl h⟩
theorem pJ (r:Rep K H d v L) (h:∀ c ∈ L,Ks c):New K H H Ks ⟨d,v,L,.z⟩:=⟨Same.refl _,r,fun c a=>.inr (h c a),fun h=>absurd rfl h⟩
theorem rB (a:H p=none) (r:Reps (Rep K H) ds vs L) (h:∀ c ∈ L,Ks c):New K H (upd H p (.lst vs)) Ks ⟨.lst ds,.ref p,p :: L,.u⟩:=by
 have np:p ∉ L:=fun d=>by obtain ⟨o,b⟩:=(r.inH p d).ex;rw [a] at b;exact nsE b
 refine ⟨bm a,.lst aT (r.same (bm a)),fun c d=>?_,fun _=>⟨rfl,p,L,rfl,rfl,np,a⟩⟩
 grind
theorem x4 (a:H p=none) (r:Reps (Rep K H) ds vs L) (h:∀ c ∈ L,Ks c):New K H (upd H p (.tup vs)) Ks ⟨.tup ds,.ref p,L,.z⟩ :=
 ⟨bm a,.tup aT (r.same (bm a)),fun c b=>.inr (h c b),fun h=>absurd rfl h⟩
theorem jz (a:y ∈ ys) (h:Arg K H y) (hm:jb y.d=false):∀ c ∈ y.L,cZ ys c:=fun c b=>⟨y,a,b,fun hf=>by
 have:=(h.own hf).1
 rw [hm] at this;cases this⟩
theorem nZ (g:y ∈ ys) (h:Arg K H y) (d:y.v=.ref a) (b:y.L=a :: L):∀ c ∈ L,cZ ys c:=fun c f=>⟨y,g,by rw [b];exact E7 _ f,fun hf e=>by
 obtain ⟨_,i,L',v1,v2,v3⟩:=h.own hf
 rw [d] at v1;cases v1
 rw [b] at v2;cases v2
 rw [d] at e;cases e
 exact v3 f⟩
theorem OpD.or (h:OpD K r f) (h':OpD K r' g):OpD K (fun x y H Q=>r x y H Q\/r' x y H Q) (orD f g):=fun a b H Q p ra rb e q=>by
 unfold orD at e
 cases c:f a.d b.d with
 | some p'=>rw [c] at e;cases e;exact .inl (h a b H Q _ ra rb c q)
 | none=>rw [c] at e;exact .inr (h' a b H Q p ra rb e q)
def cT (C:Int->Int->Bool) (g:Int->Int->D):D->D->Option (D × Fl)
 | .int i,.int j=>if C i j then some (g i j,.z) else none
 | _,_=>none
set_option tactic.hygienic true in
theorem je (c:∀ i j,Cb i j=true->C i j) (d:∀ i j H,Rep K H (gd i j) (g i j) []):OpD K (rI C g) (cT Cb gd):=fun a b H Q p ra rb e q=>by
 obtain ⟨da,r,m,k⟩:=a
 obtain ⟨db,n,l,h⟩:=b
 obtain ⟨ra,o⟩:=ra
 obtain ⟨rb,ob⟩:=rb
 dsimp only at ra rb
 cases da <;> try (exact nsE e)
 rename_i i
 obtain ⟨rfl,rfl⟩:=ra.view
 cases db <;> try (exact nsE e)
 rename_i j
 obtain ⟨rfl,rfl⟩:=rb.view
 have e:(if Cb i j then some (gd i j,Fl.z) else none)=some p:=e
 split at e
 ·rename_i f
  cases e
  exact ⟨i,j,rfl,rfl,c i j f,q ⟨gd i j,g i j,[],.z⟩ H (b9 (d i j H)) rfl rfl⟩
 ·exact nsE e
theorem rI_of:rI0 g=rI (fun _ _=>True) g:=by
 funext x y H Q
 unfold rI0 rI
 grind
theorem eE (a:∀ i j H,Rep K H (gd i j) (g i j) []):OpD K (rI0 g) (cT (fun _ _=>true) gd):=by
 rw [rI_of]
 exact je (fun _ _ _=>trivial) a
abbrev oJ:Int->Int->Bool:=fun _ _=>true
abbrev addI:=cT oJ fun i j=>.int (i+j)
abbrev eS:=cT oJ fun i j=>.int (i - j)
abbrev dS:=cT (fun i j=>decide ((-(2 ^ 64) < i/\i < 2 ^ 64)\/(-(2 ^ 64) < j/\j < 2 ^ 64))) fun i j=>.int (i * j)
abbrev rD:=cT (fun _ j=>decide (0 < j)) fun i j=>.int (i % j)
abbrev xL:=cT (fun i j=>decide (0<=j/\j<=1000000/\i.natAbs < 2 ^ 64)) fun i j=>.int (i ^ j.toNat)
abbrev ltI:=cT oJ fun i j=>.bl (decide (i < j))
abbrev leI:=cT oJ fun i j=>.bl (decide (i<=j))
abbrev gtI:=cT oJ fun i j=>.bl (decide (j < i))
abbrev geI:=cT oJ fun i j=>.bl (decide (j<=i))
theorem od_addI:OpD K (rI0 fun i j=>.int (i+j)) addI:=eE fun i j _=>.int _
theorem A5:OpD K (rI0 fun i j=>.int (i - j)) eS:=eE fun i j _=>.int _
theorem A8:OpD K (rI CMul fun i j=>.int (i * j)) dS:=je (fun i j h=>by simpa [CMul,wj,zK] using h) fun i j _=>.int _
theorem A9:OpD K (rI (fun _ j=>0 < j) fun i j=>.int (i % j)) rD:=je (fun i j h=>by simpa [CMul,wj,zK] using h) fun i j _=>.int _
theorem A7:OpD K (rI zK fun i j=>.int (i ^ j.toNat)) xL:=je (fun i j h=>by simpa [CMul,wj,zK] using h) fun i j _=>.int _
theorem Cj:OpD K (rI0 fun i j=>.bl (decide (i < j))) ltI:=eE fun i j _=>.bl _
theorem Ck:OpD K (rI0 fun i j=>.bl (decide (i<=j))) leI:=eE fun i j _=>.bl _
theorem Cl:OpD K (rI0 fun i j=>.bl (decide (j < i))) gtI:=eE fun i j _=>.bl _
theorem od_ge:OpD K (rI0 fun i j=>.bl (decide (j<=i))) geI:=eE fun i j _=>.bl _
def rY:D->D->Option (D × Fl)
 | .tup xs,.tup ys=>if xs.length+ys.length<=16777216 then some (.tup (xs ++ ys),.z) else none
 | _,_=>none
def r0:D->D->Option (D × Fl)
 | .lst xs,.lst ys=>if xs.length+ys.length<=16777216 then some (.lst (xs ++ ys),.u) else none
 | _,_=>none
def rZ:D->D->Option (D × Fl)
 | .str xs,.str ys=>if xs.length+ys.length<=16777216 then some (.str (xs ++ ys),.z) else none
 | _,_=>none
theorem Reps.len (r:Reps (Rep K H) ds vs L):ds.length=vs.length:=by
 induction r with
 | nil=>rfl
 | cons _ _ ih=>simp [ih]
theorem Reps.append (r:Reps (Rep K H) ds vs L) (b:Reps (Rep K H) ds' vs' L'):Reps (Rep K H) (ds ++ ds') (vs ++ vs') (L ++ L'):=by
 induction r with
 | nil=>exact b
 | cons a _ ih=>rw [List.append_assoc];exact .cons a ih
theorem Reps.nil_iff (r:Reps (Rep K H) ds vs L):ds=[] ↔ vs=[]:=by cases r <;> simp
def nJ (K:FG):R2:=fun x y H Q=>∃ a b ys,x=.ref a/\y=.ref b/\SqT K H a []/\SqT K H b ys/\Q (.ref b) H
theorem xW:OpR X (binaryOp .Add) (nJ X.K):=by
 intro pins s σ H x y v u Q I z o h
 obtain ⟨a,b,ys,rfl,rfl,t,p,q⟩:=h
 cases z
 cases o
 obtain ⟨its,A,r,_⟩:=I.tuple t
 obtain ⟨k,B,p2,_⟩:=I.tuple p
 have e:its=[]:=A.nil_iff.mpr rfl
 subst e
 obtain ⟨⟨cls,w,data,sl⟩,l,j,n,hd⟩:=id r
 obtain ⟨⟨i,f,data2,g⟩,d,c,m,hd2⟩:=id p2
 simp only at j hd c hd2
 subst j hd c hd2
 exact concat_meets ⟨_,l,rfl⟩ ⟨_,d,rfl⟩ noFill_tuple_add seq_tuple_add PySem.F.slot_tuple_add PySem.F.entry_tuple_add (PySem.F.args_tuple_add_2 _ _)
   (PyProof.Rows.tuple_addW0 a b _ _ n m w f sl g (by simp)) ⟨l,d,⟨.ref b,H,I,rfl,q⟩⟩
set_option tactic.hygienic true in
theorem od_catT:OpD K (fun x y H Q=>tf K x y H Q\/nJ K x y H Q) rY:=fun a b H Q p ra rb e q=>by
 obtain ⟨da,C,l,r⟩:=a
 obtain ⟨db,B,k,t⟩:=b
 obtain ⟨ra,u⟩:=ra
 obtain ⟨rb,ob⟩:=rb
 dsimp only at ra rb
 cases da <;> try (exact nsE e)
 rename_i xs
 obtain ⟨i,s,rfl,g,rs⟩:=ra.view
 cases db <;> try (exact nsE e)
 rename_i ys
 obtain ⟨j,ws,rfl,f,d⟩:=rb.view
 have e:(if xs.length+ys.length<=16777216 then some (D.tup (xs ++ ys),Fl.z) else none)=some p:=e
 split at e
 ·rename_i v
  cases e
  by_cases o:s=[]
  ·have m:=rs.nil_iff.mpr o
   subst o m
   refine .inr ⟨i,j,ws,rfl,rfl,SqT.of g,SqT.of f,?_⟩
   exact q ⟨.tup ys,.ref j,k,.z⟩ H (pJ (.tup f d) (jz (y:=⟨.tup ys,.ref j,k,t⟩) (E7 _ (FH.mpr rfl)) ⟨.tup f d,ob⟩ rfl)) rfl rfl
  ·refine .inl ⟨i,j,s,ws,rfl,rfl,SqT.of g,SqT.of f,o,by rw [<- rs.len,<- d.len,<- szl];exact v,fun hw=>?_,fun hw p A=>?_⟩
   ·have n:=d.nil_iff.mpr hw
    subst n
    refine q ⟨.tup (xs ++ []),.ref i,l,.z⟩ H (pJ (by rw [List.append_nil];exact .tup g rs) (jz (y:=⟨.tup xs,.ref i,l,r⟩) E6 ⟨.tup g rs,u⟩ rfl)) rfl rfl
   ·refine q ⟨.tup (xs ++ ys),.ref p,l ++ k,.z⟩ _ (x4 A (rs.append d) fun c w=>?_) rfl rfl
    rcases Ff.mp w with h | h
    ·exact jz (y:=⟨.tup xs,.ref i,l,r⟩) E6 ⟨.tup g rs,u⟩ rfl c h
    ·exact jz (y:=⟨.tup ys,.ref j,k,t⟩) (E7 _ (FH.mpr rfl)) ⟨.tup f d,ob⟩ rfl c h
 ·exact nsE e
set_option tactic.hygienic true in
theorem Bd:OpD K AD r0:=fun a b H Q p ra rb e q=>by
 obtain ⟨da,x,i,r⟩:=a
 obtain ⟨db,w,g,o⟩:=b
 obtain ⟨ra,s⟩:=ra
 obtain ⟨rb,ob⟩:=rb
 dsimp only at ra rb
 cases da <;> try (exact nsE e)
 rename_i xs
 obtain ⟨j,n,i,rfl,rfl,l,rs⟩:=ra.view
 cases db <;> try (exact nsE e)
 rename_i ys
 obtain ⟨f,ws,g,rfl,rfl,k,d⟩:=rb.view
 have e:(if xs.length+ys.length<=16777216 then some (D.lst (xs ++ ys),Fl.u) else none)=some p:=e
 split at e
 ·rename_i v
  cases e
  refine ⟨j,f,n,ws,rfl,rfl,l,k,by rw [<- rs.len,<- d.len,<- szl];exact v,fun p m=>?_⟩
  refine q ⟨.lst (xs ++ ys),.ref p,p :: (i ++ g),.u⟩ _ (rB m (rs.append d) fun c t=>?_) rfl rfl
  rcases Ff.mp t with h | h
  ·exact nZ (y:=⟨.lst xs,.ref j,j :: i,r⟩) E6 ⟨.lst l rs,s⟩ rfl rfl c h
  ·exact nZ (y:=⟨.lst ys,.ref f,f :: g,o⟩) (E7 _ (FH.mpr rfl)) ⟨.lst k d,ob⟩ rfl rfl c h
 ·exact nsE e
set_option tactic.hygienic true in
theorem od_catS:OpD K (fun x y H Q=>∃ i j,x=.str i/\y=.str j/\i.length+j.length<=sizeLine/\Q (.str (i ++ j)) H) rZ:=fun a b H Q p ra rb e q=>by
 obtain ⟨da,m,h,f⟩:=a
 obtain ⟨db,k,g,d⟩:=b
 obtain ⟨ra,l⟩:=ra
 obtain ⟨rb,ob⟩:=rb
 dsimp only at ra rb
 cases da <;> try (exact nsE e)
 rename_i i
 obtain ⟨rfl,rfl⟩:=ra.view
 cases db <;> try (exact nsE e)
 rename_i j
 obtain ⟨rfl,rfl⟩:=rb.view
 have e:(if i.length+j.length<=16777216 then some (D.str (i ++ j),Fl.z) else none)=some p:=e
 split at e
 ·rename_i c
  cases e
  exact ⟨i,j,rfl,rfl,by rw [<- szl];exact c,q ⟨.str (i ++ j),.str (i ++ j),[],.z⟩ H (b9 (.str _)) rfl rfl⟩
 ·exact nsE e
abbrev bM:=orD addI (orD rZ (orD rY r0))
theorem Ef:OpD K (fun x y H Q=>rI0 (fun i j=>.int (i+j)) x y H Q\/((∃ i j,x=.str i/\y=.str j/\i.length+j.length<=sizeLine/\Q (.str (i ++ j)) H)\/((tf K x y H Q\/nJ K x y H Q)\/AD x y H Q))) bM:=od_addI.or (od_catS.or (od_catT.or Bd))
theorem A2:OpR X (binaryOp .Add) (fun x y H Q=>rI0 (fun i j=>.int (i+j)) x y H Q\/((∃ i j,x=.str i/\y=.str j/\i.length+j.length<=sizeLine/\Q (.str (i ++ j)) H)\/((tf X.K x y H Q\/nJ X.K x y H Q)\/AD x y H Q))):=op_add.or (op_add_str.or ((op_catT.or xW).or Ea))
def eqS:D->D->Option Bool
 | .non,.non=>some true | .non,.int _=>some false | .int _,.non=>some false | .non,.bl _=>some false | .bl _,.non=>some false | .non,.str _=>some false | .str _,.non=>some false
 | .int i,.int j=>some (decide (i=j)) | .bl i,.bl j=>some (decide (i=j)) | .str i,.str j=>some (decide (i=j))
 | .int _,.str _=>some false | .str _,.int _=>some false | .bl _,.str _=>some false | .str _,.bl _=>some false
 | _,_=>none
theorem y8 (ra:Rep K H a u L) (rb:Rep K H b v L') (e:eqS a b=some k):C7 u v=true/\k=decide (u=v):=by
 cases a <;> cases b <;> first | exact nsE e | (obtain ⟨rfl,rfl⟩:=ra.view;obtain ⟨rfl,rfl⟩:=rb.view;cases e;exact ⟨rfl,by simp⟩)
def j5:D->Bool
 | .non=>true
 | _=>false
def isN:D->D->Option (D × Fl)
 | a,.non=>some (.bl (j5 a),.z)
 | _,_=>none
def Bf:D->D->Option (D × Fl)
 | a,.non=>some (.bl (!j5 a),.z)
 | _,_=>none
theorem Rep.non_iff (ra:Rep K H a u L):j5 a=decide (u=.non):=by cases ra <;> simp [j5]
theorem Ee:OpD K (fun x y H Q=>y=.non/\Q (.bl (decide (x=.non))) H) isN:=fun a b H Q p ra rb e q=>by
 obtain ⟨db,d,c,f⟩:=b
 obtain ⟨rb,ob⟩:=rb
 dsimp only at rb
 cases db <;> try (exact nsE e)
 obtain ⟨rfl,rfl⟩:=rb.view
 unfold isN at e
 cases e
 refine ⟨rfl,?_⟩
 rw [<- ra.rep.non_iff]
 exact q ⟨_,_,[],.z⟩ H (b9 (.bl _)) rfl rfl
def lX:D->Option (D × Fl)
 | .int i=>some (.int (-i),.z)
 | _=>none
theorem CD:UnD K (rU fun i=>.int (-i)) lX:=fun a H Q p ra e q=>by
 obtain ⟨da,c,f,d⟩:=a
 obtain ⟨ra,b⟩:=ra
 dsimp only at ra
 cases da <;> try (exact nsE e)
 obtain ⟨rfl,rfl⟩:=ra.view
 cases e
 exact ⟨_,rfl,q ⟨_,_,[],.z⟩ H (b9 (.int _)) rfl rfl⟩
theorem Reps.at:∀ {ds:List D} {b:List V} {L:List Addr} {i:Nat} {d:D},Reps (Rep K H) ds b L->ds[i]?=some d->∃ v L',b[i]?=some v/\Rep K H d v L'/\∀ c ∈ L',c ∈ L
 | _,_,_,_,_,.nil,h=>by simp at h
 | _,_,_,0,_,.cons r _,h=>by simp at h;subst h;exact ⟨_,_,rfl,r,fun c a=>Fa _ a⟩
 | _,_,_,i+1,_,.cons _ t,h=>by
  obtain ⟨v,L',h1,h2,h3⟩:=Reps.at (i:=i) t (by simpa using h)
  exact ⟨v,L',by simpa using h1,h2,fun c a=>Fb _ (h3 c a)⟩
theorem Reps.atI {i:Int} (r:Reps (Rep K H) ds vs L) (h:atI ds i=some d):∃ v L',atI vs i=some v/\Rep K H d v L'/\∀ c ∈ L',c ∈ L:=by
 unfold L2.atI at h ⊢
 rw [<- r.len]
 cases e:ixN ds.length i with
 | none=>rw [e] at h;exact nsE h
 | some j=>rw [e] at h;exact r.at h
def ixD:D->D->Option (D × Fl)
 | .lst xs,.int i=>(atI xs i).map fun d=>(d,.z)
 | .fls xs,.int i=>(atI xs i).map fun d=>(d,.z)
 | .tup xs,.int i=>(atI xs i).map fun d=>(d,.z)
 | _,_=>none
set_option tactic.hygienic true in
theorem od_ix:OpD K (fun x y H Q=>xE K x y H Q\/xD K x y H Q) ixD:=fun a b H Q p ra rb e q=>by
 obtain ⟨da,t,l,m⟩:=a
 obtain ⟨db,n,r,o⟩:=b
 obtain ⟨rb,ob⟩:=rb
 have g:=ra
 obtain ⟨ra,s⟩:=ra
 dsimp only at ra rb
 cases da <;> try (exact nsE e)
 all_goals (cases db <;> try (exact nsE e))
 all_goals (rename_i xs i;obtain ⟨rfl,rfl⟩:=rb.view)
 ·obtain ⟨f,k,rfl,h,rs⟩:=ra.view
  obtain ⟨d,h1,h2⟩:=E9.mp (show (atI xs i).map (fun d=>(d,Fl.z))=some p from e)
  subst h2
  obtain ⟨v,L',g1,g2,g3⟩:=rs.atI h1
  refine .inr ⟨f,k,i,v,rfl,rfl,SqT.of h,g1,q ⟨d,v,L',.z⟩ H (pJ g2 fun c j=>?_) rfl rfl⟩
  exact jz (y:=⟨.tup xs,.ref f,l,m⟩) E6 g rfl c (g3 c j)
 ·obtain ⟨f,k,l,rfl,rfl,h,rs⟩:=ra.view
  obtain ⟨d,h1,h2⟩:=E9.mp (show (atI xs i).map (fun d=>(d,Fl.z))=some p from e)
  subst h2
  obtain ⟨v,L',g1,g2,g3⟩:=rs.atI h1
  refine .inl ⟨f,k,i,v,rfl,rfl,SqL.of h,g1,q ⟨d,v,L',.z⟩ H (pJ g2 fun c j=>?_) rfl rfl⟩
  exact nZ (y:=⟨.lst xs,.ref f,f :: l,m⟩) E6 g rfl rfl c (g3 c j)
 ·obtain ⟨f,k,rfl,h,rs⟩:=ra.view
  obtain ⟨d,h1,h2⟩:=E9.mp (show (atI xs i).map (fun d=>(d,Fl.z))=some p from e)
  subst h2
  obtain ⟨v,L',g1,g2,g3⟩:=rs.atI h1
  refine .inl ⟨f,k,i,v,rfl,rfl,h.sq,g1,q ⟨d,v,L',.z⟩ H (pJ g2 fun c j=>?_) rfl rfl⟩
  exact jz (y:=⟨.fls xs,.ref f,l,m⟩) E6 g rfl c (g3 c j)
theorem ix_ok:IxR X (fun x y H Q=>xE X.K x y H Q\/xD X.K x y H Q):=ix_list.or Ew
end
end L3
end
section
namespace L3
open PySem L2
def orC (f g:List D->Option (D × Fl)) (a:List D):Option (D × Fl):=match f a with
 | some p=>some p
 | none=>g a
section
variable {K:FG} {H:Hp} {Ks:Addr->Prop} {d:D} {v:V} {L:List Addr} {X:Cx}
def c1 (f:D->Option (D × Fl)):List D->Option (D × Fl)
 | [d]=>f d
 | _=>none
def c2 (f:D->D->Option (D × Fl)):List D->Option (D × Fl)
 | [d,d']=>f d d'
 | _=>none
theorem cY {ys:List It3} (e:c1 f (ys.map (·.d))=some p):∃ y,ys=[y]/\f y.d=some p:=by
 match ys,e with
 | [],e=>exact nsE e
 | [y],e=>exact ⟨y,rfl,e⟩
 | _ :: _ :: _,e=>exact nsE e
theorem sy {ys:List It3} (e:c2 f (ys.map (·.d))=some p):∃ y z,ys=[y,z]/\f y.d z.d=some p:=by
 match ys,e with
 | [],e=>exact nsE e
 | [_],e=>exact nsE e
 | [y,z],e=>exact ⟨y,z,rfl,e⟩
 | _ :: _ :: _ :: _,e=>exact nsE e
def l5:D->Option (D × Fl)
 | .lst xs=>some (.int xs.length,.z)
 | .fls xs=>some (.int xs.length,.z)
 | .tup xs=>some (.int xs.length,.z)
 | _=>none
abbrev dz:=c1 l5
set_option tactic.hygienic true in
theorem EN:b8 K (fun xs H Q=>∃ p ys,xs=[.ref p]/\(SqL K H p ys\/SqT K H p ys)/\Q (.int ys.length) H) dz:=fun ys H Q p ra e q=>by
 obtain ⟨y,rfl,f⟩:=cY e
 clear e
 have e:=f
 clear f
 have d:=(ra y E6).rep
 obtain ⟨da,i,g,h⟩:=y
 dsimp only at d e
 cases da <;> try (exact nsE e)
 ·rename_i xs
  obtain ⟨c,a,rfl,b,rs⟩:=d.view
  cases e
  exact ⟨c,a,rfl,.inr (SqT.of b),by rw [<- rs.len];exact q ⟨_,_,[],.z⟩ H (b9 (.int _)) rfl rfl⟩
 ·rename_i xs
  obtain ⟨c,a,g,rfl,rfl,b,rs⟩:=d.view
  cases e
  exact ⟨c,a,rfl,.inl (SqL.of b),by rw [<- rs.len];exact q ⟨_,_,[],.z⟩ H (b9 (.int _)) rfl rfl⟩
 ·rename_i xs
  obtain ⟨c,a,rfl,b,rs⟩:=d.view
  cases e
  exact ⟨c,a,rfl,.inl b.sq,by rw [<- rs.len];exact q ⟨_,_,[],.z⟩ H (b9 (.int _)) rfl rfl⟩
def wq:D->Option (D × Fl)
 | .lst xs=>some (.tup xs,.z)
 | .tup xs=>some (.tup xs,.z)
 | _=>none
abbrev zP:=c1 wq
set_option tactic.hygienic true in
theorem EK:b8 K (fun xs H Q=>∃ p ys,xs=[.ref p]/\((SqL K H p ys/\∀ l,H l=none->Q (.ref l) (upd H l (.tup ys)))\/(SqT K H p ys/\Q (.ref p) H))) zP:=fun ys H Q p ra e q=>by
 obtain ⟨y,rfl,i⟩:=cY e
 clear e
 have e:=i
 clear i
 have d:=ra y E6
 have g:=d.rep
 obtain ⟨da,k,b,h⟩:=y
 dsimp only at g e
 cases da <;> try (exact nsE e)
 ·rename_i xs
  obtain ⟨a,f,rfl,c,rs⟩:=g.view
  cases e
  exact ⟨a,f,rfl,.inr ⟨SqT.of c,q ⟨.tup xs,.ref a,b,.z⟩ H (pJ (.tup c rs) (jz (y:=⟨.tup xs,.ref a,b,h⟩) E6 d rfl)) rfl rfl⟩⟩
 ·rename_i xs
  obtain ⟨a,f,b,rfl,rfl,c,rs⟩:=g.view
  cases e
  exact ⟨a,f,rfl,.inl ⟨SqL.of c,fun l j=>q ⟨.tup xs,.ref l,b,.z⟩ _ (x4 j rs (nZ (y:=⟨.lst xs,.ref a,a :: b,h⟩) E6 d rfl rfl)) rfl rfl⟩⟩
def yz:D->Option (D × Fl)
 | .lst xs=>some (.lst xs,.u)
 | .tup xs=>some (.lst xs,.u)
 | _=>none
abbrev Ep:=c1 yz
set_option tactic.hygienic true in
theorem EL:b8 K (fun xs H Q=>∃ p ys,xs=[.ref p]/\(SqL K H p ys\/SqT K H p ys)/\∀ l,H l=none->Q (.ref l) (upd H l (.lst ys))) Ep:=fun ys H Q p ra e q=>by
 obtain ⟨y,rfl,j⟩:=cY e
 clear e
 have e:=j
 clear j
 have c:=ra y E6
 have f:=c.rep
 obtain ⟨da,k,b,i⟩:=y
 dsimp only at f e
 cases da <;> try (exact nsE e)
 ·rename_i xs
  obtain ⟨a,d,rfl,g,rs⟩:=f.view
  cases e
  exact ⟨a,d,rfl,.inr (SqT.of g),fun l h=>q ⟨.lst xs,.ref l,l :: b,.u⟩ _ (rB h rs (jz (y:=⟨.tup xs,.ref a,b,i⟩) E6 c rfl)) rfl rfl⟩
 ·rename_i xs
  obtain ⟨a,d,b,rfl,rfl,g,rs⟩:=f.view
  cases e
  exact ⟨a,d,rfl,.inl (SqL.of g),fun l h=>q ⟨.lst xs,.ref l,l :: b,.u⟩ _ (rB h rs (nZ (y:=⟨.lst xs,.ref a,a :: b,i⟩) E6 c rfl rfl)) rfl rfl⟩
def zC:D->Option (D × Fl)
 | .int i=>some (.int (if i < 0 then -i else i),.z)
 | _=>none
abbrev absD:=c1 zC
theorem Rep.int_inv {i:Int} (r:Rep K H (.int i) v L):v=.int i:=by cases r;rfl
theorem EQ:b8 K (fun xs H Q=>∃ i,xs=[.int i]/\Q (.int (if i < 0 then -i else i)) H) absD:=fun ys H Q p ra e q=>by
 obtain ⟨y,rfl,b⟩:=cY e
 clear e
 have e:=b
 clear b
 have a:=(ra y E6).rep
 obtain ⟨da,c,f,d⟩:=y
 dsimp only at a e
 cases a <;> try (exact nsE e)
 cases e
 exact ⟨_,rfl,q ⟨_,_,[],.z⟩ H (b9 (.int _)) rfl rfl⟩
def jd (C:Int->Int->Bool) (g:Int->Int->D):D->D->Option (D × Fl)
 | .int i,.int j=>if C i j then some (g i j,.z) else none
 | _,_=>none
set_option tactic.hygienic true in
theorem jD (e:jd C g a b=some p):∃ i j,a=.int i/\b=.int j/\C i j=true/\p=(g i j,.z):=by
 cases a <;> cases b <;> try (exact nsE e)
 rename_i i j
 have e:(if C i j then some (g i j,Fl.z) else none)=some p:=e
 split at e
 ·rename_i h;cases e;exact ⟨i,j,rfl,rfl,h,rfl⟩
 ·exact nsE e
abbrev Cn:=c2 (jd oJ fun i j=>.int (if j > i then j else i))
abbrev Cm:=c2 (jd oJ fun i j=>.int (if j < i then j else i))
abbrev zc:=c2 (jd (fun _ j=>decide (0 < j/\j < 1073741824)) fun i j=>.tup [.int (i / j),.int (i % j)])
theorem BT:b8 K (fun xs H Q=>∃ i j,xs=[.int i,.int j]/\Q (.int (if j > i then j else i)) H) Cn:=fun ys H Q p ra e q=>by
 obtain ⟨y,z,rfl,c⟩:=sy e
 clear e
 have e:=c
 clear c
 obtain ⟨i,j,d,f,_,rfl⟩:=jD e
 have b:=(ra y E6).rep
 have a:=(ra z (E7 _ E6)).rep
 rw [d] at b
 rw [f] at a
 refine ⟨i,j,?_,q ⟨_,_,[],.z⟩ H (b9 (.int _)) rfl rfl⟩
 show [y.v,z.v]=_
 rw [b.int_inv,a.int_inv]
theorem BQ:b8 K (fun xs H Q=>∃ i j,xs=[.int i,.int j]/\Q (.int (if j < i then j else i)) H) Cm:=fun ys H Q p ra e q=>by
 obtain ⟨y,z,rfl,c⟩:=sy e
 clear e
 have e:=c
 clear c
 obtain ⟨i,j,d,f,_,rfl⟩:=jD e
 have b:=(ra y E6).rep
 have a:=(ra z (E7 _ E6)).rep
 rw [d] at b
 rw [f] at a
 refine ⟨i,j,?_,q ⟨_,_,[],.z⟩ H (b9 (.int _)) rfl rfl⟩
 show [y.v,z.v]=_
 rw [b.int_inv,a.int_inv]
theorem vK:b8 K (fun xs H Q=>∃ i j,xs=[.int i,.int j]/\wj i j/\∀ p,H p=none->Q (.ref p) (upd H p (.tup [.int (i / j),.int (i % j)]))) zc:=fun ys H Q p ra e q=>by
 obtain ⟨y,z,rfl,f⟩:=sy e
 clear e
 have e:=f
 clear f
 obtain ⟨i,j,h,k,a,rfl⟩:=jD e
 have d:=(ra y E6).rep
 have b:=(ra z (E7 _ E6)).rep
 rw [h] at d
 rw [k] at b
 refine ⟨i,j,?_,by simpa [wj] using a,fun p g=>q ⟨_,.ref p,[],.z⟩ _ (x4 g (L:=[]) (.cons (L:=[]) (.int _) (.cons (L:=[]) (.int _) .nil)) fun c a=>by cases a) rfl rfl⟩
 show [y.v,z.v]=_
 rw [d.int_inv,b.int_inv]
def iw:List D->Option (List Bool)
 | []=>some []
 | .bl b :: ds=>(iw ds).map (b :: ·)
 | _=>none
set_option tactic.hygienic true in
theorem qx:∀ {ds:List D} {bs:List Bool},iw ds=some bs->ds=bs.map D.bl
 | [],bs,e=>by cases e;rfl
 | d :: ds,bs,e=>by
  cases d <;> try (exact nsE e)
  rename_i b
  obtain ⟨r,h1,h2⟩:=E9.mp (show (iw ds).map (b :: ·)=some bs from e)
  subst h2
  rw [qx h1];rfl
theorem Reps.bls:∀ {bs:List Bool} {a:List V} {L:List Addr},Reps (Rep K H) (bs.map D.bl) a L->a=bs.map V.bl
 | [],_,_,.nil=>rfl
 | b :: bs,_,_,.cons r rs=>by
  rw [Reps.bls rs]
  cases r;rfl
def EZ:D->Option (D × Fl)
 | .lst xs=>(iw xs).map fun bs=>(.bl (bs.all id),.z)
 | _=>none
abbrev zB:=c1 EZ
set_option tactic.hygienic true in
theorem EO:b8 K (fun xs H Q=>∃ (a:Addr) (bs:List Bool),xs=[.ref a]/\SqL K H a (bs.map V.bl)/\Q (.bl (bs.all id)) H) zB:=fun ys H Q p ra e q=>by
 obtain ⟨y,rfl,c⟩:=cY e
 clear e
 have e:=c
 clear c
 have b:=(ra y E6).rep
 obtain ⟨da,j,d,i⟩:=y
 dsimp only at b e
 cases da <;> try (exact nsE e)
 rename_i xs
 obtain ⟨g,h,d,rfl,rfl,f,rs⟩:=b.view
 obtain ⟨bs,h1,h2⟩:=E9.mp (show (iw xs).map (fun bs=>(D.bl (bs.all id),Fl.z))=some p from e)
 subst h2
 have:=qx h1
 subst this
 have:=rs.bls
 subst this
 exact ⟨g,bs,rfl,SqL.of f,q ⟨_,_,[],.z⟩ H (b9 (.bl _)) rfl rfl⟩
def oh (xs:List D) (lo hi:Option Int):List D:=(xs.drop (HT.sIx xs.length 0 lo)).take (HT.sIx xs.length xs.length hi - HT.sIx xs.length 0 lo)
end
end L3
end
section
namespace L3
open PySem L2
def sN:D->Option (List D)
 | .lst xs=>some xs
 | .fls xs=>some xs
 | .tup xs=>some xs
 | _=>none
def bZ (m:EM):IM:=af m fun r=>af (der r) fun d=>aV ((sN d).map fun ds=>([r],ds))
def iSeq (K:FG) (tl:TE):TI:=fun σ H R=>tl σ H fun x H1=>(∃ a,x=.ref a/\(∃ xs,SqL K H1 a xs)/\R (Itl K a) H1)\/∃ a,x=.ref a/\(∃ xs,SqT K H1 a xs)/\R (Itt K a) H1
theorem DI (k:PE X l tl):PI X tg l (iSeq X.K tl):=by
 intro pins s σ H R I h
 exact thn (k pins s σ H _ I h) fun v s1 ⟨x,H1,c,g,i⟩=>by
   rcases i with ⟨a,e,⟨xs,f⟩,q⟩ | ⟨a,e,⟨xs,f⟩,q⟩
   ·subst e
    cases g
    obtain ⟨its,j,p,hz⟩:=c.list f
    refine wpAny_pyIter_list p.isList ?_
    refine ⟨s1.heap.objs.size,[s1.heap.objs.size],_,_,H1,rfl,c.kept (t':=s1.toks) fun b o e=>E8 _ e,uz a _,⟨_,Fg _ rfl,rfl,rfl⟩,fun b d=>?_,q⟩
    have e:b=s1.heap.objs.size:=by simpa using d
    subst e
    exact c.fpOk (Fq _) (c.hok.fresh (Fq _))
   ·subst e
    cases g
    obtain ⟨its,j,p,hz⟩:=c.tuple f
    refine wpAny_pyIter_tuple (show s1.heap.IsTuple a its.toArray from p) ?_
    refine ⟨s1.heap.objs.size,[s1.heap.objs.size],_,_,H1,rfl,c.kept (t':=s1.toks) fun b o e=>E8 _ e,qC a _,⟨_,Fg _ rfl,rfl,rfl⟩,fun b d=>?_,q⟩
    have e:b=s1.heap.objs.size:=by simpa using d
    subst e
    exact c.fpOk (Fq _) (c.hok.fresh (Fq _))
section
variable {K:FG} {G G0:Gm} {W W0:D->Sto->Prop} {H H':Hp} {σ:St} {ρ ρ':Sto} {T T':List It3} {g:Nat->Option It3} {x y z:It3} {α β:Type} {X:Cx}
theorem Ar.item2 (w:Wf K G H σ ρ (Ts ++ T) g) (a:Ar σ r v Ts) (e:der r ρ=some (.ok d,ρ)):∃ y,y.d=d/\y.v=v/\((∃ i,i ∈ pls [r]/\g i=some y)\/y ∈ Ts):=by
 cases a with
 | @pl i v h =>
  have c:der (.pl i) ρ=((ρ[i]?).join).map fun p=>(.ok p.1,ρ):=rfl
  rw [c] at e
  cases q:(ρ[i]?).join with
  | none=>rw [q] at e;exact nsE e
  | some p =>
   rw [q] at e
   obtain ⟨y,e1,k,l,b⟩:=w.slot (d:=p.1) (f:=p.2) q
   have j:p.1=d:=by cases e;rfl
   rw [h] at b
   injection b with b
   injection b with b
   exact ⟨y,k.trans j,b.symm,.inl ⟨i,E6,e1⟩⟩
 | val x=>cases e;exact ⟨x,rfl,rfl,.inr (by simp)⟩
theorem nw (j:Reps (Rep K H1) ds vs l) (p:∀ c ∈ l,cZ [y] c) (q:∀ c ∈ l,c ∈ y.L) (g:∀ (M:Addr->Prop) (H':Hp),(∀ b,M b->MutAt H1 b)->(∀ b o,H1 b=some o->¬ M b->H' b=some o)->(∀ b ∈ y.L,¬ M b)->(∀ (i:Nat) (v:V),vs[i]?=some v->J.go i H'/\∀ x a,J.yld i H' x a->a=H'/\x=v)/\J.stop vs.length H'):Walk K J H1 [y] ds:=by
 obtain ⟨ws,h1,h2,h3⟩:=Reps.split j
 refine ⟨ws,fun x h=>⟨(h3 x h).1,(h3 x h).2.1,fun c f=>p c ((h3 x h).2.2 c f)⟩,fun M H' hm e k=>?_⟩
 obtain ⟨go,stop⟩:=g M H' hm e (k y E6)
 refine ⟨fun i d hd=>?_,by rw [j.len];exact stop⟩
 have hi:∃ u,ws[i]?=some u/\u.d=d:=by
  grind
 obtain ⟨u,m,w⟩:=hi
 have t:vs[i]?=some u.v:=by rw [<- h2,Fp,m];rfl
 obtain ⟨g1,g2⟩:=go i u.v t
 refine ⟨g1,fun x a r=>?_⟩
 obtain ⟨e1,s⟩:=g2 x a r
 subst e1 s
 have hu:=Fj m
 refine ⟨u,⟨Same.refl _,(h3 u hu).2.1.keep e hm fun b n=>k y E6 b (q b ((h3 u hu).2.2 b n)),fun c f=>.inr ⟨u,hu,f⟩,fun hf=>absurd (h3 u hu).1 hf⟩,w,(h3 u hu).1,rfl⟩
theorem mh {y:It3} {a:Addr} {ds:List D} {c:List V} (k:∀ H',SqL K H' a c->True) (j:∀ (M:Addr->Prop) (H':Hp),(∀ b,M b->MutAt H b)->(∀ b o,H b=some o->¬ M b->H' b=some o)->(∀ b ∈ y.L,¬ M b)->SqL K H' a c) :
  ∀ (M:Addr->Prop) (H':Hp),(∀ b,M b->MutAt H b)->(∀ b o,H b=some o->¬ M b->H' b=some o)->(∀ b ∈ y.L,¬ M b)->(∀ (i:Nat) (v:V),c[i]?=some v->(Itl K a).go i H'/\∀ x d,(Itl K a).yld i H' x d->d=H'/\x=v)/\(Itl K a).stop c.length H':=fun M H' hm h f=>by
 have sq:SqL K H' a c:=j M H' hm h f
 refine ⟨fun i v e=>⟨⟨c,v,sq,e⟩,fun x d ⟨e1,g⟩=>⟨e1,?_⟩⟩,⟨c,sq,Fq _⟩⟩
 have:=g c sq
 rw [e] at this
 injection this with this
 exact this.symm
theorem CQ (h:tI K G0 W0 (bZ m) σ H R):iSeq K (tE K G0 W0 m) σ H R:=by
 obtain ⟨G,W,le,ρ,T,g,o,ρ',w,e,q⟩:=h
 have n:∀ x,o=.error x->W x ρ':=fun x V=>by subst V;exact q
 refine tE.seq le w e n fun ra ρ1 e1 v H1 ⟨Ts,g1,D,a1⟩=>?_
 obtain ⟨d,d1,t⟩:=aI e1
 obtain ⟨p,E,rfl,rfl⟩:=bv t
 obtain ⟨ds,r,U⟩:=E9.mp E
 subst U
 obtain ⟨y,O,Q,F⟩:=a1.item2 D d1
 have P:Itm (Ts ++ T) g1 y:=by
  rcases F with ⟨i,_,S⟩ | h
  ·exact .inl ⟨i,S⟩
  ·exact .inr (Fa _ h)
 have L:=(D.itm P).arg
 have C:∀ J,Walk K J H1 [y] ds->R J H1:=fun J hw=>q J H1 [v] Ts g1 [y] D (by simpa using Ars.cons a1 .nil) (fun z hz=>by rw [FH.mp hz];exact F) hw
 clear e1 t E q
 subst O Q
 have f:=L
 obtain ⟨da,Y,u,A⟩:=y
 obtain ⟨s,X⟩:=L
 dsimp only at s r
 cases da with
 | tup xs =>
  obtain ⟨a,j,rfl,b,rs⟩:=s.view
  cases r
  refine .inr ⟨a,rfl,⟨_,SqT.of b⟩,C _ (nw rs (jz (y:=⟨.tup ds,.ref a,u,A⟩) E6 f rfl) (fun c l=>l) fun M H' hm k B=>?_)⟩
  have sq:SqT K H' a j:=SqT.of (k a _ b fun z=>(hm a z).notup b)
  refine ⟨fun i v I=>⟨⟨j,v,sq,I⟩,fun x N ⟨e1,t⟩=>⟨e1,?_⟩⟩,⟨j,sq,Fq _⟩⟩
  have:=t j sq
  rw [I] at this
  injection this with this
  exact this.symm
 | lst xs =>
  obtain ⟨a,j,u,rfl,rfl,b,rs⟩:=s.view
  cases r
  refine .inl ⟨a,rfl,⟨_,SqL.of b⟩,C _ (nw rs (nZ (y:=⟨.lst ds,.ref a,a :: u,A⟩) E6 f rfl rfl) (fun c l=>E7 _ l) (mh (ds:=ds) (fun _ _=>trivial) fun M H' hm k B=>SqL.of (k a _ b (B a E6))))⟩
 | fls xs =>
  obtain ⟨a,j,rfl,b,rs⟩:=s.view
  cases r
  refine .inl ⟨a,rfl,⟨_,b.sq⟩,C _ (nw rs (jz (y:=⟨.fls ds,.ref a,u,A⟩) E6 f rfl) (fun c l=>l) (mh (ds:=ds) (fun _ _=>trivial) fun M H' hm k B=>(b.keep k hm).sq))⟩
 | _=>exact nsE r
theorem Dl (h:RE X G0 W0 l m):RI X G0 W0 tg l (bZ m):=⟨PI.imp (DI h.h) fun _ _ _ h=>CQ h⟩
def bg (lo:Int) (n:Nat):List D:=(List.range n).map fun (k:Nat)=>D.int (lo+(k:Int))
theorem oK {lo:Int} {n:Nat}:Walk K (Itr lo n) H1 ys (bg lo n):=by
 refine ⟨[],fun x h=>(by cases h),fun M H' _ _ _=>⟨fun i d hd=>?_,?_⟩⟩
 ·unfold bg at hd
  rw [Fp] at hd
  obtain ⟨k,a,b⟩:=E9.mp hd
  obtain ⟨c,e⟩:=Fi.mp a
  rw [List.getElem_range] at e
  subst e
  rw [List.length_range] at c
  refine ⟨c,fun x f ⟨e1,g⟩=>?_⟩
  subst e1
  exact ⟨⟨d,x,[],.z⟩,b9 (by rw [<- b,g];exact .int _),rfl,rfl,rfl⟩
 ·show n<=(bg lo n).length
  unfold bg
  simp
def bY (j:Int):Bool:=decide (-(2 ^ 62)<=j/\j < 2 ^ 62)
def d8:List D->Option (List D)
 | [.int j]=>if bY j then some (bg 0 j.toNat) else none
 | _=>none
def eZ:List D->Option (List D)
 | [.int i,.int j]=>if bY i && bY j then some (bg i (j - i).toNat) else none
 | _=>none
def aZ (f:List D->Option (List D)) (ms:M3 (List R3)):IM:=af ms fun rs=>af (cG rs) fun ds=>aV ((f ds).map fun xs=>([],xs))
set_option tactic.hygienic true in
theorem zX (h:tI K G0 W0 (aZ d8 ms) σ H R):Cr (tA K G0 W0 ms) σ H R:=by
 obtain ⟨G,W,le,ρ,T,g,o,ρ',w,e,q⟩:=h
 have b:∀ x,o=.error x->W x ρ':=fun x i=>by subst i;exact q
 refine tA.seq le w e b fun rs ρ1 e1 t H1 Ts g1 k a1=>?_
 obtain ⟨ds,d1,m⟩:=bB e1
 obtain ⟨p,n,rfl,rfl⟩:=bv m
 obtain ⟨xs,a,s⟩:=E9.mp n
 subst s
 obtain ⟨ys,f,f1,f2⟩:=a1.items k (fun x i=>Fa _ i) d1
 subst f1 f2
 match ys,a,f,a1 with
 | [],a,_,_=>exact nsE a
 | y :: z :: r,a,_,_=>cases hd:y.d <;> (rw [Fu,Fu,hd] at a;exact nsE a)
 | [y],a,f,a1 =>
  have l:=(k.itm (f y E6)).rep
  cases hd:y.d <;> (rw [Fu,hd] at a;try (exact nsE a))
  rename_i j
  rw [hd] at l
  have a:(if bY j then some (bg 0 j.toNat) else none)=some xs:=a
  split at a
  ·rename_i c
   cases a
   have c:=of_decide_eq_true c
   refine ⟨j,by show [y.v]=_;rw [l.int_inv],c.1,c.2,?_⟩
   exact q _ H1 [] [] g1 [] (k.sub (Fm Ts T)) .nil (fun _ h=>by cases h) oK
  ·exact nsE a
set_option tactic.hygienic true in
theorem zW (h:tI K G0 W0 (aZ eZ ms) σ H R):Cq (tA K G0 W0 ms) σ H R:=by
 obtain ⟨G,W,le,ρ,T,g,o,ρ',w,e,q⟩:=h
 have b:∀ x,o=.error x->W x ρ':=fun x m=>by subst m;exact q
 refine tA.seq le w e b fun rs ρ1 e1 E H1 Ts g1 k a1=>?_
 obtain ⟨ds,d1,t⟩:=bB e1
 obtain ⟨p,A,rfl,rfl⟩:=bv t
 obtain ⟨xs,C,B⟩:=E9.mp A
 subst B
 obtain ⟨ys,c,f1,f2⟩:=a1.items k (fun x m=>Fa _ m) d1
 subst f1 f2
 have inv:∀ {ds:List D},eZ ds=some xs->∃ i j,ds=[.int i,.int j]/\bY i=true/\bY j=true/\xs=bg i (j - i).toNat:=fun {ds} h=>by
  unfold eZ at h
  split at h
  ·rename_i i j
   split at h
   ·rename_i l
    cases h
    simp only [Bool.and_eq_true] at l
    exact ⟨i,j,rfl,l.1,l.2,rfl⟩
   ·exact nsE h
  ·exact nsE h
 obtain ⟨i,j,a,hi,f,rfl⟩:=inv C
 match ys,a,c,a1 with
 | [],a,_,_=>cases a
 | [y],a,_,_=>exact absurd (congrArg List.length a) (by simp)
 | y :: z :: u :: r,a,_,_=>exact absurd (congrArg List.length a) (by simp)
 | [y,z],a,c,a1 =>
  have s:=(k.itm (c y E6)).rep
  have n:=(k.itm (c z (E7 _ E6))).rep
  have h1:y.d=.int i:=by injection a
  have h2:z.d=.int j:=by injection a with _ h;injection h
  rw [h1] at s
  rw [h2] at n
  have hi:=of_decide_eq_true hi
  have f:=of_decide_eq_true f
  refine ⟨i,j,by show [y.v,z.v]=_;rw [s.int_inv,n.int_inv],⟨hi.1,hi.2,f.1,f.2⟩,?_⟩
  exact q _ H1 [] [] g1 [] (k.sub (Fm Ts T)) .nil (fun _ h=>by cases h) oK
theorem Aw (d:Gl X "range") (hm:X.mg "range"=none) (b:RA X G0 W0 [a] ms) (c:starEach [a] X.env=[(false,eval a X.env)]):RI X G0 W0 tg (.Call (.Name "range" p) [a] [] pos) (aZ d8 ms):=⟨PI.imp (u3 d hm b.h c) fun _ _ _ h=>zX h⟩
theorem Av (f:Gl X "range") (hm:X.mg "range"=none) (d:RA X G0 W0 [a,b] ms) (e:starEach [a,b] X.env=[(false,eval a X.env),(false,eval b X.env)]) (c:starEach [b] X.env=[(false,eval b X.env)]):RI X G0 W0 tg (.Call (.Name "range" p) [a,b] [] pos) (aZ eZ ms):=⟨PI.imp (uZ f hm d.h e c) fun _ _ _ h=>zW h⟩
end
end L3
end
section
namespace L3
open PySem L2
section
variable {K:FG} {G G0:Gm} {W W0:D->Sto->Prop} {H H':Hp} {σ:St} {ρ ρ':Sto} {T T':List It3} {g:Nat->Option It3} {x y z:It3} {α β:Type} {X:Cx} {L:List Addr}
def lV (bnd:D->Sto->Option Sto) (m:EM):SM:=af m fun r=>af (c6 r) fun p=>fun ρ=>(bnd p.1 ρ).map fun ρ1=>(.ok .nx,ρ1)
theorem CO (c:Bnd K G0.pr tg bnd) (h:tS K G0 W0 (lV bnd m) E σ H):wB (tE K G0 W0 m) tg E σ H:=by
 refine h.use fun G W le ρ T g r ρ' w e q=>?_
 refine tE.seq le w e q.err fun ra ρ1 e1 v H1 ⟨Ts,g1,l,a1⟩=>?_
 obtain ⟨p,ρ2,g2,x,b,i,f1,_,_,f⟩:=a1.take l e1
 have j:=Wf.lowT (Ts:=[x]) i
 obtain ⟨ρ3,a,n⟩:=E9.mp b
 cases n
 rw [<- f]
 exact c G H1 σ ρ2 _ T g2 (cW x) _ le.pr rfl j (by show bnd x.d ρ2=_;rw [f1];exact a) fun σ2 g3 k=>q _ _ _ k
theorem Dk (c:RG X G0.pr tg bnd) (he:RE X G0 W0 e m) (d:swapsWithSole [tg] e pos.line X.env=pure false) (hw:swappedStores [tg] e X.env=pure none) (h1:(assignEach [tg] X.env).map (·.2)=[assign tg X.env]):RS X G0 W0 (.Assign [tg] e pos) (lV bnd m):=by
 obtain ⟨g,a,b⟩:=c.h
 exact ⟨PS.imp (xJ he.h a d hw h1) fun _ _ _ h=>CO b h⟩
theorem qT {i:Nat} {y:Str} (f:X.N.Nodup) (m:X.N[i]?=some y) (k:Loc X.env.scope y) (NY:List Str) (ix:List (Option Nat)) (n:X.calm=true) (hi:RI X G0 W0 tg iter im) (j:∀ s H C fp,PTs (aD X NY scope s H C fp) ifs (tT X.K (a9 ix) noX cm)) (he:∀ s H C fp,RE (aD X NY scope s H C fp) (a9 ix) noX elt em) (g:gk scope X.N X.env.scope NY ix=true) (b:Inj ix) (d:swapsWith (.ListComp elt [⟨tg,iter,ifs,0⟩] scope pos) (some (.Name y py)) spos.line X.env=pure true) (hf:X.fn y=true\/X.env.scope.names.lookup y=some .local) (l:∀ x,foldedSetIterable iter X.env x=pure x) (e:G0.pr i=false) (c:∃ a,Bnd X.K (a9 ix).pr a bnd/\∀ s H C fp,PG (aD X NY scope s H C fp) tg a):RS X G0 W0 (.Assign [.Name y py] (.ListComp elt [⟨tg,iter,ifs,0⟩] scope pos) spos) (aR i (bz im bnd cm em ix)):=by
 obtain ⟨a,b1,b2⟩:=c
 exact ⟨PS.imp (q8 f m k NY ix n hi.h b2 j (fun s H C fp=>(he s H C fp).h) g d hf l) fun _ _ _ h=>qH szl b b1 e h⟩
def isL:D->Bool
 | .lst _=>true
 | _=>false
theorem yN:∀ d v L H,isL d=true->Rep K H d v L->tyV K "list" v H:=fun d v L H h r=>by
 cases r with
 | lst ha _=>exact .inl ⟨rfl,_,SqL.of ha⟩
 | _=>cases h
def BY:D->List D->Option (D × D)
 | .lst xs,[d]=>if xs.length < 16777216 then some (.lst (xs ++ [d]),.non) else none
 | _,_=>none
set_option tactic.hygienic true in
theorem Em:MutD K tj BY:=fun a d k as H Q p r m na ra i e q=>by
 cases d with
 | lst xs =>
  obtain ⟨_,g,_,e1,w,l,rs⟩:=r.view
  cases e1
  cases w
  match as,e,ra,i with
  | [],e,_,_=>exact nsE e
  | _ :: _ :: _,e,_,_=>exact nsE e
  | [y],e,ra,i =>
   have e:(if xs.length < 16777216 then some (D.lst (xs ++ [y.d]),D.non) else none)=some p:=e
   split at e
   ·rename_i u
    cases e
    refine ⟨a,g,y.v,rfl,rfl,l,by rw [<- rs.len,<- szl];exact u,?_⟩
    have s:=ra y E6
    have t:=i y E6
    have ma:MutAt H a:=.inl ⟨_,l⟩
    have keep:∀ {d v L},Rep K H d v L->a ∉ L->Rep K (upd H a (.lst (g ++ [y.v]))) d v L:=fun {d v L} r n=>r.keep (M:=fun b=>b=a) (fun b o f h=>by rw [au h];exact f) (fun b e=>by rw [e];exact ma) fun b f e=>n (by rw [<- e];exact f)
    have keeps:Reps (Rep K (upd H a (.lst (g ++ [y.v])))) xs g k:=rs.keep (M:=fun b=>b=a) (fun b o f h=>by rw [au h];exact f) (fun b e=>by rw [e];exact ma) fun b f e=>na (by rw [<- e];exact f)
    exact q (.lst (g ++ [y.v])) (k ++ (y.L ++ [])) ⟨.non,.non,[],.z⟩ (.lst aT (keeps.append (.cons (keep s t) .nil))) rfl (fun c j=>by
     rcases Ff.mp j with h | h
     ·exact .inl h
     ·rw [List.append_nil] at h;exact .inr ⟨y,E6,h⟩) rfl rfl .non fun c j=>by cases j
   ·exact nsE e
 | _=>exact nsE e
def y7:D->List D->Option (D × D)
 | .lst xs,[.lst ys]=>if xs.length+ys.length<=16777216 then some (.lst (xs ++ ys),.non) else none
 | _,_=>none
theorem ext2 (a:D):y7 (.lst xs) (a :: b :: r)=none:=by cases a <;> rfl
set_option tactic.hygienic true in
theorem El:MutD K sZ y7:=fun a d B as H Q p r m na ra j e q=>by
 cases d with
 | lst xs =>
  obtain ⟨_,l,_,e1,A,t,rs⟩:=r.view
  cases e1
  cases A
  match as,e,ra,j with
  | [],e,_,_=>exact nsE e
  | y :: _ :: _,e,_,_=>exact nsE ((ext2 y.d).symm.trans e)
  | [y],e,ra,j =>
   have s:=ra y E6
   have u:=j y E6
   obtain ⟨w,C,E,F⟩:=y
   dsimp only at s u e
   cases w with
   | lst ys =>
    obtain ⟨b,ws,v,rfl,rfl,g,i⟩:=s.view
    have e:(if xs.length+ys.length<=16777216 then some (D.lst (xs ++ ys),D.non) else none)=some p:=e
    split at e
    ·rename_i x
     cases e
     refine ⟨a,b,l,ws,rfl,rfl,t,g,by rw [<- rs.len,<- i.len,<- szl];exact x,?_⟩
     have ma:MutAt H a:=.inl ⟨_,t⟩
     have keeps:∀ {ds f L},Reps (Rep K H) ds f L->a ∉ L->Reps (Rep K (upd H a (.lst (l ++ ws)))) ds f L:=fun {ds f L} r n=>r.keep (M:=fun b=>b=a) (fun b o g h=>by rw [au h];exact g) (fun b e=>by rw [e];exact ma) fun b g e=>n (by rw [<- e];exact g)
     exact q (.lst (l ++ ws)) (B ++ v) ⟨.non,.non,[],.z⟩ (.lst aT ((keeps rs na).append (keeps i fun h=>u (E7 _ h)))) rfl (fun c k=>by
      rcases Ff.mp k with h | h
      ·exact .inl h
      ·exact .inr ⟨_,E6,E7 _ h⟩) rfl rfl .non fun c k=>by cases k
    ·exact nsE e
   | _=>exact nsE e
 | _=>exact nsE e
def o3:D->List D->Option (D × D)
 | .lst xs,[.int i,d]=>(ixN xs.length i).map fun j=>(.lst (xs.set j d),.non)
 | _,_=>none
theorem Reps.set:∀ {ds:List D} {b:List V} {L L':List Addr} {d:D} {v:V} (j:Nat),Reps (Rep K H) ds b L->Rep K H d v L'->∃ L2,Reps (Rep K H) (ds.set j d) (b.set j v) L2/\∀ c ∈ L2,c ∈ L\/c ∈ L'
 | _,_,_,_,_,_,j,.nil,_=>⟨[],.nil,fun c a=>by cases a⟩
 | _,_,_,L',_,_,0,.cons (L:=L1) (L':=L1') r rs,r'=>⟨L' ++ L1',.cons r' rs,fun c a=>by
  rcases Ff.mp a with h | h
  ·exact .inr h
  ·exact .inl (Fb _ h)⟩
 | _,_,_,L',_,_,j+1,.cons (L:=L1) (L':=L1') r rs,r'=>by
  obtain ⟨L2,h1,h2⟩:=Reps.set j rs r'
  refine ⟨L1 ++ L2,.cons r h1,fun c a=>?_⟩
  rcases Ff.mp a with h | h
  ·exact .inl (Fa _ h)
  ·rcases h2 c h with h | h
   ·exact .inl (Fb _ h)
   ·exact .inr h
theorem set1 (a:D):o3 (.lst xs) [a]=none:=by cases a <;> rfl
theorem set3' (a:D):o3 (.lst xs) (a :: b :: c :: r)=none:=by cases a <;> rfl
theorem Bp:MutD K (kY sW) o3:=fun a d C as H Q p r m na ra l e q=>by
 cases d with
 | lst xs =>
  obtain ⟨_,g,_,e1,A,t,rs⟩:=r.view
  cases e1
  cases A
  match as,e,ra,l with
  | [],e,_,_=>exact nsE e
  | [y],e,_,_=>exact nsE ((set1 y.d).symm.trans e)
  | y :: _ :: _ :: _,e,_,_=>exact nsE ((set3' y.d).symm.trans e)
  | [k,y],e,ra,l =>
   have u:=ra k E6
   have w:=ra y (E7 _ E6)
   have B:=l y (E7 _ E6)
   obtain ⟨kd,G,E,F⟩:=k
   dsimp only at u
   cases kd with
   | int i =>
    obtain ⟨rfl,rfl⟩:=u.view
    obtain ⟨j,h1,h2⟩:=E9.mp (show (ixN xs.length i).map (fun j=>(D.lst (xs.set j y.d),D.non))=some p from e)
    subst h2
    refine ⟨.int i,y.v,rfl,a,g,i,j,rfl,rfl,t,by rw [<- rs.len];exact h1,?_⟩
    have ma:MutAt H a:=.inl ⟨_,t⟩
    have s:Rep K (upd H a (.lst (g.set j y.v))) y.d y.v y.L:=w.keep (M:=fun b=>b=a) (fun b o f h=>by rw [au h];exact f) (fun b e=>by rw [e];exact ma) fun b f e=>B (by rw [<- e];exact f)
    have keeps:Reps (Rep K (upd H a (.lst (g.set j y.v)))) xs g C:=rs.keep (M:=fun b=>b=a) (fun b o f h=>by rw [au h];exact f) (fun b e=>by rw [e];exact ma) fun b f e=>na (by rw [<- e];exact f)
    obtain ⟨L2,h3,x⟩:=keeps.set j s
    exact q (.lst (g.set j y.v)) L2 ⟨.non,.non,[],.z⟩ (.lst aT h3) rfl (fun c n=>(x c n).imp id fun h=>⟨y,E7 _ E6,h⟩) rfl rfl .non fun c n=>by cases n
   | _=>exact nsE e
 | _=>exact nsE e
theorem sU {i:Nat} {x:Str} {id:String} (o:PlainAttrs Ty) (slot:Slot Ty nm id) (j:typeOf (.builtin id)=pure (.type "method_descriptor")) (hm:MtR X id r) (k:MutD X.K r f) (hok:∀ d v L H,ok d=true->Rep X.K H d v L->tyV X.K Ty v H) (m:PE X (.Name x pn) (uE i)) (l:RA X G0 W0 (e :: es) ms) (b:attributeBase (.Name x pn) nm X.env (eval (.Name x pn) X.env)=eval (.Name x pn) X.env) (g:((backTo cpos (starEach (e :: es) X.env)).all (fun x=>!x.1) && (backToKw cpos (keywordEach [] X.env)).all (fun x=>x.1.isSome) && decide ((e :: es).length+([]:List Keyword).length+(if ([]:List Keyword).isEmpty then 0 else 1) < 30))=true) (c:(apos.endLine == cpos.line)=true) (n:starEach (e :: es) X.env=(false,eval e X.env) :: starEach es X.env) (a:(backTo cpos (starEach es X.env)).any (·.1)=false):RE X G0 W0 (.Call (.Attribute (.Name x pn) nm apos) (e :: es) [] cpos) (vn ok f i ms) :=
 ⟨PE.imp (pe_bm o slot j hm m l.h b g c n a) fun _ _ _ h=>CV k hok h⟩
theorem xh {i:Nat} {x:Str} (j:zG X t) (d:MutD X.K (kY t) f) (g:PE X (.Name x pn) (uE i)) (m:RE X G0 W0 k mk) (l:RE X G0 W0 e mv) (c:∀ v,assign (.Subscript (.Name x pn) k p2) X.env v=(do
   let a <- holding [v] (eval (.Name x pn) X.env)
   let b <- holding [v,a] (eval k X.env)
   standAt p2
   holding [v,a,b] (setItem a b v)
   release [v,a,b] [])) (h1:swapsWithSole [.Subscript (.Name x pn) k p2] e pos.line X.env=pure false) (h2:swappedStores [.Subscript (.Name x pn) k p2] e X.env=pure none) (h3:(assignEach [.Subscript (.Name x pn) k p2] X.env).map (·.2)=[assign (.Subscript (.Name x pn) k p2) X.env]):RS X G0 W0 (.Assign [.Subscript (.Name x pn) k p2] e pos) (kQ f i mk mv) :=
 ⟨PS.imp (xJ l.h (DJ g m.h j c) h1 h2 h3) fun _ _ _ h=>CI d h⟩
end
end L3
end
section
namespace L3
open PySem L2
section
variable {K:FG} {G G0:Gm} {W W0:D->Sto->Prop} {H H':Hp} {σ:St} {ρ ρ':Sto} {T T':List It3} {g:Nat->Option It3} {x y z:It3} {α β:Type} {X:Cx} {L:List Addr}
theorem xo:PTs Y [] (tT K (a9 ix) noX fB):=fun pins s σ H Q I h=>AI pins s σ H Q I (CF h)
theorem xk (h:RT Y (a9 ix) noX c m):PTs Y [c] (tT Y.K (a9 ix) noX m):=AH h.h
theorem yO (h:(ix.filterMap id).Nodup):Inj ix:=by
 intro j k i a b
 induction ix generalizing j k with
 | nil=>simp at a
 | cons o ix ih =>
  grind
def wT:SM:=fun _=>none
theorem xj:RS X G0 W0 st wT:=⟨PS.imp xI fun _ _ _ h=>by
 refine h.use fun G W le ρ T g r ρ' w e q=>?_
 cases e⟩
theorem wz (ho:OpD K r f) (z:OpD K r' f') (h:tE K G0 W0 (fm f f' ma mb mc) σ H Q):qI r r' (tE K G0 W0 ma) (tE K G0 W0 mb) (tE K G0 W0 mc) σ H Q:=by
 refine h.use fun G W le ρ T g o ρ' w e q=>?_
 refine tE.seq le w e q.err fun ra ρ1 e1 va H1 ⟨Ts,g1,w1,a1⟩=>?_
 refine tE.seq le w1 e1 q.err fun rb ρ2 X vb H2 ⟨Us,g2,j,a2⟩=>?_
 obtain ⟨da,d1,e3⟩:=aI X
 obtain ⟨db,d2,e4⟩:=aI e3
 obtain ⟨k,e5,A⟩:=jv e4
 obtain ⟨V,R,f1,f2⟩:=a1.item j (fun x d=>Fb _ (Fa _ d)) d1
 obtain ⟨E,O,f3,f4⟩:=a2.item j (fun x d=>Fa _ d) d2
 obtain ⟨p,I,e8⟩:=FF.mp e5
 have hp:=zy e8
 subst f1 f2 f4
 rw [<- f3] at I
 refine ho V E H2 _ p (j.itm R).arg (j.itm O).arg I fun u H3 J ud uf=>?_
 have w3:=j.push J fun c h=>j.kids (ys:=[V,E]) (fun y b=>by
  rcases Fc.mp b with h | b
  ·rw [h];exact R
  ·rw [FH.mp b];exact O) h
 have M:=J.rep
 rw [ud,hp] at M
 refine ⟨k,M.bl_eq.1,?_⟩
 have U:=w3.sub (List.sublist_cons_self u _)
 cases k with
 | false =>
  cases A
  have i:=U.sub (T':=T) ((Fm Ts T).trans (Fm Us _))
  exact q _ _ (i.const (.bl false))
 | true =>
  simp only [if_true] at A ⊢
  refine tE.seq le U A q.err fun rc ρ5 e9 vc H5 ⟨m,P,i,a5⟩=>?_
  obtain ⟨n,Z,D⟩:=aI e9
  obtain ⟨dc,d4,t⟩:=aI D
  obtain ⟨p',a,rfl,rfl⟩:=bv t
  obtain ⟨l,F,f5,Y⟩:=a2.item i (fun x d=>Fb _ (Fa _ d)) Z
  obtain ⟨L,S,f7,f8⟩:=a5.item i (fun x d=>Fa _ d) d4
  cases v:f' n dc with
  | none=>rw [v] at a;exact nsE a
  | some s =>
   rw [v] at a
   cases a
   have N:=i
   rw [show m ++ (Us ++ (Ts ++ T))=(m ++ (Us ++ Ts)) ++ T by simp] at N
   have B:Itm ((m ++ (Us ++ Ts)) ++ T) P l:=by simpa using F
   have C:Itm ((m ++ (Us ++ Ts)) ++ T) P L:=by simpa using S
   rw [<- Y,<- f8]
   refine z l L H5 Q s (i.itm F).arg (i.itm S).arg (by rw [f5,f7];exact v) (qf N (fun y b=>?_) q)
   rcases Fc.mp b with h | b
   ·rw [h];exact B
   ·rw [FH.mp b];exact C
theorem xw (k:OpR X (compareOp op) r) (hd:OpD X.K r f) (i:OpR X (compareOp op') r') (d:OpD X.K r' f') (e:RE X G0 W0 a ma) (g:RE X G0 W0 b mb) (j:RE X G0 W0 c mc) (h:PE X a (tE X.K G0 W0 ma)->PE X b (tE X.K G0 W0 mb)->PE X c (tE X.K G0 W0 mc)->PE X (.Compare a [op,op'] [b,c] pos) (qI r r' (tE X.K G0 W0 ma) (tE X.K G0 W0 mb) (tE X.K G0 W0 mc))):RE X G0 W0 (.Compare a [op,op'] [b,c] pos) (fm f f' ma mb mc):=⟨PE.imp (h e.h g.h j.h) fun _ _ _ h=>wz hd d h⟩
theorem kS (d:OpR X (compareOp op) r) (hd:OpD X.K r f) (c:RE X G0 W0 a ma) (e:RE X G0 W0 b mb) (hm:behindInMarks op b=false):RT X G0 W0 (.Compare a [op] [b] pos) (cB (ah f ma mb)):=⟨PT.imp (AJ d c.h e.h hm) fun _ _ _ h=>kI hd (tT_b h)⟩
def gj (n:Nat):List D->List D
 | []=>[]
 | d :: ds=>.tup [.int n,d] :: gj (n+1) ds
theorem jH:∀ {ds:List D} {n i:Nat},(gj n ds)[i]?=(ds[i]?).map fun d=>.tup [.int ((n+i:Nat):Int),d]
 | [],n,i=>by simp [gj]
 | d :: ds,n,0=>by simp [gj]
 | d :: ds,n,i+1=>by
  show (gj (n+1) ds)[i]?=_
  rw [jH]
  simp only [List.getElem?_cons_succ]
  rw [show n+1+i=n+(i+1) by lia]
theorem jG:∀ {ds:List D} {n:Nat},(gj n ds).length=ds.length
 | [],_=>rfl
 | d :: ds,n=>by simp [gj,jG]
def lq (ms:M3 (List R3)):IM:=af ms fun rs=>af (cG rs) fun ds=>aV (match ds with
 | [.lst xs]=>some (rs,gj 0 xs)
 | _=>none)
theorem zZ (h:tI K G0 W0 (lq ms) σ H R):Ct K (tA K G0 W0 ms) σ H R:=by
 obtain ⟨G,W,le,ρ,T,g,o,ρ',w,e,q⟩:=h
 have m:∀ x,o=.error x->W x ρ':=fun x l=>by subst l;exact q
 refine tA.seq le w e m fun rs ρ1 e1 j H1 Ts g1 C a1=>?_
 obtain ⟨ds,d1,t⟩:=bB e1
 obtain ⟨p,n,rfl,rfl⟩:=bv t
 have inv:∃ xs,ds=[.lst xs]/\p=(rs,gj 0 xs):=by
  split at n
  ·cases n;exact ⟨_,rfl,rfl⟩
  ·exact nsE n
 obtain ⟨xs,rfl,rfl⟩:=inv
 match rs,d1,a1,q with
 | [],d1,_,_=>cases d1
 | r :: r' :: rs,d1,_,_ =>
  obtain ⟨_,_,f⟩:=aI (k:=fun d=>af (cG (r' :: rs)) fun ds=>aO (d :: ds)) d1
  obtain ⟨ab,e6,e7⟩:=bB f
  obtain ⟨_,_,e8⟩:=aI (k:=fun d=>af (cG rs) fun ds=>aO (d :: ds)) e6
  obtain ⟨ax,_,e9⟩:=bB e8
  cases e9
  cases e7
 | [r],d1,a1,q =>
  obtain ⟨d,E,f⟩:=aI (k:=fun d=>af (cG []) fun ds=>aO (d :: ds)) d1
  have hd:d=.lst xs:=by
   have f:some ((.ok [d],ρ'):Except D (List D) × Sto)=some (.ok [.lst xs],ρ'):=f
   cases f;rfl
  subst hd
  cases a1 with
  | @cons _ v Ts1 _ vs1 Us1 a as =>
   cases as with
   | nil =>
    obtain ⟨y,P,y2,I⟩:=Ar.item2 (T:=T) (by simpa using C) a E
    have Z:Itm (([] ++ Ts1) ++ T) g1 y:=by
     rcases I with ⟨i,_,ei⟩ | h
     ·exact .inl ⟨i,ei⟩
     ·exact .inr (by simpa using Fa T h)
    have U:=(C.itm Z).arg
    have qq:∀ J,Walk K J H1 [y] (gj 0 xs)->R J H1:=fun J hw=>q J H1 [v] ([] ++ Ts1) g1 [y] C (.cons a .nil) (fun z hz=>by
     rw [FH.mp hz]
     rcases I with h | h
     ·exact .inl h
     ·exact .inr (by simpa using h)) hw
    clear q
    subst y2
    have A:=U
    obtain ⟨yd,Y,yL,yf⟩:=y
    obtain ⟨F,oo⟩:=U
    dsimp only at F P
    subst P
    cases F with
    | @lst _ pa j La ha rs =>
     refine ⟨pa,rfl,⟨_,SqL.of ha⟩,qq _ ?_⟩
     obtain ⟨ws,h1,h2,h3⟩:=Reps.split rs
     refine ⟨ws,fun x l=>⟨(h3 x l).1,(h3 x l).2.1,fun c B=>nZ (y:=⟨.lst xs,.ref pa,pa :: La,yf⟩) E6 A rfl rfl c ((h3 x l).2.2 c B)⟩,fun M H' hm O Q=>?_⟩
     have sq:SqL K H' pa j:=SqL.of (O pa _ ha (Q _ E6 pa E6))
     refine ⟨fun i d hd=>?_,by rw [jG];exact ⟨j,sq,by rw [<- rs.len];exact Fq _⟩⟩
     rw [jH] at hd
     obtain ⟨V,s,rfl⟩:=E9.mp hd
     have hw:∃ u,ws[i]?=some u/\u.d=V:=by
      rw [<- h1,Fp] at s
      obtain ⟨u,a,b⟩:=E9.mp s
      exact ⟨u,a,b⟩
     obtain ⟨u,N,ud⟩:=hw
     have S:j[i]?=some u.v:=by rw [<- h2,Fp,N];rfl
     have hu:=Fj N
     refine ⟨⟨j,u.v,sq,S⟩,fun x X ⟨Tt,Y,e1,t,n,E⟩=>?_⟩
     have f:=E j sq
     rw [S] at f
     cases f
     subst e1 n
     have ru:Rep K H' u.d u.v u.L:=(h3 u hu).2.1.keep O hm fun b hb=>Q _ E6 b (E7 _ ((h3 u hu).2.2 b hb))
     refine ⟨⟨.tup [.int ((0+i:Nat):Int),V],.ref Tt,[] ++ (u.L ++ []),.z⟩,x4 t (.cons (L:=[]) (by rw [Fz];exact .int _) (.cons (by rw [<- ud];exact ru) .nil)) (fun c B=>⟨u,hu,by simpa using B⟩),rfl,rfl,rfl⟩
theorem Ay {k:Nat} (d:Gl X "enumerate") (hm:X.mg "enumerate"=none) (b:RA X G0 W0 [a] ms) (c:starEach [a] X.env=[(false,eval a X.env)]):RI X G0 W0 (.Tuple elts k tp) (.Call (.Name "enumerate" p) [a] [] pos) (lq ms):=⟨PI.imp (AU d hm b.h c) fun _ _ _ h=>zZ h⟩
end
end L3
namespace L3
theorem AN {i:Nat} (h:mask.length<=i):prM mask i=false:=by
 unfold prM
 rw [List.getElem?_eq_none h]
end L3
end
section
namespace L3
open PySem L2
structure Bl (mg:Str->Option Value):Prop where
 len:mg "len"=none
 range:mg "range"=none
 abs:mg "abs"=none
 divmod:mg "divmod"=none
 enumerate:mg "enumerate"=none
 tuple:mg "tuple"=none
 isinstance:mg "isinstance"=none
 int:mg "int"=none
 bool:mg "bool"=none
 all:mg "all"=none
 str:mg "str"=none
 max:mg "max"=none
 min:mg "min"=none
 list:mg "list"=none
 dict:mg "dict"=none
 repr:mg "repr"=none
 sorted:mg "sorted"=none
 set:mg "set"=none
 zip:mg "zip"=none
 reversed:mg "reversed"=none
theorem b_len:bootBuiltins "len"=some (.builtin "len"):=by decide +kernel
theorem b_abs:bootBuiltins "abs"=some (.builtin "abs"):=by decide +kernel
theorem zw:bootBuiltins "divmod"=some (.builtin "divmod"):=by decide +kernel
theorem uj:bootBuiltins "tuple"=some (.type "tuple"):=by decide +kernel
theorem oF:bootBuiltins "isinstance"=some (.builtin "isinstance"):=by decide +kernel
theorem b_int:bootBuiltins "int"=some (.type "int"):=by decide +kernel
theorem EU:bootBuiltins "bool"=some (.type "bool"):=by decide +kernel
theorem b_all:bootBuiltins "all"=some (.builtin "all"):=by decide +kernel
theorem ul:bootBuiltins "max"=some (.builtin "max"):=by decide +kernel
theorem uk:bootBuiltins "min"=some (.builtin "min"):=by decide +kernel
theorem ET:bootBuiltins "list"=some (.type "list"):=by decide +kernel
theorem ES:bootBuiltins "repr"=some (.builtin "repr"):=by decide +kernel
theorem qz:bootBuiltins "sorted"=some (.builtin "sorted"):=by decide +kernel
theorem b_set:bootBuiltins "set"=some (.type "set"):=by decide +kernel
end L3
end
section
namespace L3
open PySem L2
section
variable {K:FG} {G G0:Gm} {W W0:D->Sto->Prop} {H H':Hp} {σ:St} {ρ ρ':Sto} {T T':List It3} {g:Nat->Option It3} {x y z:It3} {α β:Type} {X:Cx} {L:List Addr}
theorem sH (h:tE K G0 W0 m σ H Q) (f:∀ v H,Q v H->Q' v H):tE K G0 W0 m σ H Q':=by
 refine h.use fun G W le ρ T g o ρ' w e q=>?_
 refine tE.mk le w e ?_
 cases o with
 | ok r=>exact fun v H' g=>f v H' (q v H' g)
 | error x=>exact q
def mW:D->Option String
 | .non=>some "NoneType" | .bl _=>some "bool" | .int _=>some "int" | .str _=>some "str"
 | .tup _=>some "tuple" | .lst _=>some "list" | .fls _=>some "list" | .dk _=>some "dict" | .dt _=>some "dict" | .exc _ _=>none
def jB (t:String) (d:D):Option (D × Fl):=(mW d).map fun k=>(.bl (kg k t),.z)
theorem Rep.kind (r:Rep K H d v L) (e:mW d=some k):KindOf K H v k:=by
 cases r with
 | non=>cases e;exact .non
 | bl b=>cases e;exact .bool b
 | int i=>cases e;exact .int i
 | str s=>cases e;exact .str s
 | tup h _=>cases e;exact .tuple (SqT.of h)
 | lst h _=>cases e;exact .list (SqL.of h)
 | lstF h _=>cases e;exact .list h.sq
 | dK h _ _=>cases e;exact .dK h
 | dT h _ _=>cases e;exact .dT h
 | exc _ _=>cases e
theorem qX (l:CallR X (.builtin "isinstance") (fun xs H Q=>∃ x k,xs=[x,.ty t]/\KindOf X.K H x k/\Q (.bl (kg k t)) H)) (f:Gl X "isinstance") (hm:X.mg "isinstance"=none) (j:PE X (.Name tn pT) (tC (.ty t))) (i:RE X G0 W0 a ma) (b:starEach [a,.Name tn pT] X.env=(false,eval a X.env) :: starEach [.Name tn pT] X.env) (d:starEach [.Name tn pT] X.env=(false,eval (.Name tn pT) X.env) :: starEach [] X.env) (c:(backTo pos (starEach [.Name tn pT] X.env)).any (·.1)=false):RE X G0 W0 (.Call (.Name "isinstance" p) [a,.Name tn pT] [] pos) (mUn (jB t) ma) :=
 ⟨PE.imp (iX l f hm oF (iZ i.h (iZ j nP d) b) (by decide) (by decide) b c) fun σ H Q h=>by
  have h:=B3 (r:=fun x H Q=>∃ k,KindOf X.K H x k/\Q (.bl (kg k t)) H) (fun a H Q p ra e q=>by
   obtain ⟨k,h1,h2⟩:=E9.mp e
   subst h2
   exact ⟨k,ra.rep.kind h1,q ⟨.bl (kg k t),.bl (kg k t),[],.z⟩ H (b9 (.bl _)) rfl rfl⟩) h
  refine sH h fun x H1 ⟨k,g,q⟩=>?_
  exact ⟨x,k,rfl,g,q⟩⟩
def yJ:D->Option Key
 | .int i=>some (.inl i)
 | .str s=>some (.inr s)
 | _=>none
def dX:List D->Option (List Key)
 | []=>some []
 | d :: ds=>match yJ d,dX ds with
  | some k,some ks=>some (k :: ks)
  | _,_=>none
theorem vv (r:Rep K H d v L) (e:yJ d=some k):v=kV k:=by
 cases r <;> cases e <;> rfl
theorem gh:∀ {ds:List D} {a:List V} {L:List Addr} {ks:List Key},Reps (Rep K H) ds a L->dX ds=some ks->a=ks.map kV
 | _,_,_,ks,.nil,e=>by cases e;rfl
 | _,_,_,ks,.cons (d:=d) (ds:=ds) r rs,e=>by
  unfold dX at e
  cases h1:yJ d with
  | none=>rw [h1] at e;exact nsE e
  | some k =>
   cases h2:dX ds with
   | none=>rw [h1,h2] at e;exact nsE e
   | some ks' =>
    rw [h1,h2] at e
    cases e
    rw [vv r h1,gh rs h2];rfl
def dD (kvs:List (List Key × D)) (k:List Key):Option D:=(kvs.find? fun a=>decide (a.1=k)).map (·.2)
def fP (kvs:List (List Key × D)) (k:List Key) (v:D):List (List Key × D) :=
 if (kvs.any fun a=>decide (a.1=k))=true then kvs.map (fun a=>if a.1=k then (a.1,v) else a) else kvs ++ [(k,v)]
theorem qb:∀ {kvs:List (List Key × D)} {ps:List (List Key × V)} {L:List Addr} {k:List Key} {d:D},kvs.map (·.1)=ps.map (·.1)->Reps (Rep K H) (kvs.map (·.2)) (ps.map (·.2)) L->dD kvs k=some d->∃ v L',kb ps k=some v/\Rep K H d v L'/\∀ c ∈ L',c ∈ L
 | [],ps,L,k,d,hk,r,e=>by cases e
 | f :: kvs,[],L,k,d,hk,r,e=>by cases hk
 | f :: kvs,p :: ps,L,k,d,hk,r,e=>by
  have b:f.1=p.1/\kvs.map (·.1)=ps.map (·.1):=by simpa using hk
  generalize i:(f :: kvs).map (·.2)=xs at r
  generalize j:(p :: ps).map (·.2)=ys at r
  cases r with
  | nil=>cases i
  | cons a as =>
   cases i
   cases j
   unfold dD at e
   rw [List.find?_cons] at e
   by_cases h:f.1=k
   ·rw [Fv h] at e
    cases e
    exact ⟨_,_,iK (b.1.symm.trans h),a,fun c g=>Fa _ g⟩
   ·rw [Fw h] at e
    obtain ⟨v,L',h1,h2,h3⟩:=qb b.2 as e
    exact ⟨v,L',by rw [iL (fun z=>h (b.1.trans z))];exact h1,h2,fun c g=>Fb _ (h3 c g)⟩
def j8:D->D->Option (D × Fl)
 | .dt kvs,.tup ks=>match dX ks with
  | some k=>(dD kvs k).map fun d=>(d,.z)
  | none=>none
 | _,_=>none
def s9:R2:=fun x y H Q=>∃ a v,x=.ref a/\DGet H a y (some v)/\Q v H
theorem Bb:OpD K s9 j8:=fun a b H Q p ra rb e q=>by
 obtain ⟨da,B,x,j⟩:=a
 obtain ⟨db,r,w,u⟩:=b
 have g:=ra
 obtain ⟨ra,A⟩:=ra
 obtain ⟨rb,ob⟩:=rb
 dsimp only at ra rb e
 cases da with
 | dt kvs =>
  obtain ⟨f,ps,o,rfl,rfl,m,l,rs⟩:=ra.view
  cases db with
  | tup ks =>
   obtain ⟨s,ws,rfl,i,h⟩:=rb.view
   have e:(match dX ks with | some k=>(dD kvs k).map fun d=>(d,Fl.z) | none=>none)=some p:=e
   cases h1:dX ks with
   | none=>rw [h1] at e;exact nsE e
   | some k =>
    rw [h1] at e
    obtain ⟨d,h2,h3⟩:=E9.mp (show (dD kvs k).map (fun d=>(d,Fl.z))=some p from e)
    subst h3
    have hw:=gh h h1
    subst hw
    obtain ⟨v,L',g1,g2,g3⟩:=qb l rs h2
    refine ⟨f,v,rfl,by rw [<- g1];exact DGet.t m i,q ⟨d,v,L',.z⟩ H (pJ g2 fun c n=>?_) rfl rfl⟩
    exact nZ (y:=⟨.dt kvs,.ref f,f :: o,j⟩) E6 g rfl rfl c (g3 c n)
  | _=>exact nsE e
 | _=>exact nsE e
open PySem.Spec PyProof.Rows in
theorem BH (hu:X.A.units+1 < cLine):IxR X s9:=by
 intro value slice pins s σ H x y v u Q I d e h j
 obtain ⟨a,w,rfl,g,q⟩:=h
 cases d
 have c:=qg I g
 unfold subscriptTail
 refine E3 ?_
 rw [getitemInPython_of_ne c.not_modules]
 refine E3 (wpAny_specialOf c PySem.F.slot_dict_getitem.lookup ?_)
 have fin:wpAny (model X.prog X.w) X.A (subscripted slice false (.ref a) u) (fun r f=>wpAny (model X.prog X.w) X.A (letTemporaryGo value (.ref a) r >>= fun _=>pure r) (EP X pins σ Q) X.xe f) X.xe s:=by
  rw [j]
  exact wpAny_operating (vI hu I g e fun k s3 i b=>E3 (wpAny_letTemporaryGo (E4 ⟨w,H,i,b,q⟩)))
 first
  | exact E4 (E3 fin)
  | exact E3 (E4 (E3 fin))
  | exact E3 fin
abbrev aB:=orD ixD j8
theorem Ec:OpD K (fun x y H Q=>(xE K x y H Q\/xD K x y H Q)\/s9 x y H Q) aB:=od_ix.or Bb
theorem Ex (hu:X.A.units+1 < cLine):IxR X (fun x y H Q=>(xE X.K x y H Q\/xD X.K x y H Q)\/s9 x y H Q):=ix_ok.or (BH hu)
def rK:EM:=aO (.val (.dt []) .u)
theorem xu:RE X G0 W0 (.Dict [] [] pos) rK:=⟨PE.imp xQ fun σ H Q h=>by
 refine h.use fun G W le ρ T g o ρ' w e q=>?_
 cases e
 intro p a
 refine q _ _ (Wf.done (Us:=[]) (ys:=[]) (x:=⟨.dt [],.ref p,[p],.u⟩) w (fun _ h=>(by cases h)) ⟨bm a,.dT aT rfl .nil,fun c b=>?_,fun _=>⟨rfl,p,[],rfl,rfl,(by simp),a⟩⟩)
 rw [FH.mp b];exact .inl a⟩
def jS:D->List D->Option (D × D)
 | .dt kvs,[.tup ks,v]=>match dX ks with
  | some k=>if kvs.length < 16777216 then some (.dt (fP kvs k v),.non) else none
  | none=>none
 | _,_=>none
def sX:E1:=fun o i v H Q=>∃ a H',o=.ref a/\DPut H a i v H'/\Q H'
theorem wQ (hu:X.A.units+1 < cLine):zG X sX:=by
 intro pins s σ H o i v j f u Q I d b e h
 obtain ⟨a,H',rfl,g,q⟩:=h
 cases d
 exact vH hu I g b e fun s' c=>⟨H',c,q⟩
theorem pA:∀ {kvs:List (List Key × D)} {ps:List (List Key × V)} {L L':List Addr} {k:List Key} {d:D} {v:V},kvs.map (·.1)=ps.map (·.1)->Reps (Rep K H) (kvs.map (·.2)) (ps.map (·.2)) L->Rep K H d v L' ->
  ∃ L2,Reps (Rep K H) ((kvs.map fun b=>if b.1=k then (b.1,d) else b).map (·.2)) ((ps.map fun b=>if b.1=k then (b.1,v) else b).map (·.2)) L2/\(∀ c ∈ L2,c ∈ L\/c ∈ L')
 | [],[],L,L',k,d,v,hk,r,rd=>⟨[],.nil,fun c f=>by cases f⟩
 | [],_ :: _,_,_,_,_,_,hk,_,_=>by cases hk
 | _ :: _,[],_,_,_,_,_,hk,_,_=>by cases hk
 | b :: kvs,p :: ps,L,L',k,d,v,hk,r,rd=>by
  have e:b.1=p.1/\kvs.map (·.1)=ps.map (·.1):=by simpa using hk
  generalize g:(b :: kvs).map (·.2)=xs at r
  generalize i:(p :: ps).map (·.2)=ys at r
  cases r with
  | nil=>cases g
  | @cons _ _ L1 _ _ L1' a as =>
   cases g
   cases i
   obtain ⟨L2,h1,h2⟩:=pA (k:=k) e.2 as rd
   by_cases h:b.1=k
   ·refine ⟨L' ++ L2,?_,fun c f=>?_⟩
    ·simp only [Fu,if_pos h,if_pos (e.1.symm.trans h)]
     exact .cons rd h1
    ·rcases Ff.mp f with z | z
     ·exact .inr z
     ·rcases h2 c z with y | y
      ·exact .inl (Fb _ y)
      ·exact .inr y
   ·refine ⟨L1 ++ L2,?_,fun c f=>?_⟩
    ·simp only [Fu,if_neg h,if_neg (fun z=>h (e.1.trans z))]
     exact .cons a h1
    ·rcases Ff.mp f with z | z
     ·exact .inl (Fa _ z)
     ·rcases h2 c z with y | y
      ·exact .inl (Fb _ y)
      ·exact .inr y
theorem zA {kvs:List (List Key × D)} {ps:List (List Key × V)} (b:kvs.map (·.1)=ps.map (·.1)):(kvs.any fun a=>decide (a.1=k))=ps.any fun a=>decide (a.1=k):=by
 have h1:(kvs.any fun a=>decide (a.1=k))=(kvs.map (·.1)).any fun x=>decide (x=k):=by rw [List.any_map];rfl
 grind
theorem pU {kvs:List (List Key × α)} {d:α}:(kvs.map fun a=>if a.1=k then (a.1,d) else a).map (·.1)=kvs.map (·.1):=by
 rw [FQ]
 refine FR fun a _=>?_
 grind
theorem put1 (a:D):jS (.dt kvs) [a]=none:=by cases a <;> rfl
theorem put3' (a:D):jS (.dt kvs) (a :: b :: c :: r)=none:=by cases a <;> rfl
set_option tactic.hygienic true in
theorem Bq:MutD K (kY sX) jS:=fun a d s as H Q p r m na ra n e q=>by
 cases d with
 | dt kvs =>
  obtain ⟨_,ps,_,e1,C,w,i,rs⟩:=r.view
  cases e1
  cases C
  match as,e,ra,n with
  | [],e,_,_=>exact nsE e
  | [y],e,_,_=>exact nsE ((put1 y.d).symm.trans e)
  | y :: _ :: _ :: _,e,_,_=>exact nsE ((put3' y.d).symm.trans e)
  | [k,y],e,ra,n =>
   have x:=ra k E6
   have A:=ra y (E7 _ E6)
   have F:=n y (E7 _ E6)
   obtain ⟨kd,J,G,I⟩:=k
   dsimp only at x
   cases kd with
   | tup ks =>
    obtain ⟨E,ws,rfl,f,u⟩:=x.view
    have e:(match dX ks with | some k=>if kvs.length < 16777216 then some (D.dt (fP kvs k y.d),D.non) else none | none=>none)=some p:=e
    cases h1:dX ks with
    | none=>rw [h1] at e;exact nsE e
    | some key =>
     rw [h1] at e
     dsimp only at e
     split at e
     ·rename_i B
      cases e
      have hw:=gh u h1
      subst hw
      have hlen:kvs.length=ps.length:=by have:=congrArg List.length i;simpa using this
      refine ⟨.ref E,y.v,rfl,a,_,rfl,DPut.t w f (by rw [<- hlen,<- szl];exact B),?_⟩
      have ma:MutAt H a:=.inr (.inr ⟨_,w⟩)
      have g:Rep K (upd H a (.dT (ff ps key y.v))) y.d y.v y.L:=A.keep (M:=fun b=>b=a) (fun b o f h=>by rw [au h];exact f) (fun b e=>by rw [e];exact ma) fun b f e=>F (by rw [<- e];exact f)
      have keeps:Reps (Rep K (upd H a (.dT (ff ps key y.v)))) (kvs.map (·.2)) (ps.map (·.2)) s:=rs.keep (M:=fun b=>b=a) (fun b o f h=>by rw [au h];exact f) (fun b e=>by rw [e];exact ma) fun b f e=>na (by rw [<- e];exact f)
      have fin:∃ l,Reps (Rep K (upd H a (.dT (ff ps key y.v)))) ((fP kvs key y.d).map (·.2)) ((ff ps key y.v).map (·.2)) l/\(∀ c ∈ l,c ∈ s\/c ∈ y.L)/\(fP kvs key y.d).map (·.1)=(ff ps key y.v).map (·.1):=by
       generalize upd H a (HO.dT (ff ps key y.v))=H2 at keeps g ⊢
       unfold fP ff
       rw [zA i]
       split
       ·obtain ⟨L2,g1,g2⟩:=pA (k:=key) i keeps g
        exact ⟨L2,g1,g2,by rw [pU,pU];exact i⟩
       ·refine ⟨s ++ (y.L ++ []),?_,fun c j=>?_,by rw [List.map_append,List.map_append,i];rfl⟩
        ·rw [List.map_append,List.map_append]
         exact keeps.append (.cons g .nil)
        ·rcases Ff.mp j with z | z
         ·exact .inl z
         ·rw [List.append_nil] at z;exact .inr z
      obtain ⟨l,g1,g2,g3⟩:=fin
      exact q (.dT (ff ps key y.v)) l ⟨.non,.non,[],.z⟩ (.dT aT g3 g1) rfl (fun c j=>(g2 c j).imp id fun h=>⟨y,E7 _ E6,h⟩) rfl rfl .non fun c j=>by cases j
     ·exact nsE e
   | _=>exact nsE e
 | _=>exact nsE e
def rg (f g:D->List D->Option (D × D)) (a:D) (b:List D):Option (D × D):=match f a b with
 | some p=>some p
 | none=>g a b
theorem MutD.or {f g:D->List D->Option (D × D)} (h:MutD K r f) (h':MutD K r' g):MutD K (fun x y H Q=>r x y H Q\/r' x y H Q) (rg f g):=fun a d c as H Q p r m na ra i e q=>by
 unfold rg at e
 cases b:f d (as.map (·.d)) with
 | some p'=>rw [b] at e;cases e;exact .inl (h a d c as H Q _ r m na ra i b q)
 | none=>rw [b] at e;exact .inr (h' a d c as H Q p r m na ra i e q)
abbrev uJ:=rg o3 jS
theorem yi:MutD K (kY fun o i v H Q=>sW o i v H Q\/sX o i v H Q) uJ:=fun a d b as H Q p r m na ra c e q=>by
 rcases MutD.or Bp Bq a d b as H Q p r m na ra c e q with ⟨k,v,h1,h2⟩ | ⟨k,v,h1,h2⟩
 ·exact ⟨k,v,h1,.inl h2⟩
 ·exact ⟨k,v,h1,.inr h2⟩
theorem sM (hu:X.A.units+1 < cLine):zG X (fun o i v H Q=>sW o i v H Q\/sX o i v H Q):=by
 intro pins s σ H o i v e d u Q I b a c h
 rcases h with h | h
 ·exact wO pins s σ H o i v e d u Q I b a c h
 ·exact wQ hu pins s σ H o i v e d u Q I b a c h
end
end L3
end
section
namespace L3
open PySem L2
section
open PySem.Spec PyProof.Rows HT
variable {prog:Program} {w:World} {A:Around} {E:Value->Shared->Prop} {s:Shared}
theorem ic {lo hi:Option Int} (a:IsTup s.heap t items) (e:s.heap.IsSliceOf sl vl vu .none) (pl:IsPart vl lo) (pu:IsPart vu hi) (hw:sIx items.size 0 lo=0/\sIx items.size items.size hi=items.size) (h:Q (.ref t) s) (hsz:items.size<=sizeLine):wpAny (model prog w) A (getItem (.ref t) (.ref sl)) Q E s:=by
 obtain ⟨os,c,b,f⟩:=id e
 have d:s.TypeIs (.ref sl) "slice":=⟨os,c,b⟩
 unfold getItem
 try with_reducible refine E5 ?_
 first | refine E3 (E4 ?_) | skip
 refine E3 (wpAny_sequenceKey a.typeIs (by decide) ?_)
 refine E3 (wpAny_callSpecial?_slot (name:=Str.ofString "__getitem__") a.typeIs PyProof.Rows.slot_tuple_getitem
  (wpAny_call_entry PyProof.Rows.slot_tuple_getitem a.typeIs entry_tuple_getitem ?_ (args_tuple_getitem _ _)))
 show wpAny _ _ (Builtin.Tuple.tupleItemsOf (.ref t) >>= _) _ _ s
 refine E3 (tupleItemsOf_ a ?_)
 refine E3 (wpAny_typeOf d ?_)
 rw [if_pos (by decide)]
 refine E3 (dZ e pl pu ?_)
 show wpAny _ _ (if (((sIx items.size 0 lo:Nat):Int) == 0 && (1:Int) == 1 && (sIx items.size items.size hi - sIx items.size 0 lo) == items.size)=true then _ else _) _ _ s
 rw [if_pos (by simp [hw.1,hw.2])]
 refine E3 ?_
 unfold Builtin.Tuple.tupleIsExact
 refine E3 (wpAny_typeOf a.typeIs ?_)
 refine E4 ?_
 rw [if_pos (by decide)]
 exact E3 (wpAny_rule (E4 ⟨_,rfl,E4 h⟩))
end
section
variable {K:FG} {G G0:Gm} {W W0:D->Sto->Prop} {H H':Hp} {σ:St} {ρ ρ':Sto} {T T':List It3} {g:Nat->Option It3} {x y z:It3} {α β:Type} {X:Cx} {L:List Addr}
def xA (K:FG):V->Option Int->Option Int->Hp->VK->Prop:=fun x lo hi H Q=>∃ a xs,x=.ref a/\SqT K H a xs/\(HT.sIx xs.length 0 lo=0/\HT.sIx xs.length xs.length hi=xs.length)/\Q (.ref a) H
theorem z8:SlR X (xA X.K):=by
 intro pins s σ H x v vl f lo hi sl Q I c e pl pu h
 obtain ⟨a,xs,rfl,d,hw,q⟩:=h
 cases c
 obtain ⟨its,r,b,hz⟩:=I.tuple d
 have hlen:its.toArray.size=xs.length:=by rw [Ft];exact r.length.symm
 refine ⟨"tuple",_,PyProof.Rows.slot_tuple_getitem.lookup,b.typeIs,?_⟩
 exact ic b e pl pu (by rw [hlen];exact hw) ⟨.ref a,H,I,rfl,q⟩ (by rw [hlen];exact hz)
def asI:D->Option Int
 | .int i=>some i
 | _=>none
def mM:M3 (Option Int):=aO none
def mL (m:EM):M3 (Option Int):=af m fun r=>af (der r) fun d=>aV ((asI d).map some)
def EndP (K:FG) (G:Gm) (W:D->Sto->Prop) (σ:St) (T:List It3) (ρ':Sto) (Q:Option Int->Hp->Prop):Except D (Option Int)->Prop
 | .ok b=>∀ H' g',Wf K G H' σ ρ' T g'->Q b H'
 | .error e=>W e ρ'
def tP (K:FG) (G0:Gm) (W0:D->Sto->Prop) (m:M3 (Option Int)):TO:=fun σ H Q=>∃ G W,Le K G W G0 W0/\∃ ρ T g r ρ',Wf K G H σ ρ T g/\m ρ=some (r,ρ')/\EndP K G W σ T ρ' Q r
structure RP (X:Cx) (G0:Gm) (W0:D->Sto->Prop) (e:Option Expr) (m:M3 (Option Int)):Prop where
 h:PO X e (tP X.K G0 W0 m)
theorem PO.imp (h:PO X e t) (f:∀ σ H Q,t' σ H Q->t σ H Q):PO X e t':=fun pins s σ H Q I q=>h pins s σ H Q I (f σ H Q q)
theorem Aq:RP X G0 W0 none mM:=⟨PO.imp AQ fun σ H Q h=>by
 obtain ⟨G,W,le,ρ,T,g,r,ρ',w,e,q⟩:=h
 cases e
 exact q _ _ w⟩
theorem Ap (h:RE X G0 W0 e m):RP X G0 W0 (some e) (mL m):=⟨PO.imp (AO h.h) fun σ H Q h=>by
 obtain ⟨G,W,le,ρ,T,g,r,ρ',w,e,q⟩:=h
 have a:∀ x,r=.error x->W x ρ':=fun x c=>by subst c;exact q
 refine tE.seq le w e a fun ra ρ1 e1 v H1 ⟨Ts,g1,f,a1⟩=>?_
 obtain ⟨d,d1,k⟩:=aI e1
 obtain ⟨o,l,rfl,rfl⟩:=bv k
 obtain ⟨i,p,n⟩:=E9.mp l
 subst n
 obtain ⟨y,j,f1,f2⟩:=a1.item f (fun x c=>Fa _ c) d1
 have b:=(f.itm j).rep
 rw [f1] at b
 have hd:d=.int i:=by cases d <;> cases p;rfl
 rw [hd] at b
 refine ⟨i,by rw [<- f2];exact b.int_inv,q _ _ (f.sub (Fm Ts T))⟩⟩
def mSl (f:D->Option Int->Option Int->Option (D × Fl)) (ma:EM) (pl pu:M3 (Option Int)):EM:=af ma fun ra=>af pl fun lo=>af pu fun hi=>af (der ra) fun d=>aV ((f d lo hi).map fun p=>R3.val p.1 p.2)
def SlD (K:FG) (r:V->Option Int->Option Int->Hp->VK->Prop) (f:D->Option Int->Option Int->Option (D × Fl)):Prop:=∀ (a:It3) (lo hi:Option Int) (H:Hp) (Q:VK) (p:D × Fl),Arg K H a->f a.d lo hi=some p ->
 (∀ w H',New K H H' (cZ [a]) w->w.d=p.1->w.f=p.2->Q w.v H')->r a.v lo hi H Q
theorem tP.seq (le:Le K G W G0 W0) (w:Wf K G H σ ρ T g) (e:af ma k ρ=some (r,ρ')) (he:∀ x,r=.error x->W x ρ') (h:∀ b ρ1,k b ρ1=some (r,ρ')->∀ H1 g1,Wf K G H1 σ ρ1 T g1->P b H1):tP K G0 W0 ma σ H P:=by
 unfold af at e
 cases q:ma ρ with
 | none=>rw [q] at e;exact nsE e
 | some p =>
  obtain ⟨o,ρ1⟩:=p
  rw [q] at e
  cases o with
  | error x=>cases e;exact ⟨G,W,le,ρ,T,g,.error x,ρ',w,q,he x rfl⟩
  | ok ra=>exact ⟨G,W,le,ρ,T,g,.ok ra,ρ1,w,q,h ra ρ1 e⟩
theorem tE_sl (hd:SlD K r f) (h:tE K G0 W0 (mSl f ma pl pu) σ H Q):tSl r (tE K G0 W0 ma) (tP K G0 W0 pl) (tP K G0 W0 pu) σ H Q:=by
 refine h.use fun G W le ρ T g o ρ' w e q=>?_
 refine tE.seq le w e q.err fun ra ρ1 e1 v H1 ⟨Ts,g1,t,a1⟩=>?_
 refine tP.seq le t e1 q.err fun lo ρ2 k H2 g2 j=>?_
 refine tP.seq le j k q.err fun hi ρ3 l m g3 c=>?_
 obtain ⟨d,d1,u⟩:=aI l
 obtain ⟨p,a,rfl,rfl⟩:=bv u
 obtain ⟨y,i,f1,f2⟩:=a1.item c (fun x n=>Fa _ n) d1
 subst f1 f2
 cases b:f y.d lo hi with
 | none=>rw [b] at a;exact nsE a
 | some s =>
  rw [b] at a
  cases a
  exact hd y lo hi m Q s (c.itm i).arg b (qf c (fun z hz=>by rw [FH.mp hz];exact i) q)
theorem Reps.take:∀ {ds:List D} {b:List V} {L:List Addr} (n:Nat),Reps (Rep K H) ds b L->∃ L',Reps (Rep K H) (ds.take n) (b.take n) L'/\∀ c ∈ L',c ∈ L
 | _,_,_,0,_=>⟨[],by simpa using Reps.nil,fun c a=>by cases a⟩
 | _,_,_,n+1,.nil=>⟨[],by simpa using Reps.nil,fun c a=>by cases a⟩
 | _,_,_,n+1,.cons (L:=L1) r rs=>by
  obtain ⟨L',h1,h2⟩:=Reps.take n rs
  exact ⟨L1 ++ L',by simpa using Reps.cons r h1,fun c a=>by
   rcases Ff.mp a with h | h
   ·exact Fa _ h
   ·exact Fb _ (h2 c h)⟩
theorem Reps.drop:∀ {ds:List D} {b:List V} {L:List Addr} (n:Nat),Reps (Rep K H) ds b L->∃ L',Reps (Rep K H) (ds.drop n) (b.drop n) L'/\∀ c ∈ L',c ∈ L
 | _,_,L,0,r=>⟨L,by simpa using r,fun c a=>a⟩
 | _,_,_,n+1,.nil=>⟨[],by simpa using Reps.nil,fun c a=>by cases a⟩
 | _,_,_,n+1,.cons r rs=>by
  obtain ⟨L',h1,h2⟩:=Reps.drop n rs
  exact ⟨L',by simpa using h1,fun c a=>Fb _ (h2 c a)⟩
theorem Reps.cut (lo hi:Option Int) (r:Reps (Rep K H) ds vs L):∃ L',Reps (Rep K H) (oh ds lo hi) (qi vs lo hi) L'/\∀ c ∈ L',c ∈ L:=by
 unfold oh qi
 rw [<- r.len]
 obtain ⟨d,h1,h2⟩:=r.drop (HT.sIx ds.length 0 lo)
 obtain ⟨L2,h3,b⟩:=h1.take (HT.sIx ds.length ds.length hi - HT.sIx ds.length 0 lo)
 exact ⟨L2,h3,fun c a=>h2 c (b c a)⟩
def slD:D->Option Int->Option Int->Option (D × Fl)
 | .lst xs,lo,hi=>some (.lst (oh xs lo hi),.u)
 | .fls xs,lo,hi=>some (.lst (oh xs lo hi),.u)
 | .tup xs,lo,hi=>some (.tup (oh xs lo hi),.z)
 | _,_,_=>none
theorem sd_sl:SlD K (fun x lo hi H Q=>Dy K x lo hi H Q\/(Dx K x lo hi H Q\/xA K x lo hi H Q)) slD:=fun a lo hi H Q p ra e q=>by
 obtain ⟨da,n,k,j⟩:=a
 have f:=ra
 obtain ⟨ra,m⟩:=ra
 dsimp only at ra e
 cases da with
 | lst xs =>
  obtain ⟨b,d,l,rfl,rfl,g,rs⟩:=ra.view
  cases e
  obtain ⟨L',h1,h2⟩:=rs.cut lo hi
  exact .inl ⟨b,d,rfl,SqL.of g,fun p i=>q ⟨_,.ref p,p :: L',.u⟩ _ (rB i h1 fun c h=>nZ (y:=⟨.lst xs,.ref b,b :: l,j⟩) E6 f rfl rfl c (h2 c h)) rfl rfl⟩
 | fls xs =>
  obtain ⟨b,d,rfl,g,rs⟩:=ra.view
  cases e
  obtain ⟨L',h1,h2⟩:=rs.cut lo hi
  exact .inl ⟨b,d,rfl,g.sq,fun p i=>q ⟨_,.ref p,p :: L',.u⟩ _ (rB i h1 fun c h=>jz (y:=⟨.fls xs,.ref b,k,j⟩) E6 f rfl c (h2 c h)) rfl rfl⟩
 | tup xs =>
  obtain ⟨b,d,rfl,g,rs⟩:=ra.view
  cases e
  by_cases hw:HT.sIx d.length 0 lo=0/\HT.sIx d.length d.length hi=d.length
  ·have h:oh xs lo hi=xs:=by
    unfold oh
    rw [rs.len,hw.1,hw.2,<- rs.len]
    simp
   rw [h] at q
   exact .inr (.inr ⟨b,d,rfl,SqT.of g,hw,q ⟨.tup xs,.ref b,k,.z⟩ H (pJ (.tup g rs) (jz (y:=⟨.tup xs,.ref b,k,j⟩) E6 f rfl)) rfl rfl⟩)
  ·obtain ⟨L',h1,h2⟩:=rs.cut lo hi
   exact .inr (.inl ⟨b,d,rfl,SqT.of g,hw,fun p i=>q ⟨_,.ref p,L',.z⟩ _ (x4 i h1 fun c h=>jz (y:=⟨.tup xs,.ref b,k,j⟩) E6 f rfl c (h2 c h)) rfl rfl⟩)
 | _=>exact nsE e
theorem C3:SlR X (fun x lo hi H Q=>Dy X.K x lo hi H Q\/(Dx X.K x lo hi H Q\/xA X.K x lo hi H Q)):=sl_list.or (sl_tup.or z8)
theorem xt (he:RE X G0 W0 e m) (a:RP X G0 W0 lo pl) (hu:RP X G0 W0 hi pu):RE X G0 W0 (.Subscript e (.Slice lo hi none p2) pos) (mSl slD m pl pu):=⟨PE.imp (xO C3 he.h a.h hu.h) fun _ _ _ h=>tE_sl sd_sl h⟩
end
end L3
end
section
namespace L3
open PySem L2
mutual
def pyD:D->Option PyData
 | .non=>some .none
 | .bl b=>some (.bool b)
 | .int i=>some (.int i)
 | .str x=>some (.str x)
 | .tup xs=>(d9 xs).map .tuple
 | .lst xs=>(d9 xs).map .list
 | .fls xs=>(d9 xs).map .list
 | .dk _=>none
 | .dt _=>none
 | .exc _ _=>none
def d9:List D->Option (List PyData)
 | []=>some []
 | d :: ds=>match pyD d,d9 ds with
  | some p,some ps=>some (p :: ps)
  | _,_=>none
end
section
variable {K:FG} {H:Hp} {Ks:Addr->Prop} {d:D} {v:V} {L:List Addr} {X:Cx}
set_option tactic.hygienic true in
theorem Rep.dv (r:Rep K H d v L):∀ p,pyD d=some p->DV K H v p:=by
 refine Rep.rec (motive_1:=fun d v _ _=>∀ p,pyD d=some p->DV K H v p) (motive_2:=fun ds b _ _=>∀ ps,d9 ds=some ps->DVs K H b ps) ?_ ?_ ?_ ?_ ?_ ?_ ?_ ?_ ?_ ?_ ?_ ?_ r
 ·intro p e;unfold pyD at e;cases e;exact .non
 ·intro _ p e;unfold pyD at e;cases e;exact .bl _
 ·intro _ p e;unfold pyD at e;cases e;exact .int _
 ·intro _ p e;unfold pyD at e;cases e;exact .str _
 ·intro xs a b L h _ c p e
  unfold pyD at e
  obtain ⟨ps,e1,rfl⟩:=E9.mp e
  exact .tup (SqT.of h) (c ps e1)
 ·intro xs a b L h _ c p e
  unfold pyD at e
  obtain ⟨ps,e1,rfl⟩:=E9.mp e
  exact .lst (SqL.of h) (c ps e1)
 ·intro xs a b L h _ c p e
  unfold pyD at e
  obtain ⟨ps,e1,rfl⟩:=E9.mp e
  exact .lst h.sq (c ps e1)
 ·intro _ _ _ _ _ _ _ _ p e;unfold pyD at e;exact nsE e
 ·intro _ _ _ _ _ _ _ _ p e;unfold pyD at e;exact nsE e
 ·intros;rename_i e;unfold pyD at e;exact nsE e
 ·intro ps e;unfold d9 at e;cases e;exact .nil
 ·intro d v L ds b L' _ _ g f ps e
  unfold d9 at e
  cases h1:pyD d with
  | none=>rw [h1] at e;exact nsE e
  | some p =>
   cases h2:d9 ds with
   | none=>rw [h1,h2] at e;exact nsE e
   | some qs=>rw [h1,h2] at e;cases e;exact .cons (g p h1) (f qs h2)
def eqP (a b:D):Option Bool:=match pyD a,pyD b with
 | some p,some q=>if p.canLay0 && q.canLay0 && decide (min p.depth q.depth<=30) then some (PyData.eqv p q) else none
 | _,_=>none
def eqA (a b:D):Option Bool:=match eqS a b with
 | some k=>some k
 | none=>eqP a b
abbrev eqX (a b:D):Option (D × Fl):=(eqA a b).map fun k=>(.bl k,.z)
abbrev neX (a b:D):Option (D × Fl):=(eqA a b).map fun k=>(.bl (!k),.z)
def rEqP:R2:=fun x y H Q=>∃ p q,DV X.K H x p/\DV X.K H y q/\p.canLay0=true/\q.canLay0=true/\min p.depth q.depth<=30/\Q (.bl (PyData.eqv p q)) H
def rNeP:R2:=fun x y H Q=>∃ p q,DV X.K H x p/\DV X.K H y q/\p.canLay0=true/\q.canLay0=true/\min p.depth q.depth<=30/\Q (.bl (!PyData.eqv p q)) H
theorem xV (hu:X.A.units+64 < cLine):OpR X (compareOp .Eq) (fun x y H Q=>rEq x y H Q\/rEqP (X:=X) x y H Q):=by
 intro pins s σ H x y v u Q I a b h
 rcases h with h | ⟨p,q,h1,h2,h3,c,e,d⟩
 ·exact op_eq pins s σ H x y v u Q I a b h
 ·obtain ⟨as,ra⟩:=DV.reads I h1 a
  obtain ⟨bs,rb⟩:=DV.reads I h2 b
  exact PySem.SeqAt.compareEq_reads ra rb h3 c (by lia) ⟨.bl _,H,I,rfl,d⟩
theorem DW (hu:X.A.units+64 < cLine):OpR X (compareOp .NotEq) (fun x y H Q=>rNe x y H Q\/rNeP (X:=X) x y H Q):=by
 intro pins s σ H x y v u Q I a b h
 rcases h with h | ⟨p,q,h1,h2,h3,c,e,d⟩
 ·exact op_ne pins s σ H x y v u Q I a b h
 ·obtain ⟨as,ra⟩:=DV.reads I h1 a
  obtain ⟨bs,rb⟩:=DV.reads I h2 b
  exact PySem.SeqAt.compareNe_reads ra rb h3 c (by lia) ⟨.bl _,H,I,rfl,d⟩
theorem t5 (e:eqP a b=some k):∃ p q,pyD a=some p/\pyD b=some q/\p.canLay0=true/\q.canLay0=true/\min p.depth q.depth<=30/\k=PyData.eqv p q:=by
 unfold eqP at e
 grind
theorem xY:OpD X.K (fun x y H Q=>rEq x y H Q\/rEqP (X:=X) x y H Q) eqX:=fun a b H Q p ra rb e q=>by
 obtain ⟨k,h1,h2⟩:=E9.mp e
 subst h2
 unfold eqA at h1
 cases c:eqS a.d b.d with
 | some k' =>
  rw [c] at h1
  cases h1
  obtain ⟨s,j⟩:=y8 ra.rep rb.rep c
  exact .inl ⟨s,by rw [<- j];exact q ⟨.bl k,.bl k,[],.z⟩ H (b9 (.bl k)) rfl rfl⟩
 | none =>
  rw [c] at h1
  obtain ⟨p,f,e1,h,g,l,i,rfl⟩:=t5 h1
  exact .inr ⟨p,f,ra.rep.dv p e1,rb.rep.dv f h,g,l,i,q ⟨.bl _,.bl _,[],.z⟩ H (b9 (.bl _)) rfl rfl⟩
theorem Ed:OpD X.K (fun x y H Q=>rNe x y H Q\/rNeP (X:=X) x y H Q) neX:=fun a b H Q p ra rb e q=>by
 obtain ⟨k,h1,h2⟩:=E9.mp e
 subst h2
 unfold eqA at h1
 cases c:eqS a.d b.d with
 | some k' =>
  rw [c] at h1
  cases h1
  obtain ⟨s,j⟩:=y8 ra.rep rb.rep c
  exact .inl ⟨s,by rw [<- j];exact q ⟨.bl (!k),.bl (!k),[],.z⟩ H (b9 (.bl _)) rfl rfl⟩
 | none =>
  rw [c] at h1
  obtain ⟨p,f,e1,h,g,l,i,rfl⟩:=t5 h1
  exact .inr ⟨p,f,ra.rep.dv p e1,rb.rep.dv f h,g,l,i,q ⟨.bl _,.bl _,[],.z⟩ H (b9 (.bl _)) rfl rfl⟩
theorem y9 (h:pyD a=some p) (b:p.canLay0=true) (hd:p.depth<=30):eqP a a=some true:=by
 unfold eqP
 rw [h]
 simp [b,hd,PySem.SeqAt.eqv_refl p b]
end
end L3
end
section
namespace L3
open PySem L2
theorem ED {k:Nat} {nn:Nat} (F:Fun K x x st f fd) (S:FnScope N ps (ag st)) (c:mask.length=ps.length) (b:N.length=nn) (body:∀ (a:Value) (A:Around) (outer:List Env) (s:Shared) (H:Hp) (E:XK) (f:Addr) (G:Gm),Room k (A.deeper (PyProof.Rows.envOfC x (ag st) s.heap.objs.size f a))->G.pr=prM mask->RSs (qh CX0 P w K mg base N x (ag st) f a A outer s H E).nox G noX (aJ st) m) :
  FnOk P w K mg base CX0 (k+1) f fd ps (uF K (fnM mask nn m)):=by
 refine F.ok S (fun e H Q E h=>?_) fun a A outer s H e Q E d h=>?_
 ·obtain ⟨g,p,fs,rfl,_,_,i,_⟩:=h
  unfold fnM at i
  grind
 ·have hle:mask.length<=nn:=by
   rw [c,<- b]
   have:=congrArg List.length S.pre
   rw [FD] at this
   omega
  obtain ⟨G,j,l⟩:=t0 hle h
  subst b
  exact ⟨_,(body a A outer s H E f G d j).h,l⟩
def wE (K:FG):Sp:=fun b H Q _=>∃ (a:Addr) (ns:List Int),b=[.ref a]/\SqL K H a (ns.map V.int)/\B0 H/\ns.length<=63/\∀ H',Q (.bl true) H'
theorem mH:∀ ns:List Int,Reps (Rep K H) (ns.map D.int) (ns.map V.int) []
 | []=>.nil
 | n :: ns=>.cons (L:=[]) (.int n) (mH ns)
theorem BD (d:∀ ns:List Int,ns.length<=63->∃ fs,F [(.fls (ns.map .int),.z)]=some (.ok (.bl true,.z),fs)) (h:wE K vs H Q E):uF K F vs H Q E:=by
 obtain ⟨a,ns,rfl,i,g,j,q⟩:=h
 obtain ⟨fs,e⟩:=d ns j
 have c:FzL K H a (ns.map V.int):=by
  rcases i with (h | h) | h
  ·rcases g a with z | ⟨o,xs,z⟩
   ·rw [h] at z;cases z
   ·rw [h] at z;cases z
  ·exact .inl h
  ·exact .inr h
 refine ⟨[⟨.fls (ns.map .int),.ref a,[],.z⟩],(.bl true,.z),fs,rfl,fun p b=>?_,.cons (fun _ h=>by cases h) .nil,e,fun x qs H' B f k _=>?_⟩
 ·rw [FH.mp b]
  exact ⟨.lstF c (mH ns),fun h=>absurd rfl h⟩
 ·have r:=B.rep
  rw [f] at r
  have inv:∀ {v:V} {L:List Addr},Rep K H' (.bl true) v L->v=.bl true:=fun r=>by cases r;rfl
  rw [inv r]
  exact q H'
end L3
end
section
namespace L3
open PySem L2
section
variable {K:FG} {G G0:Gm} {W W0:D->Sto->Prop} {H H':Hp} {σ:St} {ρ ρ':Sto} {T T':List It3} {g:Nat->Option It3} {x y z:It3} {α β:Type} {X:Cx} {v:V} {d:D} {L:List Addr}
def aF:List D->Option (List Int)
 | []=>some []
 | .int i :: ds=>(aF ds).map (i :: ·)
 | _=>none
set_option tactic.hygienic true in
theorem cE:∀ {ds:List D} {ns:List Int},aF ds=some ns->ds=ns.map D.int
 | [],ns,e=>by cases e;rfl
 | d :: ds,ns,e=>by
  cases d <;> try (exact nsE e)
  rename_i b
  obtain ⟨r,h1,h2⟩:=E9.mp (show (aF ds).map (b :: ·)=some ns from e)
  subst h2
  rw [cE h1];rfl
theorem Reps.ints:∀ {ns:List Int} {a:List V} {L:List Addr},Reps (Rep K H) (ns.map D.int) a L->a=ns.map V.int
 | [],_,_,.nil=>rfl
 | b :: bs,_,_,.cons r rs=>by
  rw [Reps.ints rs]
  cases r;rfl
def rP:List Int->Option Int
 | []=>none
 | x :: xs=>some (xs.foldl (fun a b=>if b < a then b else a) x)
def fK:List Int->Option Int
 | []=>none
 | x :: xs=>some (xs.foldl (fun a b=>if a < b then b else a) x)
theorem dP:∀ (xs:List Int) (x:Int),(xs.foldl (fun a b=>if b < a then b else a) x) ∈ x :: xs/\∀ n ∈ x :: xs,(xs.foldl (fun a b=>if b < a then b else a) x)<=n
 | [],x=>⟨E6,fun n h=>by simp at h;subst h;exact Int.le_refl _⟩
 | y :: xs,x=>by
  obtain ⟨h1,h2⟩:=dP xs (if y < x then y else x)
  rw [List.foldl_cons]
  refine ⟨?_,fun n c=>?_⟩
  ·rcases Fc.mp h1 with h | h
   ·rw [h];split <;> simp
   ·exact E7 _ (E7 _ h)
  ·have h3:=h2 _ E6
   have d:(if y < x then y else x)<=x/\(if y < x then y else x)<=y:=by split <;> lia
   rcases Fc.mp c with h | c
   ·subst h;exact Int.le_trans h3 d.1
   ·rcases Fc.mp c with h | c
    ·subst h;exact Int.le_trans h3 d.2
    ·exact h2 n (E7 _ c)
theorem ft:∀ (xs:List Int) (x:Int),(xs.foldl (fun a b=>if a < b then b else a) x) ∈ x :: xs/\∀ n ∈ x :: xs,n<=(xs.foldl (fun a b=>if a < b then b else a) x)
 | [],x=>⟨E6,fun n h=>by simp at h;subst h;exact Int.le_refl _⟩
 | y :: xs,x=>by
  obtain ⟨h1,h2⟩:=ft xs (if x < y then y else x)
  rw [List.foldl_cons]
  refine ⟨?_,fun n c=>?_⟩
  ·rcases Fc.mp h1 with h | h
   ·rw [h];split <;> simp
   ·exact E7 _ (E7 _ h)
  ·have h3:=h2 _ E6
   have d:x<=(if x < y then y else x)/\y<=(if x < y then y else x):=by split <;> lia
   rcases Fc.mp c with h | c
   ·subst h;exact Int.le_trans d.1 h3
   ·rcases Fc.mp c with h | c
    ·subst h;exact Int.le_trans d.2 h3
    ·exact h2 n (E7 _ c)
theorem vt {m:Int} (h:rP ns=some m):ns ≠ []/\∀ k,k ∈ ns->(∀ n ∈ ns,k<=n)->k=m:=by
 cases ns with
 | nil=>exact nsE h
 | cons x xs =>
  cases h
  obtain ⟨h1,h2⟩:=dP xs x
  grind
theorem la {m:Int} (h:fK ns=some m):ns ≠ []/\∀ k,k ∈ ns->(∀ n ∈ ns,n<=k)->k=m:=by
 cases ns with
 | nil=>exact nsE h
 | cons x xs =>
  cases h
  obtain ⟨h1,h2⟩:=ft xs x
  grind
def Dn (g:List Int->Option Int):D->Option (D × Fl)
 | .lst xs=>(aF xs).bind fun ns=>(g ns).map fun m=>(.int m,.z)
 | .tup xs=>(aF xs).bind fun ns=>(g ns).map fun m=>(.int m,.z)
 | _=>none
abbrev tJ:=c1 (Dn rP)
abbrev tM:=c1 (Dn fK)
def xB (K:FG) (P:List Int->Int->Prop):List V->Hp->VK->Prop:=fun xs H Q=>(∃ (l:Addr) (ns:List Int),xs=[.ref l]/\SqL K H l (ns.map V.int)/\ns ≠ []/\∀ m,m ∈ ns->P ns m->Q (.int m) H)\/(∃ (l:Addr) (ns:List Int),xs=[.ref l]/\SqT K H l (ns.map V.int)/\ns ≠ []/\∀ m,m ∈ ns->P ns m->Q (.int m) H)
set_option tactic.hygienic true in
theorem zn {g:List Int->Option Int} (i:∀ ns m,g ns=some m->ns ≠ []/\∀ k,k ∈ ns->P ns k->k=m):b8 K (xB K P) (c1 (Dn g)):=fun ys H Q p ra e q=>by
 obtain ⟨y,rfl,j⟩:=cY e
 clear e
 have e:=j
 clear j
 have c:=(ra y E6).rep
 obtain ⟨da,r,n,o⟩:=y
 dsimp only at c e
 have key:∀ {xs:List D} {a:List V} {L:List Addr},Reps (Rep K H) xs a L->((aF xs).bind fun ns=>(g ns).map fun m=>((.int m,.z):D × Fl))=some p->∃ ns m,a=ns.map V.int/\g ns=some m/\p=(.int m,.z):=fun {xs a L} rs e=>by
  obtain ⟨ns,h1,h2⟩:=FF.mp e
  obtain ⟨m,h3,l⟩:=E9.mp h2
  have:=cE h1
  subst this
  exact ⟨ns,m,rs.ints,h3,l.symm⟩
 cases da <;> try (exact nsE e)
 ·rename_i xs
  obtain ⟨h,a,rfl,f,rs⟩:=c.view
  obtain ⟨ns,m,rfl,h1,rfl⟩:=key rs e
  obtain ⟨h2,h3⟩:=i ns m h1
  exact .inr ⟨h,ns,rfl,SqT.of f,h2,fun k d b=>by rw [h3 k d b];exact q ⟨_,_,[],.z⟩ H (b9 (.int _)) rfl rfl⟩
 ·rename_i xs
  obtain ⟨h,a,n,rfl,rfl,f,rs⟩:=c.view
  obtain ⟨ns,m,rfl,h1,rfl⟩:=key rs e
  obtain ⟨h2,h3⟩:=i ns m h1
  exact .inl ⟨h,ns,rfl,SqL.of f,h2,fun k d b=>by rw [h3 k d b];exact q ⟨_,_,[],.z⟩ H (b9 (.int _)) rfl rfl⟩
theorem BR:b8 K (xB K fun ns m=>∀ n ∈ ns,m<=n) tJ:=zn (P:=fun ns m=>∀ n ∈ ns,m<=n) fun _ _=>vt
theorem BU:b8 K (xB K fun ns m=>∀ n ∈ ns,n<=m) tM:=zn (P:=fun ns m=>∀ n ∈ ns,n<=m) fun _ _=>la
theorem vS (a:X.calm=true):CallR X (.builtin "min") (xB X.K fun ns m=>∀ n ∈ ns,m<=n):=(vQ a).or (vO a)
theorem vY (a:X.calm=true):CallR X (.builtin "max") (xB X.K fun ns m=>∀ n ∈ ns,n<=m):=(vW a).or (vV a)
end
end L3
end
section
namespace L3
open PySem L2
end L3
end
section
namespace L3
open PySem L2
section
variable {K:FG} {G G0:Gm} {W W0:D->Sto->Prop} {H H':Hp} {σ:St} {ρ ρ':Sto} {T T':List It3} {g:Nat->Option It3} {x y z:It3} {α β:Type} {X:Cx} {v:V} {d:D} {L:List Addr}
def B9 (g:List Int->Option Int):D->D->Option (D × Fl)
 | .lst xs,.non=>(aF xs).map fun ns=>match g ns with
  | some m=>(.int m,.z)
  | none=>(.non,.z)
 | .lst xs,.int k=>(aF xs).map fun ns=>match g ns with
  | some m=>(.int m,.z)
  | none=>(.int k,.z)
 | _,_=>none
abbrev Bs:=B9 fK
theorem A6 {g:List Int->Option Int} (i:∀ ns m,g ns=some m->ns ≠ []/\∀ k,k ∈ ns->P ns k->k=m) (h0:∀ ns,g ns=none->ns=[]):OpD K (fun x d H Q=>sY K P x d H Q) (B9 g):=fun a b H Q p ra rb e q=>by
 obtain ⟨da,A,r,s⟩:=a
 obtain ⟨db,t,w,v⟩:=b
 obtain ⟨ra,y⟩:=ra
 obtain ⟨rb,ob⟩:=rb
 dsimp only at ra rb e
 cases da with
 | lst xs =>
  obtain ⟨h,u,r,rfl,rfl,j,rs⟩:=ra.view
  have key:∀ (f:D) (dv:V),Rep K H f dv []->((aF xs).map fun ns=>match g ns with | some m=>((.int m,.z):D × Fl) | none=>(f,.z))=some p->sY K P (.ref h) dv H Q:=fun f dv l e=>by
   obtain ⟨ns,h1,h2⟩:=E9.mp e
   have:=cE h1
   subst this
   have:=rs.ints
   subst this
   refine ⟨h,ns,rfl,SqL.of j,fun n=>?_,fun m hm o=>?_⟩
   ·cases c:g ns with
    | some m=>exact absurd n (i ns m c).1
    | none =>
     rw [c] at h2
     subst h2
     exact q ⟨f,dv,[],.z⟩ H (b9 l) rfl rfl
   ·cases c:g ns with
    | none=>rw [h0 ns c] at hm;cases hm
    | some m' =>
     rw [c] at h2
     subst h2
     rw [(i ns m' c).2 m hm o]
     exact q ⟨.int m',.int m',[],.z⟩ H (b9 (.int _)) rfl rfl
  cases db with
  | non =>
   obtain ⟨rfl,rfl⟩:=rb.view
   exact key .non .non .non e
  | int k =>
   obtain ⟨rfl,rfl⟩:=rb.view
   exact key (.int k) (.int k) (.int k) e
  | _=>exact nsE e
 | _=>first | exact nsE e | (cases db <;> exact nsE e)
theorem Ba:OpD K (fun x d H Q=>sY K (fun ns m=>∀ n ∈ ns,n<=m) x d H Q) Bs:=A6 (fun _ _=>la) fun ns h=>by cases ns with | nil=>rfl | cons=>cases h
theorem Dt {id:String} {e d:Expr} {r:V->V->Hp->VK->Prop} (c:∀ {pins:List (Addr × Obj)} {s:Shared} {σ:St} {H:Hp} {x d:V} {u l:Value} {Q:VK},Inv X pins σ H s->RelV x u->RelV d l->r x d H Q->wpAny (model X.prog X.w) X.A (call (.builtin id) [u] [("default",l)]) (EP X pins σ Q) X.xe s) (o:OpD X.K (fun x d H Q=>r x d H Q) f) (m:Gl X nm) (hm:X.mg nm=none) (n:bootBuiltins nm=some (.builtin id)) (he:RE X G0 W0 e ma) (hd:RE X G0 W0 d mb) (t:nm ≠ "__name__") (i:(nm == ("__debug__":Str))=false) (q:backTo pos (starEach [e] X.env)=(false,eval e X.env) :: backTo pos (starEach [] X.env)) (k:backTo pos (starEach [] X.env)=[]) (a:(backTo pos (starEach [e] X.env)).any (·.1)=false) (b:(backToKw pos (keywordEach [⟨some "default",d,kpos⟩] X.env)).all (·.1.isSome)=true) (j:(backToKw pos (keywordEach [⟨some "default",d,kpos⟩] X.env)).any (·.1.isNone)=false) (g:(backToKw pos (keywordEach [⟨some "default",d,kpos⟩] X.env)).filterMap (·.1)=(["default"]:List Str)) :
  RE X G0 W0 (.Call (.Name nm p) [e] [⟨some "default",d,kpos⟩] pos) (ah f ma mb):=⟨PE.imp (DP c m hm n he.h hd.h t i q k a b j g) fun _ _ _ h=>kI o h⟩
theorem Reps.rep (r:Reps (Rep K H) ds vs L):∀ n:Nat,∃ L',Reps (Rep K H) (List.replicate n ds).flatten (List.replicate n vs).flatten L'/\∀ c ∈ L',c ∈ L
 | 0=>⟨[],.nil,fun _ h=>by cases h⟩
 | n+1=>by
  obtain ⟨L',h1,h2⟩:=Reps.rep r n
  refine ⟨L ++ L',?_,fun c a=>?_⟩
  ·rw [List.replicate_succ,List.replicate_succ,List.flatten_cons,List.flatten_cons];exact r.append h1
  ·rcases Ff.mp a with h | h
   ·exact h
   ·exact h2 c h
def zL (i j:Int):Prop:=0 < j/\j < 1267650600228229401496703205376
theorem xU:OpR X (binaryOp .FloorDiv) (rI zL fun i j=>.int (i / j)):=opI fun i j _ _ _ _ _ a q=>by
 have h1:(0:Int) < j:=a.1
 have h2:j < 1267650600228229401496703205376:=a.2
 refine PyProof.Rows.floordiv_int (by lia) (by rw [Int.fdiv_eq_ediv_of_nonneg i (by lia)];exact q) (.inl (PyProof.noPylong_of_log2 ?_))
 have h3:j.natAbs < 2 ^ 100:=by lia
 exact Nat.lt_trans ((Nat.log2_lt (by lia)).mpr h3) (by decide)
abbrev vG:=cT (fun _ j=>decide (0 < j/\j < 1267650600228229401496703205376)) fun i j=>.int (i / j)
theorem Bc:OpD K (rI zL fun i j=>.int (i / j)) vG:=je (fun i j h=>by simpa [zL] using h) fun i j _=>.int _
end
end L3
end
section
namespace L3
open PySem L2
end L3
end
section
namespace L3
open PySem L2
section
variable {K:FG} {G G0:Gm} {W W0:D->Sto->Prop} {H H':Hp} {σ:St} {ρ ρ':Sto} {T T':List It3} {g:Nat->Option It3} {x y z:It3} {α β:Type} {X:Cx}
def iU (hi:Int) (n:Nat):List D:=(List.range n).map fun (k:Nat)=>D.int (hi - (k:Int))
theorem uw {hi:Int} {n:Nat}:Walk K (Itd hi n) H1 ys (iU hi n):=by
 refine ⟨[],fun x h=>(by cases h),fun M H' _ _ _=>⟨fun i d hd=>?_,?_⟩⟩
 ·unfold iU at hd
  rw [Fp] at hd
  obtain ⟨k,a,b⟩:=E9.mp hd
  obtain ⟨c,e⟩:=Fi.mp a
  rw [List.getElem_range] at e
  subst e
  rw [List.length_range] at c
  refine ⟨c,fun x f ⟨e1,g⟩=>?_⟩
  subst e1
  exact ⟨⟨d,x,[],.z⟩,b9 (by rw [<- b,g];exact .int _),rfl,rfl,rfl⟩
 ·show n<=(iU hi n).length
  unfold iU
  simp
def qW:List D->Option (List D)
 | [.int i,.int j,.int c]=>if bY i && bY j && (c == -1) then some (iU i (i - j).toNat) else none
 | _=>none
set_option tactic.hygienic true in
theorem zV (h:tI K G0 W0 (aZ qW ms) σ H R):Cp (tA K G0 W0 ms) σ H R:=by
 obtain ⟨G,W,le,ρ,T,g,o,ρ',w,e,q⟩:=h
 have f:∀ x,o=.error x->W x ρ':=fun x m=>by subst m;exact q
 refine tA.seq le w e f fun rs ρ1 e1 I H1 Ts g1 k a1=>?_
 obtain ⟨ds,d1,B⟩:=bB e1
 obtain ⟨p,C,rfl,rfl⟩:=bv B
 obtain ⟨xs,F,E⟩:=E9.mp C
 subst E
 obtain ⟨ys,b,f1,f2⟩:=a1.items k (fun x m=>Fa _ m) d1
 subst f1 f2
 have inv:∀ {ds:List D},qW ds=some xs->∃ i j,ds=[.int i,.int j,.int (-1)]/\bY i=true/\bY j=true/\xs=iU i (i - j).toNat:=fun {ds} h=>by
  unfold qW at h
  split at h
  ·rename_i i j c
   split at h
   ·rename_i A
    cases h
    simp only [Bool.and_eq_true,beq_iff_eq] at A
    obtain ⟨⟨h1,h2⟩,rfl⟩:=A
    exact ⟨i,j,rfl,h1,h2,rfl⟩
   ·exact nsE h
  ·exact nsE h
 obtain ⟨i,j,a,hi,l,rfl⟩:=inv F
 match ys,a,b,a1 with
 | [],a,_,_=>cases a
 | [y],a,_,_=>exact absurd (congrArg List.length a) (by simp)
 | [y,z],a,_,_=>exact absurd (congrArg List.length a) (by simp)
 | y :: z :: u :: v :: r,a,_,_=>exact absurd (congrArg List.length a) (by simp)
 | [y,z,u],a,b,a1 =>
  have t:=(k.itm (b y E6)).rep
  have n:=(k.itm (b z (E7 _ E6))).rep
  have s:=(k.itm (b u (E7 _ (E7 _ E6)))).rep
  have h1:y.d=.int i:=by injection a
  have h2:z.d=.int j:=by injection a with _ h;injection h
  have h3:u.d=.int (-1):=by injection a with _ h;injection h with _ h;injection h
  rw [h1] at t
  rw [h2] at n
  rw [h3] at s
  have hi:=of_decide_eq_true hi
  have l:=of_decide_eq_true l
  refine ⟨i,j,by show [y.v,z.v,u.v]=_;rw [t.int_inv,n.int_inv,s.int_inv],⟨hi.1,hi.2,l.1,l.2⟩,?_⟩
  exact q _ H1 [] [] g1 [] (k.sub (Fm Ts T)) .nil (fun _ h=>by cases h) uw
theorem Au (g:Gl X "range") (hm:X.mg "range"=none) (e:RA X G0 W0 [a,b,c] ms) (f:starEach [a,b,c] X.env=(false,eval a X.env) :: starEach [b,c] X.env) (d:(backTo pos (starEach [b,c] X.env)).any (·.1)=false):RI X G0 W0 tg (.Call (.Name "range" p) [a,b,c] [] pos) (aZ qW ms):=⟨PI.imp (uY g hm e.h f d) fun _ _ _ h=>zV h⟩
end
end L3
end
section
namespace L3
open PySem L2
section
variable {K:FG} {G G0:Gm} {W W0:D->Sto->Prop} {H H':Hp} {σ:St} {ρ ρ':Sto} {T T':List It3} {g:Nat->Option It3} {x y z:It3} {α β:Type} {X:Cx} {v:V} {d:D} {L:List Addr}
def keyD:Key->D
 | .inl i=>.int i
 | .inr s=>.str s
def p6 (k:List Key):D:=.tup (k.map keyD)
def keysD:D->Option (List D)
 | .dt kvs=>some (kvs.map fun a=>p6 a.1)
 | _=>none
def n5 (m:EM):IM:=af m fun r=>af (der r) fun d=>aV ((keysD d).map fun ds=>([r],ds))
theorem kU:∀ k:List Key,Reps (Rep K H) (k.map keyD) (k.map kV) []
 | []=>.nil
 | .inl i :: k=>.cons (L:=[]) (.int i) (kU k)
 | .inr s :: k=>.cons (L:=[]) (.str s) (kU k)
theorem ux {kvs:List (List Key × D)} (q:H1 a=some (.dT ps)) (h:kvs.map (·.1)=ps.map (·.1)) (s:a ∈ y.L):Walk K (Itk a ps.length) H1 [y] (kvs.map fun g=>p6 g.1):=by
 refine ⟨[],fun x r=>(by cases r),fun M H' hm f j=>?_⟩
 have h':H' a=some (.dT ps):=f a _ q (j y E6 a s)
 have t:kvs.length=ps.length:=by have:=congrArg List.length h;simpa using this
 refine ⟨fun i d hd=>?_,⟨ps,.inl h',rfl,by rw [Fh,t];exact Fq _⟩⟩
 rw [Fp] at hd
 obtain ⟨g,h1,h2⟩:=E9.mp hd
 have hi:i < kvs.length:=(Fi.mp h1).1
 obtain ⟨p,n,c⟩:∃ p,ps[i]?=some p/\p.1=g.1:=by
  have e:=congrArg (fun l=>l[i]?) h
  grind
 refine ⟨⟨ps,.inl h',rfl,by omega⟩,fun x k ⟨e1,m⟩=>?_⟩
 subst e1
 obtain ⟨b,rfl,o⟩:=m ps p (.inl h') n
 exact ⟨⟨d,.ref b,[],.z⟩,b9 (by rw [<- h2,<- c];exact .tup o (kU _)),rfl,rfl,rfl⟩
theorem zY (h:tI K G0 W0 (n5 m) σ H R):Cs (tE K G0 W0 m) σ H R:=by
 obtain ⟨G,W,le,ρ,T,g,o,ρ',w,e,q⟩:=h
 have a:∀ x,o=.error x->W x ρ':=fun x E=>by subst E;exact q
 refine tE.seq le w e a fun ra ρ1 e1 v H1 ⟨Ts,g1,b,a1⟩=>?_
 obtain ⟨d,d1,k⟩:=aI e1
 obtain ⟨p,l,rfl,rfl⟩:=bv k
 obtain ⟨ds,c,C⟩:=E9.mp l
 subst C
 obtain ⟨y,s,F,n⟩:=a1.item2 b d1
 have t:Itm (Ts ++ T) g1 y:=by
  rcases n with ⟨i,_,B⟩ | h
  ·exact .inl ⟨i,B⟩
  ·exact .inr (Fa _ h)
 have D:=(b.itm t).arg
 have A:∀ J,Walk K J H1 [y] ds->R J H1:=fun J hw=>q J H1 [v] Ts g1 [y] b (by simpa using Ars.cons a1 .nil) (fun z hz=>by rw [FH.mp hz];exact n) hw
 clear e1 k l q
 subst s F
 obtain ⟨da,O,N,I⟩:=y
 obtain ⟨f,M⟩:=D
 dsimp only at f c
 cases da with
 | dt kvs =>
  obtain ⟨u,ps,L,rfl,rfl,j,r,rs⟩:=f.view
  cases c
  exact ⟨u,ps,rfl,.inl j,A _ (ux j r E6)⟩
 | _=>exact nsE c
theorem Ax (h:RE X G0 W0 l m):RI X G0 W0 tg l (n5 m):=⟨PI.imp (AT h.h) fun _ _ _ h=>zY h⟩
def maxVQ:D->Option (D × Fl)
 | .dt kvs=>(aF (kvs.map (·.2))).bind fun ns=>(fK ns).map fun m=>(.int m,.z)
 | _=>none
abbrev pR:=c1 maxVQ
def rMV:List V->Hp->VK->Prop:=fun xs H Q=>∃ (a:Addr) (kvs:List (List Key × V)) (ns:List Int),xs=[.ref a]/\H a=some (.dT kvs)/\kvs.map (·.2)=ns.map V.int/\ns ≠ []/\∀ p,H p=none->∀ m,m ∈ ns->(∀ n ∈ ns,n<=m)->Q (.int m) (upd H p (ll p a))
theorem BS:b8 K rMV pR:=fun ys H Q p ra e q=>by
 obtain ⟨y,rfl,b⟩:=cY e
 clear e
 have e:=b
 clear b
 have a:=(ra y E6).rep
 obtain ⟨da,u,s,r⟩:=y
 dsimp only at a e
 cases da with
 | dt kvs =>
  obtain ⟨n,ps,o,rfl,rfl,j,t,rs⟩:=a.view
  obtain ⟨ns,h1,h2⟩:=FF.mp (show ((aF (kvs.map (·.2))).bind fun ns=>(fK ns).map fun m=>((.int m,.z):D × Fl))=some p from e)
  obtain ⟨m,h3,i⟩:=E9.mp h2
  have c:=cE h1
  rw [c] at rs
  obtain ⟨l,f⟩:=la h3
  subst i
  refine ⟨n,ps,ns,rfl,j,rs.ints,l,fun p d k g k2=>?_⟩
  rw [f k g k2]
  exact q ⟨.int m,.int m,[],.z⟩ _ ⟨bm d,.int _,fun _ h=>(by cases h),fun h=>absurd rfl h⟩ rfl rfl
 | _=>exact nsE e
theorem z5 (h:tE K G0 W0 (al pR (ac m ai)) σ H Q) :
  tCB Cd (oS (tBM0 K "dict" (fun x d H Q=>∃ a kvs,x=.ref a/\d=[]/\Rd H a (.dT kvs)/\∀ p,H p=none->Q (.ref p) (upd H p (ll p a))) (tE K G0 W0 m)) zU) σ H Q:=by
 have h1:oS (tE K G0 W0 m) (tA K G0 W0 ai) σ H (fun d H1=>rMV d H1 Q):=sI (iN BS h)
 refine sH h1 fun x H1 h2=>?_
 obtain ⟨a,kvs,ns,e,b,g,i,q⟩:=wC h2
 cases e
 refine ⟨.inr (.inr (.inl ⟨rfl,.inr ⟨kvs,b⟩⟩)),a,kvs,rfl,rfl,.inl b,fun p f=>?_⟩
 have c:a ≠ p:=fun z=>by rw [z,f] at b;exact nsE b
 exact ⟨p,a,kvs,ns,rfl,aT,.inl (by rw [au c];exact b),g,i,q p f⟩
theorem AA (g:X.calm=true) (f:Gl X "max") (hm:X.mg "max"=none) (e:RE X G0 W0 o m) (a:attributeBase o "values" X.env (eval o X.env)=eval o X.env) (b:(apos.endLine == cpos.line)=true) (d:starEach [.Call (.Attribute o "values" apos) [] [] cpos] X.env=(false,eval (.Call (.Attribute o "values" apos) [] [] cpos) X.env) :: starEach [] X.env) (c:(backTo pos (starEach [] X.env)).any (·.1)=false) :
  RE X G0 W0 (.Call (.Name "max" p) [.Call (.Attribute o "values" apos) [] [] cpos] [] pos) (al pR (ac m ai)) :=
 ⟨PE.imp (iX (vU g) f hm ul (iZ (DR PySem.F.plainAttrs_dict PySem.F.slot_dict_values PySem.F.type_dict_values Bj e.h a b) nP d) (by decide) (by decide) d c) fun _ _ _ h=>z5 h⟩
def dJ:List D->Option (List (Int × Int))
 | []=>some []
 | .tup [.int a,.int b] :: ds=>(dJ ds).map ((a,b) :: ·)
 | _=>none
def iY (n:Int × Int):D:=.tup [.int n.1,.int n.2]
set_option tactic.hygienic true in
theorem k7:∀ {ds:List D} {ns:List (Int × Int)},dJ ds=some ns->ds=ns.map iY
 | [],ns,h=>by cases h;rfl
 | d :: ds,ns,h=>by
  unfold dJ at h
  split at h
  ·rename_i h0;cases h0
  ·rename_i a b c h0
   cases h0
   obtain ⟨ms,h1,h2⟩:=E9.mp h
   rw [k7 h1,<- h2];rfl
  ·exact nsE h
theorem jT:∀ ns:List (Int × Int),dJ (ns.map iY)=some ns
 | []=>rfl
 | n :: ns=>by
  show (dJ (ns.map iY)).map _=_
  rw [jT ns];rfl
def jy:List (Int × Int)->Option (Int × Int)
 | []=>none
 | x :: xs=>some (xs.foldl (fun a b=>if ltP b a=true then b else a) x)
theorem By {x y:Int × Int} (h1:ltP x y=false) (h2:ltP y x=false):x=y:=by
 unfold ltP at *
 grind
theorem yx {x y z:Int × Int} (h1:ltP x y=false) (h2:ltP y z=false):ltP x z=false:=by
 unfold ltP at *
 simp at *
 lia
theorem yy {x y:Int × Int} (h1:ltP x y=true):ltP y x=false:=by
 unfold ltP at *
 simp at *
 lia
theorem yw (x:Int × Int):ltP x x=false:=by unfold ltP;simp
theorem fv:∀ (xs:List (Int × Int)) (x:Int × Int),(xs.foldl (fun a b=>if ltP b a=true then b else a) x) ∈ x :: xs/\∀ n ∈ x :: xs,ltP n (xs.foldl (fun a b=>if ltP b a=true then b else a) x)=false
 | [],x=>⟨E6,fun n c=>by rw [FH.mp c];exact yw x⟩
 | b :: xs,x=>by
  rw [List.foldl_cons]
  by_cases h:ltP b x=true
  ·rw [if_pos h]
   obtain ⟨h1,h2⟩:=fv xs b
   refine ⟨E7 _ h1,fun n c=>?_⟩
   rcases Fc.mp c with rfl | c
   ·exact yx (yy h) (h2 b E6)
   ·exact h2 n c
  ·rw [if_neg h]
   have h':ltP b x=false:=by simpa using h
   obtain ⟨h1,h2⟩:=fv xs x
   refine ⟨?_,fun n c=>?_⟩
   ·rcases Fc.mp h1 with e | e
    ·rw [e];exact E6
    ·exact E7 _ (E7 _ e)
   ·rcases Fc.mp c with rfl | c
    ·exact h2 n E6
    ·rcases Fc.mp c with rfl | c
     ·exact yx h' (h2 x E6)
     ·exact h2 n (E7 _ c)
theorem jx (h:jy ns=some m):m ∈ ns/\∀ n ∈ ns,ltP n m=false:=by
 cases ns with
 | nil=>exact nsE h
 | cons x xs=>cases h;exact fv xs x
def minPQ:D->Option (D × Fl)
 | .lst ds=>(dJ ds).bind fun ns=>(jy ns).map fun n=>(iY n,.z)
 | _=>none
abbrev tH:=c1 minPQ
theorem kT:∀ {ns:List (Int × Int)} {c:List V} {L:List Addr},Reps (Rep K H) (ns.map iY) c L->∃ bs:List Addr,c=bs.map V.ref/\ns.length=bs.length/\∀ (i:Nat) (b:Addr),bs[i]?=some b->∃ n,ns[i]?=some n/\H b=some (.tup [.int n.1,.int n.2])
 | [],_,_,.nil=>⟨[],rfl,rfl,fun i b h=>by simp at h⟩
 | n :: ns,_,_,.cons r rs=>by
  obtain ⟨bs,e1,f,d⟩:=kT rs
  subst e1
  cases r with
  | @tup xs a c L ha hr =>
   refine ⟨a :: bs,rfl,by simp [f],fun i b h=>?_⟩
   cases i with
   | zero =>
    simp only [List.getElem?_cons_zero,Option.some.injEq] at h
    subst h
    have e:c=[.int n.1,.int n.2]:=by
     have:=Reps.ints (ns:=[n.1,n.2]) hr
     exact this
    exact ⟨n,rfl,by rw [<- e];exact ha⟩
   | succ i =>
    simp only [List.getElem?_cons_succ] at h
    exact d i b h
theorem BP:b8 K (Cc K) tH:=fun ys H Q p ra e q=>by
 obtain ⟨y,rfl,a⟩:=cY e
 clear e
 have e:=a
 clear a
 have f:=(ra y E6).rep
 obtain ⟨da,B,A,v⟩:=y
 dsimp only at f e
 cases da with
 | lst xs =>
  obtain ⟨r,x,w,rfl,rfl,k,rs⟩:=f.view
  obtain ⟨ns,h1,h2⟩:=FF.mp (show ((dJ xs).bind fun ns=>(jy ns).map fun n=>((iY n,.z):D × Fl))=some p from e)
  obtain ⟨d,h3,j⟩:=E9.mp h2
  have t:=k7 h1
  subst t j
  obtain ⟨bs,rfl,o,c⟩:=kT rs
  obtain ⟨g,h⟩:=jx h3
  refine ⟨r,bs,ns,rfl,SqL.of k,c,fun z=>?_,fun m b hm l=>?_⟩
  ·subst z
   have:ns=[]:=FT.mp o
   subst this
   cases g
  ·obtain ⟨n,e1,a⟩:=c m b hm
   have s:n=d:=by
    refine By (h n (Fj e1) |> id) ?_ |> id
    obtain ⟨i,hi,u⟩:=List.getElem_of_mem g
    exact l.2 i (by lia) d n (by rw [Fd hi,u]) e1
   subst s
   exact q ⟨iY n,.ref b,[],.z⟩ H (b9 (.tup a (.cons (L:=[]) (.int _) (.cons (L:=[]) (.int _) .nil)))) rfl rfl
 | _=>exact nsE e
end
end L3
theorem L2.Room.hu {k:Nat} (a:L2.Room k A):A.units+1 < PySem.cLine:=L2.hu_of a
end
section
namespace L3
open PySem L2
section
variable {K:FG} {G G0:Gm} {W W0:D->Sto->Prop} {H H':Hp} {σ:St} {ρ ρ':Sto} {T T':List It3} {g:Nat->Option It3} {x y z:It3} {α β:Type} {X:Cx} {v:V} {d:D} {L:List Addr}
def rS (x:Int):List Int->List Int
 | []=>[x]
 | y :: ys=>if x<=y then x :: y :: ys else y :: rS x ys
def srt:List Int->List Int
 | []=>[]
 | x :: xs=>rS x (srt xs)
theorem jE (x:Int):∀ l:List Int,(rS x l).Perm (x :: l)
 | []=>.refl _
 | y :: ys=>by
  unfold rS
  split
  ·exact .refl _
  ·exact ((jE x ys).cons y).trans (.swap x y ys)
theorem kJ:∀ l:List Int,(srt l).Perm l
 | []=>.refl _
 | x :: xs=>(jE x (srt xs)).trans ((kJ xs).cons x)
set_option tactic.hygienic true in
theorem j6 (x:Int):∀ {l:List Int},l.Pairwise (·<=·)->(rS x l).Pairwise (·<=·)
 | [],_=>by simp [rS]
 | y :: ys,h=>by
  unfold rS
  have h1:=List.pairwise_cons.mp h
  split
  ·rename_i a
   refine List.pairwise_cons.mpr ⟨fun z hz=>?_,h⟩
   rcases Fc.mp hz with rfl | hz
   ·exact a
   ·have:=h1.1 z hz
    lia
  ·rename_i a
   refine List.pairwise_cons.mpr ⟨fun z hz=>?_,j6 x h1.2⟩
   rcases Fc.mp ((jE x ys).subset hz) with rfl | hz
   ·lia
   ·exact h1.1 z hz
theorem iz:∀ l:List Int,(srt l).Pairwise (·<=·)
 | []=>.nil
 | x :: xs=>j6 x (iz xs)
theorem fS:∀ {l c:List Int},l.Perm c->l.Pairwise (·<=·)->c.Pairwise (·<=·)->l=c
 | [],c,p,_,_=>by rw [List.nil_perm.mp p]
 | a :: l,[],p,_,_=>by cases p.length_eq
 | a :: l,b :: c,p,h,h'=>by
  have h1:=List.pairwise_cons.mp h
  have h2:=List.pairwise_cons.mp h'
  have e:a=b:=by
   have f:=p.subset (E6 (a:=a) (l:=l))
   have d:=p.symm.subset (E6 (a:=b) (l:=c))
   rcases Fc.mp f with e | f
   ·exact e
   ·rcases Fc.mp d with e | d
    ·exact e.symm
    ·have:=h2.1 a f
     have:=h1.1 b d
     lia
  subst e
  rw [fS (List.Perm.cons_inv p) h1.2 h2.2]
theorem jR:∀ ns:List Int,Reps (Rep K H) (ns.map D.int) (ns.map V.int) []
 | []=>.nil
 | n :: ns=>.cons (L:=[]) (.int n) (jR ns)
end
end L3
end
section
namespace L3
open PySem L2
end L3
end
section
namespace L3
open PySem L2
section
variable {K:FG} {G G0:Gm} {W W0:D->Sto->Prop} {H H':Hp}
def ntD (n:List Int):D:=.tup (n.map D.int)
def jV:List D->Option (List (List Int))
 | []=>some []
 | .tup xs :: ds=>(aF xs).bind fun n=>(jV ds).map (n :: ·)
 | _=>none
set_option tactic.hygienic true in
theorem pH:∀ {ds:List D} {ns:List (List Int)},jV ds=some ns->ds=ns.map ntD
 | [],ns,h=>by cases h;rfl
 | d :: ds,ns,h=>by
  cases d <;> try (exact nsE h)
  rename_i xs
  obtain ⟨n,h1,h2⟩:=FF.mp (show ((aF xs).bind fun n=>(jV ds).map (n :: ·))=some ns from h)
  obtain ⟨ms,h3,a⟩:=E9.mp h2
  rw [pH h3,<- a,cE h1];rfl
theorem lp:∀ n:List Int,aF (n.map D.int)=some n
 | []=>rfl
 | a :: n=>by
  show (aF (n.map D.int)).map _=_
  rw [lp n];rfl
theorem mQ:∀ ns:List (List Int),jV (ns.map ntD)=some ns
 | []=>rfl
 | n :: ns=>by
  show ((aF (n.map D.int)).bind fun m=>(jV (ns.map ntD)).map (m :: ·))=_
  rw [lp,mQ ns];rfl
def jw:List (List Int)->Option (List Int)
 | []=>none
 | x :: xs=>some (xs.foldl (fun a b=>if HT.lexLt b a=true then b else a) x)
theorem yC (h1:HT.lexLt x y=true):HT.lexLt y x=false:=by
 cases h:HT.lexLt y x with
 | false=>rfl
 | true=>have:=hU h1 h;rw [eD] at this;cases this
theorem yB (h1:HT.lexLt x y=false) (h2:HT.lexLt y z=false):HT.lexLt x z=false:=by
 cases h:HT.lexLt x z with
 | false=>rfl
 | true =>
  cases h3:HT.lexLt z y with
  | true=>rw [hU h h3] at h1;cases h1
  | false=>rw [kE h2 h3,h] at h1;cases h1
theorem fu:∀ (xs:List (List Int)) (x:List Int),(xs.foldl (fun a b=>if HT.lexLt b a=true then b else a) x) ∈ x :: xs/\∀ n ∈ x :: xs,HT.lexLt n (xs.foldl (fun a b=>if HT.lexLt b a=true then b else a) x)=false
 | [],x=>⟨E6,fun n c=>by rw [FH.mp c];exact eD x⟩
 | b :: xs,x=>by
  rw [List.foldl_cons]
  by_cases h:HT.lexLt b x=true
  ·rw [if_pos h]
   obtain ⟨h1,h2⟩:=fu xs b
   refine ⟨E7 _ h1,fun n c=>?_⟩
   rcases Fc.mp c with rfl | c
   ·exact yB (yC h) (h2 b E6)
   ·exact h2 n c
  ·rw [if_neg h]
   have h':HT.lexLt b x=false:=by simpa using h
   obtain ⟨h1,h2⟩:=fu xs x
   refine ⟨?_,fun n c=>?_⟩
   ·rcases Fc.mp h1 with e | e
    ·rw [e];exact E6
    ·exact E7 _ (E7 _ e)
   ·rcases Fc.mp c with rfl | c
    ·exact h2 n E6
    ·rcases Fc.mp c with rfl | c
     ·exact yB h' (h2 x E6)
     ·exact h2 n (E7 _ c)
theorem mV (h:jw ns=some m):m ∈ ns/\∀ n ∈ ns,HT.lexLt n m=false:=by
 cases ns with
 | nil=>exact nsE h
 | cons x xs=>cases h;exact fu xs x
def minTQ:D->Option (D × Fl)
 | .lst ds=>(jV ds).bind fun ns=>(jw ns).map fun n=>(ntD n,.z)
 | _=>none
abbrev tG:=c1 minTQ
theorem ph:∀ {ns:List (List Int)} {c:List V} {L:List Addr},Reps (Rep K H) (ns.map ntD) c L->∃ bs:List Addr,c=bs.map V.ref/\ns.length=bs.length/\∀ (i:Nat) (b:Addr),bs[i]?=some b->∃ n,ns[i]?=some n/\H b=some (.tup (n.map V.int))
 | [],_,_,.nil=>⟨[],rfl,rfl,fun i b h=>by simp at h⟩
 | n :: ns,_,_,.cons r rs=>by
  obtain ⟨bs,e1,f,d⟩:=ph rs
  subst e1
  cases r with
  | @tup xs a c L ha hr =>
   refine ⟨a :: bs,rfl,by simp [f],fun i b h=>?_⟩
   cases i with
   | zero =>
    simp only [List.getElem?_cons_zero,Option.some.injEq] at h
    subst h
    have e:c=n.map V.int:=Reps.ints hr
    exact ⟨n,rfl,by rw [<- e];exact ha⟩
   | succ i =>
    simp only [List.getElem?_cons_succ] at h
    exact d i b h
theorem fc:∀ n:List Int,Reps (Rep K H) (n.map D.int) (n.map V.int) []
 | []=>.nil
 | a :: n=>.cons (L:=[]) (.int a) (fc n)
theorem BO:b8 K (xC K) tG:=fun ys H Q p ra e q=>by
 obtain ⟨y,rfl,a⟩:=cY e
 clear e
 have e:=a
 clear a
 have f:=(ra y E6).rep
 obtain ⟨da,B,A,v⟩:=y
 dsimp only at f e
 cases da with
 | lst xs =>
  obtain ⟨r,x,w,rfl,rfl,k,rs⟩:=f.view
  obtain ⟨ns,h1,h2⟩:=FF.mp (show ((jV xs).bind fun ns=>(jw ns).map fun n=>((ntD n,.z):D × Fl))=some p from e)
  obtain ⟨d,h3,j⟩:=E9.mp h2
  have t:=pH h1
  subst t j
  obtain ⟨bs,rfl,o,c⟩:=ph rs
  obtain ⟨g,h⟩:=mV h3
  refine ⟨r,bs,ns,rfl,SqL.of k,(fun i b e=>let ⟨n,e1,a⟩:=c i b e;⟨n,e1,SqT.of a⟩),fun z=>?_,fun m b hm l=>?_⟩
  ·subst z
   have:ns=[]:=FT.mp o
   subst this
   cases g
  ·obtain ⟨n,e1,a⟩:=c m b hm
   have s:n=d:=by
    refine kE (h n (Fj e1)) ?_
    obtain ⟨i,hi,u⟩:=List.getElem_of_mem g
    exact l.2 i (by lia) d n (by rw [Fd hi,u]) e1
   subst s
   exact q ⟨ntD n,.ref b,[],.z⟩ H (b9 (.tup a (fc n))) rfl rfl
 | _=>exact nsE e
end
end L3
end
section
namespace L3
open PySem L2
end L3
end
section
namespace L3
open PySem L2
section
variable {K:FG} {H H':Hp}
theorem sS:∀ {ns:List (List Int)} {bs:List Addr},bs.length=ns.length->(∀ (i:Nat) (b:Addr) (n:List Int),bs[i]?=some b->ns[i]?=some n->H b=some (.tup (n.map V.int)))->Reps (Rep K H) (ns.map ntD) (bs.map V.ref) []
 | [],[],_,_=>.nil
 | [],_ :: _,h,_=>by cases h
 | _ :: _,[],h,_=>by cases h
 | n :: ns,b :: bs,h,q=>.cons (L:=[]) (.tup (q 0 b n rfl rfl) (fc n)) (sS (by simpa using h) fun i b n e1 a=>q (i+1) b n (by simpa using e1) (by simpa using a))
end
end L3
end
section
namespace L3
open PySem L2
end L3
end
section
namespace L3
open PySem L2
section
variable {K:FG} {H H':Hp}
def jN:List D->Option (List (List Int))
 | []=>some []
 | .tup ys :: ds=>(aF ys).bind fun n=>(jN ds).map (n :: ·)
 | _=>none
theorem oQ:∀ {ds:List D} {ns:List (List Int)},jN ds=some ns->ds=ns.map ntD
 | [],ns,h=>by cases h;rfl
 | d :: ds,ns,h=>by
  cases d with
  | tup ys =>
   obtain ⟨n,h1,h2⟩:=FF.mp (show ((aF ys).bind fun n=>(jN ds).map (n :: ·))=some ns from h)
   obtain ⟨ms,h3,a⟩:=E9.mp h2
   rw [oQ h3,<- a,cE h1];rfl
  | _=>exact nsE h
def yM (ns:List (List Int)):Bool:=ns.all (fun n=>!n.isEmpty) || (match ns with | [] :: _=>true | _=>false)
theorem BG (h:yM ns=true):kOk ns:=by
 rcases Bool.or_eq_true_iff.mp h with h | h
 ·refine .inl fun n a z=>?_
  have:=List.all_eq_true.mp h n a
  subst z;simp at this
 ·refine .inr ?_
  grind
def C1:D->Option (D × Fl)
 | .lst ds=>(jN ds).bind fun ns=>if (yM ns && decide (ns.length<=16777216))=true then (ba ns).bind fun is=>if (decide (is.length<=16777216) && is.all fun i=>decide (i < ns.length))=true then some (.lst (is.map fun i=>ntD (ns.getD i [])),.u) else none else none
 | _=>none
abbrev jo:=c1 C1
theorem mG:∀ {ns:List (List Int)} {c:List V} {L:List Addr},Reps (Rep K H) (ns.map ntD) c L->∃ bs:List Addr,c=bs.map V.ref/\ns.length=bs.length/\∀ (i:Nat) (b:Addr) (n:List Int),bs[i]?=some b->ns[i]?=some n->H b=some (.tup (n.map V.int))
 | [],_,_,.nil=>⟨[],rfl,rfl,fun i b n e=>by simp at e⟩
 | n :: ns,_,_,.cons r rs=>by
  obtain ⟨bs,e1,g,d⟩:=mG rs
  cases r with
  | @tup _ a c _ ha hr =>
   have f:c=n.map V.int:=Reps.ints hr
   subst f e1
   refine ⟨a :: bs,rfl,by simp [g],fun i b m h1 h2=>?_⟩
   cases i with
   | zero=>cases h1;cases h2;exact ha
   | succ i=>exact d i b m (by simpa using h1) (by simpa using h2)
theorem zk:b8 K (xz K) jo:=fun ys H Q p ra e q=>by
 obtain ⟨y,rfl,d⟩:=cY e
 clear e
 have e:=d
 clear d
 have l:=(ra y E6).rep
 obtain ⟨da,E,D,A⟩:=y
 dsimp only at l e
 cases da with
 | lst ds =>
  obtain ⟨ns,h1,h2⟩:=FF.mp (show ((jN ds).bind fun ns=>_)=some p from e)
  by_cases f:(yM ns && decide (ns.length<=16777216))=true
  ·rw [if_pos f] at h2
   obtain ⟨h3,m⟩:=Bool.and_eq_true_iff.mp f
   obtain ⟨is,x,g⟩:=FF.mp h2
   by_cases hd:(decide (is.length<=16777216) && is.all fun i=>decide (i < ns.length))=true
   ·rw [if_pos hd] at g
    cases g
    obtain ⟨s,o⟩:=Bool.and_eq_true_iff.mp hd
    cases oQ h1
    obtain ⟨a,C,B,rfl,rfl,r,rs⟩:=l.view
    obtain ⟨bs,rfl,t,k⟩:=mG rs
    refine ⟨a,bs,ns,is,rfl,SqL.of r,t,k,BG h3,x,by rw [sizeLine_eq];exact of_decide_eq_true m,by rw [sizeLine_eq];exact of_decide_eq_true s,fun p v=>?_⟩
    have w:(is.map fun i=>V.ref (bs.getD i 0))=(is.map fun i=>bs.getD i 0).map V.ref:=by rw [FQ];rfl
    have h:(is.map fun i=>ntD (ns.getD i []))=(is.map fun i=>ns.getD i []).map ntD:=by rw [FQ];rfl
    rw [w]
    refine q ⟨.lst (is.map fun i=>ntD (ns.getD i [])),.ref p,[p],.u⟩ _ (rB v ?_ fun c f=>by cases f) rfl rfl
    rw [h]
    refine sS (by simp) fun i b n e1 d=>?_
    rw [Fp] at e1 d
    cases hi:is[i]? with
    | none=>rw [hi] at e1;cases e1
    | some j =>
     rw [hi] at e1 d
     have z:j < ns.length:=of_decide_eq_true (List.all_eq_true.mp o j (Fj hi))
     have g1:bs[j]?=some bs[j]:=Fd (by lia)
     have g2:ns[j]?=some ns[j]:=Fd z
     have e1:bs.getD j 0=b:=FS e1
     have d:ns.getD j []=n:=FS d
     rw [List.getD,g1] at e1
     rw [List.getD,g2] at d
     subst e1 d
     exact k j _ _ g1 g2
   ·rw [if_neg hd] at g;exact nsE g
  ·rw [if_neg f] at h2;exact nsE h2
 | _=>exact nsE e
end
end L3
end
section
namespace L3
open PySem L2
section
variable {K:FG} {G0:Gm} {W0:D->Sto->Prop} {X:Cx}
def ssQ:D->Option (D × Fl)
 | .tup xs=>(aF xs).bind fun ns=>if ns.length < 64 then some (.lst ((srt (ns.foldl met [])).map .int),.u) else none
 | _=>none
abbrev ssD:=c1 ssQ
def rSS (X:Cx):List V->Hp->VK->Prop:=fun xs H Q=>rSet X xs H fun v H1=>xy X [v] H1 Q
set_option tactic.hygienic true in
theorem cd_ss:b8 X.K (rSS X) ssD:=fun ys H Q p ra e q=>by
 obtain ⟨y,rfl,i⟩:=cY e
 clear e
 have j:=(ra y E6).rep
 obtain ⟨da,A,s,n⟩:=y
 dsimp only at j i
 cases da <;> try (exact nsE i)
 rename_i xs
 obtain ⟨k,x,rfl,o,rs⟩:=j.view
 obtain ⟨ns,h1,h2⟩:=FF.mp i
 split at h2
 ·rename_i f
  cases h2
  have r:=cE h1
  subst r
  have v:=rs.ints
  subst v
  refine ⟨k,ns,rfl,SqT.of o,f,fun a l=>⟨a,ns.foldl met [],rfl,aT,?_,fun b g t m p2=>?_⟩⟩
  ·have:=pN ns []
   simp at this
   lia
  ·rw [fS (m.trans (kJ _).symm) p2 (iz _)]
   have d:H b=none:=by
    by_cases z:b=a
    ·rw [z];exact l
    ·rw [au z] at g;exact g
   have w:=rB (K:=X.K) (Ks:=cZ [⟨.tup (ns.map .int),.ref k,s,n⟩]) g (jR (K:=X.K) (H:=upd H a (Ad X a (ns.foldl met []))) (srt (ns.foldl met []))) (fun c h=>by cases h)
   refine q ⟨.lst ((srt (ns.foldl met [])).map .int),.ref b,[b],.u⟩ _ ⟨(bm l).trans w.same,w.rep,fun c h=>?_,fun _=>⟨rfl,b,[],rfl,rfl,List.not_mem_nil,d⟩⟩ rfl rfl
   cases FH.mp h
   exact .inl d
 ·exact nsE h2
theorem re_ss (g:X.calm=true) (j:Gl X x) (hm:X.mg x=none) (k:bootBuiltins x=some (.builtin "sorted")) (b:Gl X y) (c:X.mg y=none) (f:bootBuiltins y=some (.type "set")) (i:RE X G0 W0 e m) (l:x ≠ "__name__") (hd:(x == ("__debug__":Str))=false) (a:y ≠ "__name__") (d:(y == ("__debug__":Str))=false) (s1:starEach [e] X.env=(false,eval e X.env) :: starEach [] X.env) (s2:starEach [.Call (.Name y p') [e] [] pos'] X.env=(false,eval (.Call (.Name y p') [e] [] pos') X.env) :: starEach [] X.env) :
  RE X G0 W0 (.Call (.Name x p) [.Call (.Name y p') [e] [] pos'] [] pos) (al ssD (ac m ai)) :=
 ⟨PE.imp (iX (sd g) j hm k (iZ (mJ (vL g) b c f (sV i xx s1).h a d s1 rfl) nP s2) l hd s2 rfl) fun σ H Q h=>(iN (r:=rSS X) cd_ss h:tCB (rSS X) (tA X.K G0 W0 (ac m ai)) σ H Q)⟩
end
end L3
end
section
namespace L3
open PySem L2
end L3
end
section
namespace L3
open PySem L2
section
variable {K:FG} {X:Cx}
theorem p8:∀ {a b:List Int},a.map V.int=b.map V.int->a=b
 | [],[],_=>rfl
 | [],b :: bs,e=>by cases e
 | a :: as,[],e=>by cases e
 | a :: as,b :: bs,e=>by
  rw [Fu,Fu] at e
  injection e with e1 e2
  injection e1 with e1
  rw [e1,p8 e2]
abbrev ut (H:Hp) (b:Addr) (ns:List Int):Prop:=H b=some (.tup (ns.map V.int))
def yh (H:Hp) (ks:List Int) (w:Value):Bool:=@decide (∃ b,w=.ref b/\ut H b ks) (Classical.propDecidable _)
theorem yg (h:ut H b ns):yh H ks (.ref b)=decide (ns=ks):=by
 unfold yh
 by_cases e:ns=ks
 ·grind
 ·rw [Fw e]
  refine @Fw _ (Classical.propDecidable _) ?_
  rintro ⟨c,e1,h2⟩
  injection e1 with e1
  subst e1
  unfold ut at h h2
  rw [h] at h2
  injection h2 with h2
  injection h2 with h2
  exact e (p8 h2)
inductive TupsAt (H:Hp):List V->List (List Int)->Prop
 | nil:TupsAt H [] []
 | cons {b:Addr} {ns:List Int} {vs:List V} {nss:List (List Int)}:ut H b ns->TupsAt H vs nss->TupsAt H (.ref b :: vs) (ns :: nss)
theorem TupsAt.any:∀ {a:List V} {nss:List (List Int)} {us:List Value},TupsAt H a nss->Vals a us->us.any (yh H ks)=decide (ks ∈ nss)
 | _,_,_,.nil,.nil=>rfl
 | _,_,_,.cons (b:=b) (ns:=ns) (nss:=nss) h t,.cons r rs=>by
  have c:=TupsAt.any (ks:=ks) t rs
  cases r
  rw [List.any_cons,c,yg h,Bool.eq_iff_iff]
  simp only [Bool.or_eq_true,decide_eq_true_eq,Fc]
  constructor
  ·rintro (h | h)
   ·exact .inl h.symm
   ·exact .inr h
  ·rintro (h | h)
   ·exact .inl h.symm
   ·exact .inr h
end
end L3
end
section
namespace L2
open PySem PySem.Spec PyProof.Rows
variable {cmp:Nat->Nat->Option Bool} {α β:Type}
theorem aa {m:StateT SortSt Sem α} {f:α->StateT SortSt Sem β} {st st1:SortSt} {a:α} (h1:ev cmp (m.run st) none=some ((a,st1),none)) (h2:ev cmp ((f a).run st1) none=r):ev cmp ((m >>= f).run st) none=r:=by
 show ev cmp ((m.run st).bind fun x=>(f x.1).run x.2) none=r
 rw [t4,h1]
 exact h2
theorem aE {f:Nat->β->StateT SortSt Sem (ForInStep β)} {i:Nat} {st st1:SortSt} (h:ev cmp ((f i b).run st) none=some ((.yield b1,st1),none)) (h2:ev cmp ((forIn l b1 f).run st1) none=r):ev cmp ((forIn (i :: l) b f).run st) none=r:=by
 rw [List.forIn_cons]
 exact aa h h2
theorem bf {f:Nat->β->StateT SortSt Sem (ForInStep β)} {i:Nat} {st st1:SortSt} (h:ev cmp ((f i b).run st) none=some ((.done b1,st1),none)):ev cmp ((forIn (i :: l) b f).run st) none=some ((b1,st1),none):=by
 rw [List.forIn_cons]
 exact aa h rfl
def ad (l:List Nat) (p:List (Nat × Nat × Nat)) (g:Nat):SortSt:=SortSt.mk' (aP true) ((l.map fun i=>((Value.ref i,Value.ref i):Keyed)).toArray) p.toArray g none
theorem mO:∀ L:List Nat,(L.map fun i=>((Value.ref i,Value.ref i):Keyed)).mapM k9=some L
 | []=>rfl
 | x :: L=>by
  have a:=mO L
  rw [Fu,List.mapM_cons,a]
  rfl
theorem fT {n:Nat} {g:Nat} (h0:ns.length=n) (h:ev (aw ns) (sortRuns'.run (ad (List.range n) [] 7)) none=some (((),ad L1 p g),none)):ba ns=some L1:=by
 unfold ba
 subst h0
 have e:SortSt.mk' (aP true) (mP ns.length) #[] 7 none=ad (List.range ns.length) [] 7:=rfl
 rw [e,h]
 show (arrOf (ad L1 p g)).toList.mapM k9=some L1
 show ((L1.map fun i=>((Value.ref i,Value.ref i):Keyed)).toArray).toList.mapM k9=some L1
 rw [List.toList_toArray]
 exact mO L1
end L2
end
section
namespace L2
open PySem PySem.Spec PyProof.Rows
def U6:List (List Int):=[[],[0],[1],[0,1],[2],[0,2],[1,2],[0,1,2],[3],[0,3],[1,3],[0,1,3],[2,3],[0,2,3],[1,2,3],[0,1,2,3],[4],[0,4],[1,4],[0,1,4],[2,4],[0,2,4],[1,2,4],[0,1,2,4],[3,4],[0,3,4],[1,3,4],[0,1,3,4],[2,3,4],[0,2,3,4],[1,2,3,4],[0,1,2,3,4],[5],[0,5],[1,5],[0,1,5],[2,5],[0,2,5],[1,2,5],[0,1,2,5],[3,5],[0,3,5],[1,3,5],[0,1,3,5],[2,3,5],[0,2,3,5],[1,2,3,5],[0,1,2,3,5],[4,5],[0,4,5],[1,4,5],[0,1,4,5],[2,4,5],[0,2,4,5],[1,2,4,5],[0,1,2,4,5],[3,4,5],[0,3,4,5],[1,3,4,5],[0,1,3,4,5],[2,3,4,5],[0,2,3,4,5],[1,2,3,4,5],[0,1,2,3,4,5]]
def L6_0:List Nat:=List.range 64
def L6_1:List Nat:=L6_0.take 2 ++ ([3,7,15,31,23,11,27,19,5,13,29,21,9,25,17,2,6,14,30,22,10,26,18,4,12,28,20,8,24,16] ++ L6_0.drop 32)
def L6_2:List Nat:=L6_1.take 32 ++ ([33,32] ++ L6_1.drop 34)
def fE:List Nat:=L6_2.take 32 ++ [63,47,55,39,59,43,51,35,61,45,53,37,57,41,49,33,62,46,54,38,58,42,50,34,60,44,52,36,56,40,48,32]
def L6_4:List Nat:=[0,1,3,7,15,31,63,47,23,55,39,11,27,59,43,19,51,35,5,13,29,61,45,21,53,37,9,25,57,41,17,49,33,2,6,14,30,62,46,22,54,38,10,26,58,42,18,50,34,4,12,28,60,44,20,52,36,8,24,56,40,16,48,32]
theorem g6_0:ev (aw U6) ((countRun' 0 64).run (ad L6_0 [] 7)) none=some ((some 3,(ad L6_0 [] 7)),none):=by kernel_rfl
theorem g6_1:ev (aw U6) ((binarySort' 0 32 3).run (ad L6_0 [] 7)) none=some ((true,(ad L6_1 [] 7)),none):=by kernel_rfl
theorem g6_2:ev (aw U6) ((countRun' 32 32).run (ad L6_1 [(0,32,0)] 7)) none=some ((some 2,(ad L6_2 [(0,32,0)] 7)),none):=by kernel_rfl
theorem g6_3:ev (aw U6) ((binarySort' 32 32 2).run (ad L6_2 [(0,32,0)] 7)) none=some ((true,(ad fE [(0,32,0)] 7)),none):=by kernel_rfl
theorem g6_4:ev (aw U6) ((mergeAt' 0).run (ad fE [(0,32,1),(32,32,0)] 7)) none=some ((true,(ad L6_4 [(0,64,1)] 7)),none):=by kernel_rfl
theorem runs6:ev (aw U6) (sortRuns'.run (ad L6_0 [] 7)) none=some (((),(ad L6_4 [(0,64,1)] 7)),none):=by
 rw [sortRuns'_eq]
 refine aa (a:=(ad L6_0 [] 7)) (st1:=(ad L6_0 [] 7)) rfl ?_
 have b:(arrOf (ad L6_0 [] 7)).size=64:=by kernel_rfl
 have c:minRun' 64 64 0=32:=rfl
 rw [b]
 try dsimp only
 rw [c]
 rw [Std.Legacy.Range.forIn_eq_forIn_range']
 refine aa (a:=(none,64)) (st1:=(ad fE [(0,32,1),(32,32,0)] 7)) (aE (b1:=(none,32)) (st1:=(ad L6_1 [(0,32,0)] 7)) ?_ (aE (b1:=(none,64)) (st1:=(ad fE [(0,32,1),(32,32,0)] 7)) ?_ (bf (b1:=(none,64)) (st1:=(ad fE [(0,32,1),(32,32,0)] 7)) ?_))) ?_
 ·try dsimp only
  rw [if_neg (by decide)]
  refine aa g6_0 ?_
  try dsimp only
  rw [if_pos (by decide)]
  refine aa (a:=()) (st1:=(ad L6_0 [] 7)) rfl ?_
  refine aa g6_1 ?_
  rw [if_neg (by decide)]
  refine aa (a:=(ad L6_1 [] 7)) (st1:=(ad L6_1 [] 7)) rfl ?_
  rw [show (pendingOf (ad L6_1 [] 7)).back?=none from rfl]
  try dsimp only
  refine aa (a:=()) (st1:=(ad L6_1 [(0,32,0)] 7)) rfl ?_
  exact rfl
 ·try dsimp only
  rw [if_neg (by decide)]
  refine aa g6_2 ?_
  try dsimp only
  rw [if_pos (by decide)]
  refine aa (a:=()) (st1:=(ad L6_2 [(0,32,0)] 7)) rfl ?_
  refine aa g6_3 ?_
  rw [if_neg (by decide)]
  refine aa (a:=(ad fE [(0,32,0)] 7)) (st1:=(ad fE [(0,32,0)] 7)) rfl ?_
  rw [show (pendingOf (ad fE [(0,32,0)] 7)).back?=some (0,32,0) from rfl]
  try dsimp only
  rw [Std.Legacy.Range.forIn_eq_forIn_range']
  refine aa (a:=(none,())) (st1:=(ad fE [(0,32,0)] 7)) (bf (b1:=(none,())) (st1:=(ad fE [(0,32,0)] 7)) ?_) ?_
  ·try dsimp only
   refine aa (a:=(ad fE [(0,32,0)] 7)) (st1:=(ad fE [(0,32,0)] 7)) rfl ?_
   rw [show (if (pendingOf (ad fE [(0,32,0)] 7)).size > 1 then (pendingOf (ad fE [(0,32,0)] 7))[(pendingOf (ad fE [(0,32,0)] 7)).size - 2]? else none)=none from rfl]
   exact rfl
  try dsimp only
  refine aa (a:=()) (st1:=(ad fE [(0,32,1)] 7)) rfl ?_
  refine aa (a:=()) (st1:=(ad fE [(0,32,1),(32,32,0)] 7)) rfl ?_
  exact rfl
 ·try dsimp only
  rw [if_pos (by decide)]
  exact rfl
 try dsimp only
 rw [Std.Legacy.Range.forIn_eq_forIn_range']
 refine aa (a:=(none,())) (st1:=(ad L6_4 [(0,64,1)] 7)) (aE (b1:=(none,())) (st1:=(ad L6_4 [(0,64,1)] 7)) ?_ (bf (b1:=(none,())) (st1:=(ad L6_4 [(0,64,1)] 7)) ?_)) ?_
 ·try dsimp only
  refine aa (a:=(ad fE [(0,32,1),(32,32,0)] 7)) (st1:=(ad fE [(0,32,1),(32,32,0)] 7)) rfl ?_
  rw [if_neg (by decide)]
  refine aa g6_4 ?_
  rw [if_neg (by decide)]
  exact rfl
 ·try dsimp only
  refine aa (a:=(ad L6_4 [(0,64,1)] 7)) (st1:=(ad L6_4 [(0,64,1)] 7)) rfl ?_
  rw [if_pos (by decide)]
  exact rfl
 exact rfl
theorem sort6:ba U6=some L6_4:=fT (n:=64) rfl runs6
end L2
end
section
namespace L2
open PySem PySem.Spec PyProof.Rows
def U7:List (List Int):=[[],[0],[1],[0,1],[2],[0,2],[1,2],[0,1,2],[3],[0,3],[1,3],[0,1,3],[2,3],[0,2,3],[1,2,3],[0,1,2,3],[4],[0,4],[1,4],[0,1,4],[2,4],[0,2,4],[1,2,4],[0,1,2,4],[3,4],[0,3,4],[1,3,4],[0,1,3,4],[2,3,4],[0,2,3,4],[1,2,3,4],[0,1,2,3,4],[5],[0,5],[1,5],[0,1,5],[2,5],[0,2,5],[1,2,5],[0,1,2,5],[3,5],[0,3,5],[1,3,5],[0,1,3,5],[2,3,5],[0,2,3,5],[1,2,3,5],[0,1,2,3,5],[4,5],[0,4,5],[1,4,5],[0,1,4,5],[2,4,5],[0,2,4,5],[1,2,4,5],[0,1,2,4,5],[3,4,5],[0,3,4,5],[1,3,4,5],[0,1,3,4,5],[2,3,4,5],[0,2,3,4,5],[1,2,3,4,5],[0,1,2,3,4,5],[6],[0,6],[1,6],[0,1,6],[2,6],[0,2,6],[1,2,6],[0,1,2,6],[3,6],[0,3,6],[1,3,6],[0,1,3,6],[2,3,6],[0,2,3,6],[1,2,3,6],[0,1,2,3,6],[4,6],[0,4,6],[1,4,6],[0,1,4,6],[2,4,6],[0,2,4,6],[1,2,4,6],[0,1,2,4,6],[3,4,6],[0,3,4,6],[1,3,4,6],[0,1,3,4,6],[2,3,4,6],[0,2,3,4,6],[1,2,3,4,6],[0,1,2,3,4,6],[5,6],[0,5,6],[1,5,6],[0,1,5,6],[2,5,6],[0,2,5,6],[1,2,5,6],[0,1,2,5,6],[3,5,6],[0,3,5,6],[1,3,5,6],[0,1,3,5,6],[2,3,5,6],[0,2,3,5,6],[1,2,3,5,6],[0,1,2,3,5,6],[4,5,6],[0,4,5,6],[1,4,5,6],[0,1,4,5,6],[2,4,5,6],[0,2,4,5,6],[1,2,4,5,6],[0,1,2,4,5,6],[3,4,5,6],[0,3,4,5,6],[1,3,4,5,6],[0,1,3,4,5,6],[2,3,4,5,6],[0,2,3,4,5,6],[1,2,3,4,5,6],[0,1,2,3,4,5,6]]
def L7_0:List Nat:=List.range 128
def L7_1:List Nat:=L7_0.take 2 ++ ([3,7,15,31,23,11,27,19,5,13,29,21,9,25,17,2,6,14,30,22,10,26,18,4,12,28,20,8,24,16] ++ L7_0.drop 32)
def L7_2:List Nat:=L7_1.take 32 ++ ([33,32] ++ L7_1.drop 34)
def L7_3:List Nat:=L7_2.take 32 ++ ([63,47,55,39,59,43,51,35,61,45,53,37,57,41,49,33,62,46,54,38,58,42,50,34,60,44,52,36,56,40,48,32] ++ L7_2.drop 64)
def L7_4:List Nat:=L7_3.take 64 ++ ([65,64] ++ L7_3.drop 66)
def L7_5:List Nat:=L7_4.take 64 ++ ([95,79,87,71,91,75,83,67,93,77,85,69,89,73,81,65,94,78,86,70,90,74,82,66,92,76,84,68,88,72,80,64] ++ L7_4.drop 96)
def L7_6:List Nat:=L7_5.take 6 ++ ([63,47,23,55,39,11,27,59,43,19,51,35,5,13,29,61,45,21,53,37,9,25,57,41,17,49,33,2,6,14,30,62,46,22,54,38,10,26,58,42,18,50,34,4,12,28,60,44,20,52,36,8,24,56,40,16] ++ L7_5.drop 62)
def L7_7:List Nat:=L7_6.take 96 ++ ([97,96] ++ L7_6.drop 98)
def L7_8:List Nat:=L7_7.take 96 ++ [127,111,119,103,123,107,115,99,125,109,117,101,121,105,113,97,126,110,118,102,122,106,114,98,124,108,116,100,120,104,112,96]
def zI:List Nat:=L7_8.take 64 ++ [127,95,111,79,119,87,103,71,123,91,107,75,115,83,99,67,125,93,109,77,117,85,101,69,121,89,105,73,113,81,97,65,126,94,110,78,118,86,102,70,122,90,106,74,114,82,98,66,124,92,108,76,116,84,100,68,120,88,104,72,112,80,96,64]
def L7_10:List Nat:=[0,1,3,7,15,31,63,127,95,47,111,79,23,55,119,87,39,103,71,11,27,59,123,91,43,107,75,19,51,115,83,35,99,67,5,13,29,61,125,93,45,109,77,21,53,117,85,37,101,69,9,25,57,121,89,41,105,73,17,49,113,81,33,97,65,2,6,14,30,62,126,94,46,110,78,22,54,118,86,38,102,70,10,26,58,122,90,42,106,74,18,50,114,82,34,98,66,4,12,28,60,124,92,44,108,76,20,52,116,84,36,100,68,8,24,56,120,88,40,104,72,16,48,112,80,32,96,64]
theorem g7_0:ev (aw U7) ((countRun' 0 128).run (ad L7_0 [] 7)) none=some ((some 3,(ad L7_0 [] 7)),none):=by kernel_rfl
theorem g7_1:ev (aw U7) ((binarySort' 0 32 3).run (ad L7_0 [] 7)) none=some ((true,(ad L7_1 [] 7)),none):=by kernel_rfl
theorem g7_2:ev (aw U7) ((countRun' 32 96).run (ad L7_1 [(0,32,0)] 7)) none=some ((some 2,(ad L7_2 [(0,32,0)] 7)),none):=by kernel_rfl
theorem g7_3:ev (aw U7) ((binarySort' 32 32 2).run (ad L7_2 [(0,32,0)] 7)) none=some ((true,(ad L7_3 [(0,32,0)] 7)),none):=by kernel_rfl
theorem g7_4:ev (aw U7) ((countRun' 64 64).run (ad L7_3 [(0,32,2),(32,32,0)] 7)) none=some ((some 2,(ad L7_4 [(0,32,2),(32,32,0)] 7)),none):=by kernel_rfl
theorem g7_5:ev (aw U7) ((binarySort' 64 32 2).run (ad L7_4 [(0,32,2),(32,32,0)] 7)) none=some ((true,(ad L7_5 [(0,32,2),(32,32,0)] 7)),none):=by kernel_rfl
theorem g7_6:ev (aw U7) ((mergeAt' 0).run (ad L7_5 [(0,32,2),(32,32,0)] 7)) none=some ((true,(ad L7_6 [(0,64,2)] 7)),none):=by kernel_rfl
theorem g7_7:ev (aw U7) ((countRun' 96 32).run (ad L7_6 [(0,64,1),(64,32,0)] 7)) none=some ((some 2,(ad L7_7 [(0,64,1),(64,32,0)] 7)),none):=by kernel_rfl
theorem g7_8:ev (aw U7) ((binarySort' 96 32 2).run (ad L7_7 [(0,64,1),(64,32,0)] 7)) none=some ((true,(ad L7_8 [(0,64,1),(64,32,0)] 7)),none):=by kernel_rfl
theorem g7_9:ev (aw U7) ((mergeAt' 1).run (ad L7_8 [(0,64,1),(64,32,2),(96,32,0)] 7)) none=some ((true,(ad zI [(0,64,1),(64,64,2)] 7)),none):=by kernel_rfl
theorem g7_10:ev (aw U7) ((mergeAt' 0).run (ad zI [(0,64,1),(64,64,2)] 7)) none=some ((true,(ad L7_10 [(0,128,1)] 7)),none):=by kernel_rfl
theorem runs7:ev (aw U7) (sortRuns'.run (ad L7_0 [] 7)) none=some (((),(ad L7_10 [(0,128,1)] 7)),none):=by
 rw [sortRuns'_eq]
 refine aa (a:=(ad L7_0 [] 7)) (st1:=(ad L7_0 [] 7)) rfl ?_
 have b:(arrOf (ad L7_0 [] 7)).size=128:=by kernel_rfl
 have c:minRun' 128 128 0=32:=rfl
 rw [b]
 try dsimp only
 rw [c]
 rw [Std.Legacy.Range.forIn_eq_forIn_range']
 refine aa (a:=(none,128)) (st1:=(ad L7_8 [(0,64,1),(64,32,2),(96,32,0)] 7)) (aE (b1:=(none,32)) (st1:=(ad L7_1 [(0,32,0)] 7)) ?_ (aE (b1:=(none,64)) (st1:=(ad L7_3 [(0,32,2),(32,32,0)] 7)) ?_ (aE (b1:=(none,96)) (st1:=(ad L7_6 [(0,64,1),(64,32,0)] 7)) ?_ (aE (b1:=(none,128)) (st1:=(ad L7_8 [(0,64,1),(64,32,2),(96,32,0)] 7)) ?_ (bf (b1:=(none,128)) (st1:=(ad L7_8 [(0,64,1),(64,32,2),(96,32,0)] 7)) ?_))))) ?_
 ·try dsimp only
  rw [if_neg (by decide)]
  refine aa g7_0 ?_
  try dsimp only
  rw [if_pos (by decide)]
  refine aa (a:=()) (st1:=(ad L7_0 [] 7)) rfl ?_
  refine aa g7_1 ?_
  rw [if_neg (by decide)]
  refine aa (a:=(ad L7_1 [] 7)) (st1:=(ad L7_1 [] 7)) rfl ?_
  rw [show (pendingOf (ad L7_1 [] 7)).back?=none from rfl]
  try dsimp only
  refine aa (a:=()) (st1:=(ad L7_1 [(0,32,0)] 7)) rfl ?_
  exact rfl
 ·try dsimp only
  rw [if_neg (by decide)]
  refine aa g7_2 ?_
  try dsimp only
  rw [if_pos (by decide)]
  refine aa (a:=()) (st1:=(ad L7_2 [(0,32,0)] 7)) rfl ?_
  refine aa g7_3 ?_
  rw [if_neg (by decide)]
  refine aa (a:=(ad L7_3 [(0,32,0)] 7)) (st1:=(ad L7_3 [(0,32,0)] 7)) rfl ?_
  rw [show (pendingOf (ad L7_3 [(0,32,0)] 7)).back?=some (0,32,0) from rfl]
  try dsimp only
  rw [Std.Legacy.Range.forIn_eq_forIn_range']
  refine aa (a:=(none,())) (st1:=(ad L7_3 [(0,32,0)] 7)) (bf (b1:=(none,())) (st1:=(ad L7_3 [(0,32,0)] 7)) ?_) ?_
  ·try dsimp only
   refine aa (a:=(ad L7_3 [(0,32,0)] 7)) (st1:=(ad L7_3 [(0,32,0)] 7)) rfl ?_
   rw [show (if (pendingOf (ad L7_3 [(0,32,0)] 7)).size > 1 then (pendingOf (ad L7_3 [(0,32,0)] 7))[(pendingOf (ad L7_3 [(0,32,0)] 7)).size - 2]? else none)=none from rfl]
   exact rfl
  try dsimp only
  refine aa (a:=()) (st1:=(ad L7_3 [(0,32,2)] 7)) rfl ?_
  refine aa (a:=()) (st1:=(ad L7_3 [(0,32,2),(32,32,0)] 7)) rfl ?_
  exact rfl
 ·try dsimp only
  rw [if_neg (by decide)]
  refine aa g7_4 ?_
  try dsimp only
  rw [if_pos (by decide)]
  refine aa (a:=()) (st1:=(ad L7_4 [(0,32,2),(32,32,0)] 7)) rfl ?_
  refine aa g7_5 ?_
  rw [if_neg (by decide)]
  refine aa (a:=(ad L7_5 [(0,32,2),(32,32,0)] 7)) (st1:=(ad L7_5 [(0,32,2),(32,32,0)] 7)) rfl ?_
  rw [show (pendingOf (ad L7_5 [(0,32,2),(32,32,0)] 7)).back?=some (32,32,0) from rfl]
  try dsimp only
  rw [Std.Legacy.Range.forIn_eq_forIn_range']
  refine aa (a:=(none,())) (st1:=(ad L7_6 [(0,64,2)] 7)) (aE (b1:=(none,())) (st1:=(ad L7_6 [(0,64,2)] 7)) ?_ (bf (b1:=(none,())) (st1:=(ad L7_6 [(0,64,2)] 7)) ?_)) ?_
  ·try dsimp only
   refine aa (a:=(ad L7_5 [(0,32,2),(32,32,0)] 7)) (st1:=(ad L7_5 [(0,32,2),(32,32,0)] 7)) rfl ?_
   rw [show (if (pendingOf (ad L7_5 [(0,32,2),(32,32,0)] 7)).size > 1 then (pendingOf (ad L7_5 [(0,32,2),(32,32,0)] 7))[(pendingOf (ad L7_5 [(0,32,2),(32,32,0)] 7)).size - 2]? else none)=some (0,32,2) from rfl]
   try dsimp only
   rw [if_neg (by decide)]
   refine aa g7_6 ?_
   rw [if_neg (by decide)]
   exact rfl
  ·try dsimp only
   refine aa (a:=(ad L7_6 [(0,64,2)] 7)) (st1:=(ad L7_6 [(0,64,2)] 7)) rfl ?_
   rw [show (if (pendingOf (ad L7_6 [(0,64,2)] 7)).size > 1 then (pendingOf (ad L7_6 [(0,64,2)] 7))[(pendingOf (ad L7_6 [(0,64,2)] 7)).size - 2]? else none)=none from rfl]
   exact rfl
  try dsimp only
  refine aa (a:=()) (st1:=(ad L7_6 [(0,64,1)] 7)) rfl ?_
  refine aa (a:=()) (st1:=(ad L7_6 [(0,64,1),(64,32,0)] 7)) rfl ?_
  exact rfl
 ·try dsimp only
  rw [if_neg (by decide)]
  refine aa g7_7 ?_
  try dsimp only
  rw [if_pos (by decide)]
  refine aa (a:=()) (st1:=(ad L7_7 [(0,64,1),(64,32,0)] 7)) rfl ?_
  refine aa g7_8 ?_
  rw [if_neg (by decide)]
  refine aa (a:=(ad L7_8 [(0,64,1),(64,32,0)] 7)) (st1:=(ad L7_8 [(0,64,1),(64,32,0)] 7)) rfl ?_
  rw [show (pendingOf (ad L7_8 [(0,64,1),(64,32,0)] 7)).back?=some (64,32,0) from rfl]
  try dsimp only
  rw [Std.Legacy.Range.forIn_eq_forIn_range']
  refine aa (a:=(none,())) (st1:=(ad L7_8 [(0,64,1),(64,32,0)] 7)) (bf (b1:=(none,())) (st1:=(ad L7_8 [(0,64,1),(64,32,0)] 7)) ?_) ?_
  ·try dsimp only
   refine aa (a:=(ad L7_8 [(0,64,1),(64,32,0)] 7)) (st1:=(ad L7_8 [(0,64,1),(64,32,0)] 7)) rfl ?_
   rw [show (if (pendingOf (ad L7_8 [(0,64,1),(64,32,0)] 7)).size > 1 then (pendingOf (ad L7_8 [(0,64,1),(64,32,0)] 7))[(pendingOf (ad L7_8 [(0,64,1),(64,32,0)] 7)).size - 2]? else none)=some (0,64,1) from rfl]
   try dsimp only
   rw [if_pos (by decide)]
   exact rfl
  try dsimp only
  refine aa (a:=()) (st1:=(ad L7_8 [(0,64,1),(64,32,2)] 7)) rfl ?_
  refine aa (a:=()) (st1:=(ad L7_8 [(0,64,1),(64,32,2),(96,32,0)] 7)) rfl ?_
  exact rfl
 ·try dsimp only
  rw [if_pos (by decide)]
  exact rfl
 try dsimp only
 rw [Std.Legacy.Range.forIn_eq_forIn_range']
 refine aa (a:=(none,())) (st1:=(ad L7_10 [(0,128,1)] 7)) (aE (b1:=(none,())) (st1:=(ad zI [(0,64,1),(64,64,2)] 7)) ?_ (aE (b1:=(none,())) (st1:=(ad L7_10 [(0,128,1)] 7)) ?_ (bf (b1:=(none,())) (st1:=(ad L7_10 [(0,128,1)] 7)) ?_))) ?_
 ·try dsimp only
  refine aa (a:=(ad L7_8 [(0,64,1),(64,32,2),(96,32,0)] 7)) (st1:=(ad L7_8 [(0,64,1),(64,32,2),(96,32,0)] 7)) rfl ?_
  rw [if_neg (by decide)]
  refine aa g7_9 ?_
  rw [if_neg (by decide)]
  exact rfl
 ·try dsimp only
  refine aa (a:=(ad zI [(0,64,1),(64,64,2)] 7)) (st1:=(ad zI [(0,64,1),(64,64,2)] 7)) rfl ?_
  rw [if_neg (by decide)]
  refine aa g7_10 ?_
  rw [if_neg (by decide)]
  exact rfl
 ·try dsimp only
  refine aa (a:=(ad L7_10 [(0,128,1)] 7)) (st1:=(ad L7_10 [(0,128,1)] 7)) rfl ?_
  rw [if_pos (by decide)]
  exact rfl
 exact rfl
theorem sort7:ba U7=some L7_10:=fT (n:=128) rfl runs7
end L2
end
section
namespace L2
open PySem PySem.Spec PyProof.Rows
def U8:List (List Int):=[[],[0],[1],[0,1],[2],[0,2],[1,2],[0,1,2],[3],[0,3],[1,3],[0,1,3],[2,3],[0,2,3],[1,2,3],[0,1,2,3],[4],[0,4],[1,4],[0,1,4],[2,4],[0,2,4],[1,2,4],[0,1,2,4],[3,4],[0,3,4],[1,3,4],[0,1,3,4],[2,3,4],[0,2,3,4],[1,2,3,4],[0,1,2,3,4],[5],[0,5],[1,5],[0,1,5],[2,5],[0,2,5],[1,2,5],[0,1,2,5],[3,5],[0,3,5],[1,3,5],[0,1,3,5],[2,3,5],[0,2,3,5],[1,2,3,5],[0,1,2,3,5],[4,5],[0,4,5],[1,4,5],[0,1,4,5],[2,4,5],[0,2,4,5],[1,2,4,5],[0,1,2,4,5],[3,4,5],[0,3,4,5],[1,3,4,5],[0,1,3,4,5],[2,3,4,5],[0,2,3,4,5],[1,2,3,4,5],[0,1,2,3,4,5],[6],[0,6],[1,6],[0,1,6],[2,6],[0,2,6],[1,2,6],[0,1,2,6],[3,6],[0,3,6],[1,3,6],[0,1,3,6],[2,3,6],[0,2,3,6],[1,2,3,6],[0,1,2,3,6],[4,6],[0,4,6],[1,4,6],[0,1,4,6],[2,4,6],[0,2,4,6],[1,2,4,6],[0,1,2,4,6],[3,4,6],[0,3,4,6],[1,3,4,6],[0,1,3,4,6],[2,3,4,6],[0,2,3,4,6],[1,2,3,4,6],[0,1,2,3,4,6],[5,6],[0,5,6],[1,5,6],[0,1,5,6],[2,5,6],[0,2,5,6],[1,2,5,6],[0,1,2,5,6],[3,5,6],[0,3,5,6],[1,3,5,6],[0,1,3,5,6],[2,3,5,6],[0,2,3,5,6],[1,2,3,5,6],[0,1,2,3,5,6],[4,5,6],[0,4,5,6],[1,4,5,6],[0,1,4,5,6],[2,4,5,6],[0,2,4,5,6],[1,2,4,5,6],[0,1,2,4,5,6],[3,4,5,6],[0,3,4,5,6],[1,3,4,5,6],[0,1,3,4,5,6],[2,3,4,5,6],[0,2,3,4,5,6],[1,2,3,4,5,6],[0,1,2,3,4,5,6],[7],[0,7],[1,7],[0,1,7],[2,7],[0,2,7],[1,2,7],[0,1,2,7],[3,7],[0,3,7],[1,3,7],[0,1,3,7],[2,3,7],[0,2,3,7],[1,2,3,7],[0,1,2,3,7],[4,7],[0,4,7],[1,4,7],[0,1,4,7],[2,4,7],[0,2,4,7],[1,2,4,7],[0,1,2,4,7],[3,4,7],[0,3,4,7],[1,3,4,7],[0,1,3,4,7],[2,3,4,7],[0,2,3,4,7],[1,2,3,4,7],[0,1,2,3,4,7],[5,7],[0,5,7],[1,5,7],[0,1,5,7],[2,5,7],[0,2,5,7],[1,2,5,7],[0,1,2,5,7],[3,5,7],[0,3,5,7],[1,3,5,7],[0,1,3,5,7],[2,3,5,7],[0,2,3,5,7],[1,2,3,5,7],[0,1,2,3,5,7],[4,5,7],[0,4,5,7],[1,4,5,7],[0,1,4,5,7],[2,4,5,7],[0,2,4,5,7],[1,2,4,5,7],[0,1,2,4,5,7],[3,4,5,7],[0,3,4,5,7],[1,3,4,5,7],[0,1,3,4,5,7],[2,3,4,5,7],[0,2,3,4,5,7],[1,2,3,4,5,7],[0,1,2,3,4,5,7],[6,7],[0,6,7],[1,6,7],[0,1,6,7],[2,6,7],[0,2,6,7],[1,2,6,7],[0,1,2,6,7],[3,6,7],[0,3,6,7],[1,3,6,7],[0,1,3,6,7],[2,3,6,7],[0,2,3,6,7],[1,2,3,6,7],[0,1,2,3,6,7],[4,6,7],[0,4,6,7],[1,4,6,7],[0,1,4,6,7],[2,4,6,7],[0,2,4,6,7],[1,2,4,6,7],[0,1,2,4,6,7],[3,4,6,7],[0,3,4,6,7],[1,3,4,6,7],[0,1,3,4,6,7],[2,3,4,6,7],[0,2,3,4,6,7],[1,2,3,4,6,7],[0,1,2,3,4,6,7],[5,6,7],[0,5,6,7],[1,5,6,7],[0,1,5,6,7],[2,5,6,7],[0,2,5,6,7],[1,2,5,6,7],[0,1,2,5,6,7],[3,5,6,7],[0,3,5,6,7],[1,3,5,6,7],[0,1,3,5,6,7],[2,3,5,6,7],[0,2,3,5,6,7],[1,2,3,5,6,7],[0,1,2,3,5,6,7],[4,5,6,7],[0,4,5,6,7],[1,4,5,6,7],[0,1,4,5,6,7],[2,4,5,6,7],[0,2,4,5,6,7],[1,2,4,5,6,7],[0,1,2,4,5,6,7],[3,4,5,6,7],[0,3,4,5,6,7],[1,3,4,5,6,7],[0,1,3,4,5,6,7],[2,3,4,5,6,7],[0,2,3,4,5,6,7],[1,2,3,4,5,6,7],[0,1,2,3,4,5,6,7]]
def L8_0:List Nat:=List.range 256
def L8_1:List Nat:=L8_0.take 2 ++ ([3,7,15,31,23,11,27,19,5,13,29,21,9,25,17,2,6,14,30,22,10,26,18,4,12,28,20,8,24,16] ++ L8_0.drop 32)
def L8_2:List Nat:=L8_1.take 32 ++ ([33,32] ++ L8_1.drop 34)
def L8_3:List Nat:=L8_2.take 32 ++ ([63,47,55,39,59,43,51,35,61,45,53,37,57,41,49,33,62,46,54,38,58,42,50,34,60,44,52,36,56,40,48,32] ++ L8_2.drop 64)
def L8_4:List Nat:=L8_3.take 64 ++ ([65,64] ++ L8_3.drop 66)
def L8_5:List Nat:=L8_4.take 64 ++ ([95,79,87,71,91,75,83,67,93,77,85,69,89,73,81,65,94,78,86,70,90,74,82,66,92,76,84,68,88,72,80,64] ++ L8_4.drop 96)
def L8_6:List Nat:=L8_5.take 6 ++ ([63,47,23,55,39,11,27,59,43,19,51,35,5,13,29,61,45,21,53,37,9,25,57,41,17,49,33,2,6,14,30,62,46,22,54,38,10,26,58,42,18,50,34,4,12,28,60,44,20,52,36,8,24,56,40,16] ++ L8_5.drop 62)
def L8_7:List Nat:=L8_6.take 96 ++ ([97,96] ++ L8_6.drop 98)
def L8_8:List Nat:=L8_7.take 96 ++ ([127,111,119,103,123,107,115,99,125,109,117,101,121,105,113,97,126,110,118,102,122,106,114,98,124,108,116,100,120,104,112,96] ++ L8_7.drop 128)
def L8_9:List Nat:=L8_8.take 128 ++ ([129,128] ++ L8_8.drop 130)
def L8_10:List Nat:=L8_9.take 128 ++ ([159,143,151,135,155,139,147,131,157,141,149,133,153,137,145,129,158,142,150,134,154,138,146,130,156,140,148,132,152,136,144,128] ++ L8_9.drop 160)
def L8_11:List Nat:=L8_10.take 64 ++ ([127,95,111,79,119,87,103,71,123,91,107,75,115,83,99,67,125,93,109,77,117,85,101,69,121,89,105,73,113,81,97,65,126,94,110,78,118,86,102,70,122,90,106,74,114,82,98,66,124,92,108,76,116,84,100,68,120,88,104,72,112,80,96,64] ++ L8_10.drop 128)
def L8_12:List Nat:=L8_11.take 7 ++ ([127,95,47,111,79,23,55,119,87,39,103,71,11,27,59,123,91,43,107,75,19,51,115,83,35,99,67,5,13,29,61,125,93,45,109,77,21,53,117,85,37,101,69,9,25,57,121,89,41,105,73,17,49,113,81,33,97,65,2,6,14,30,62,126,94,46,110,78,22,54,118,86,38,102,70,10,26,58,122,90,42,106,74,18,50,114,82,34,98,66,4,12,28,60,124,92,44,108,76,20,52,116,84,36,100,68,8,24,56,120,88,40,104,72,16,48,112,80,32] ++ L8_11.drop 126)
def L8_13:List Nat:=L8_12.take 160 ++ ([161,160] ++ L8_12.drop 162)
def L8_14:List Nat:=L8_13.take 160 ++ ([191,175,183,167,187,171,179,163,189,173,181,165,185,169,177,161,190,174,182,166,186,170,178,162,188,172,180,164,184,168,176,160] ++ L8_13.drop 192)
def L8_15:List Nat:=L8_14.take 192 ++ ([193,192] ++ L8_14.drop 194)
def L8_16:List Nat:=L8_15.take 192 ++ ([223,207,215,199,219,203,211,195,221,205,213,197,217,201,209,193,222,206,214,198,218,202,210,194,220,204,212,196,216,200,208,192] ++ L8_15.drop 224)
def L8_17:List Nat:=L8_16.take 128 ++ ([191,159,175,143,183,151,167,135,187,155,171,139,179,147,163,131,189,157,173,141,181,149,165,133,185,153,169,137,177,145,161,129,190,158,174,142,182,150,166,134,186,154,170,138,178,146,162,130,188,156,172,140,180,148,164,132,184,152,168,136,176,144,160,128] ++ L8_16.drop 192)
def L8_18:List Nat:=L8_17.take 224 ++ ([225,224] ++ L8_17.drop 226)
def L8_19:List Nat:=L8_18.take 224 ++ [255,239,247,231,251,235,243,227,253,237,245,229,249,233,241,225,254,238,246,230,250,234,242,226,252,236,244,228,248,232,240,224]
def L8_20:List Nat:=L8_19.take 192 ++ [255,223,239,207,247,215,231,199,251,219,235,203,243,211,227,195,253,221,237,205,245,213,229,197,249,217,233,201,241,209,225,193,254,222,238,206,246,214,230,198,250,218,234,202,242,210,226,194,252,220,236,204,244,212,228,196,248,216,232,200,240,208,224,192]
def L8_21:List Nat:=L8_20.take 128 ++ [255,191,223,159,239,175,207,143,247,183,215,151,231,167,199,135,251,187,219,155,235,171,203,139,243,179,211,147,227,163,195,131,253,189,221,157,237,173,205,141,245,181,213,149,229,165,197,133,249,185,217,153,233,169,201,137,241,177,209,145,225,161,193,129,254,190,222,158,238,174,206,142,246,182,214,150,230,166,198,134,250,186,218,154,234,170,202,138,242,178,210,146,226,162,194,130,252,188,220,156,236,172,204,140,244,180,212,148,228,164,196,132,248,184,216,152,232,168,200,136,240,176,208,144,224,160,192,128]
def L8_22:List Nat:=L8_21.take 8 ++ ([255,191,95,223,159,47,111,239,175,79,207,143,23,55,119,247,183,87,215,151,39,103,231,167,71,199,135,11,27,59,123,251,187,91,219,155,43,107,235,171,75,203,139,19,51,115,243,179,83,211,147,35,99,227,163,67,195,131,5,13,29,61,125,253,189,93,221,157,45,109,237,173,77,205,141,21,53,117,245,181,85,213,149,37,101,229,165,69,197,133,9,25,57,121,249,185,89,217,153,41,105,233,169,73,201,137,17,49,113,241,177,81,209,145,33,97,225,161,65,193,129,2,6,14,30,62,126,254,190,94,222,158,46,110,238,174,78,206,142,22,54,118,246,182,86,214,150,38,102,230,166,70,198,134,10,26,58,122,250,186,90,218,154,42,106,234,170,74,202,138,18,50,114,242,178,82,210,146,34,98,226,162,66,194,130,4,12,28,60,124,252,188,92,220,156,44,108,236,172,76,204,140,20,52,116,244,180,84,212,148,36,100,228,164,68,196,132,8,24,56,120,248,184,88,216,152,40,104,232,168,72,200,136,16,48,112,240,176,80,208,144,32,96,224,160,64] ++ L8_21.drop 254)
theorem g8_0:ev (aw U8) ((countRun' 0 256).run (ad L8_0 [] 7)) none=some ((some 3,(ad L8_0 [] 7)),none):=by kernel_rfl
theorem g8_1:ev (aw U8) ((binarySort' 0 32 3).run (ad L8_0 [] 7)) none=some ((true,(ad L8_1 [] 7)),none):=by kernel_rfl
theorem g8_2:ev (aw U8) ((countRun' 32 224).run (ad L8_1 [(0,32,0)] 7)) none=some ((some 2,(ad L8_2 [(0,32,0)] 7)),none):=by kernel_rfl
theorem g8_3:ev (aw U8) ((binarySort' 32 32 2).run (ad L8_2 [(0,32,0)] 7)) none=some ((true,(ad L8_3 [(0,32,0)] 7)),none):=by kernel_rfl
theorem g8_4:ev (aw U8) ((countRun' 64 192).run (ad L8_3 [(0,32,3),(32,32,0)] 7)) none=some ((some 2,(ad L8_4 [(0,32,3),(32,32,0)] 7)),none):=by kernel_rfl
theorem g8_5:ev (aw U8) ((binarySort' 64 32 2).run (ad L8_4 [(0,32,3),(32,32,0)] 7)) none=some ((true,(ad L8_5 [(0,32,3),(32,32,0)] 7)),none):=by kernel_rfl
theorem g8_6:ev (aw U8) ((mergeAt' 0).run (ad L8_5 [(0,32,3),(32,32,0)] 7)) none=some ((true,(ad L8_6 [(0,64,3)] 7)),none):=by kernel_rfl
theorem g8_7:ev (aw U8) ((countRun' 96 160).run (ad L8_6 [(0,64,2),(64,32,0)] 7)) none=some ((some 2,(ad L8_7 [(0,64,2),(64,32,0)] 7)),none):=by kernel_rfl
theorem g8_8:ev (aw U8) ((binarySort' 96 32 2).run (ad L8_7 [(0,64,2),(64,32,0)] 7)) none=some ((true,(ad L8_8 [(0,64,2),(64,32,0)] 7)),none):=by kernel_rfl
theorem g8_9:ev (aw U8) ((countRun' 128 128).run (ad L8_8 [(0,64,2),(64,32,3),(96,32,0)] 7)) none=some ((some 2,(ad L8_9 [(0,64,2),(64,32,3),(96,32,0)] 7)),none):=by kernel_rfl
theorem g8_10:ev (aw U8) ((binarySort' 128 32 2).run (ad L8_9 [(0,64,2),(64,32,3),(96,32,0)] 7)) none=some ((true,(ad L8_10 [(0,64,2),(64,32,3),(96,32,0)] 7)),none):=by kernel_rfl
theorem g8_11:ev (aw U8) ((mergeAt' 1).run (ad L8_10 [(0,64,2),(64,32,3),(96,32,0)] 7)) none=some ((true,(ad L8_11 [(0,64,2),(64,64,3)] 7)),none):=by kernel_rfl
theorem g8_12:ev (aw U8) ((mergeAt' 0).run (ad L8_11 [(0,64,2),(64,64,3)] 7)) none=some ((true,(ad L8_12 [(0,128,2)] 7)),none):=by kernel_rfl
theorem g8_13:ev (aw U8) ((countRun' 160 96).run (ad L8_12 [(0,128,1),(128,32,0)] 7)) none=some ((some 2,(ad L8_13 [(0,128,1),(128,32,0)] 7)),none):=by kernel_rfl
theorem g8_14:ev (aw U8) ((binarySort' 160 32 2).run (ad L8_13 [(0,128,1),(128,32,0)] 7)) none=some ((true,(ad L8_14 [(0,128,1),(128,32,0)] 7)),none):=by kernel_rfl
theorem g8_15:ev (aw U8) ((countRun' 192 64).run (ad L8_14 [(0,128,1),(128,32,3),(160,32,0)] 7)) none=some ((some 2,(ad L8_15 [(0,128,1),(128,32,3),(160,32,0)] 7)),none):=by kernel_rfl
theorem g8_16:ev (aw U8) ((binarySort' 192 32 2).run (ad L8_15 [(0,128,1),(128,32,3),(160,32,0)] 7)) none=some ((true,(ad L8_16 [(0,128,1),(128,32,3),(160,32,0)] 7)),none):=by kernel_rfl
theorem g8_17:ev (aw U8) ((mergeAt' 1).run (ad L8_16 [(0,128,1),(128,32,3),(160,32,0)] 7)) none=some ((true,(ad L8_17 [(0,128,1),(128,64,3)] 7)),none):=by kernel_rfl
theorem g8_18:ev (aw U8) ((countRun' 224 32).run (ad L8_17 [(0,128,1),(128,64,2),(192,32,0)] 7)) none=some ((some 2,(ad L8_18 [(0,128,1),(128,64,2),(192,32,0)] 7)),none):=by kernel_rfl
theorem g8_19:ev (aw U8) ((binarySort' 224 32 2).run (ad L8_18 [(0,128,1),(128,64,2),(192,32,0)] 7)) none=some ((true,(ad L8_19 [(0,128,1),(128,64,2),(192,32,0)] 7)),none):=by kernel_rfl
theorem g8_20:ev (aw U8) ((mergeAt' 2).run (ad L8_19 [(0,128,1),(128,64,2),(192,32,3),(224,32,0)] 7)) none=some ((true,(ad L8_20 [(0,128,1),(128,64,2),(192,64,3)] 7)),none):=by kernel_rfl
theorem g8_21:ev (aw U8) ((mergeAt' 1).run (ad L8_20 [(0,128,1),(128,64,2),(192,64,3)] 7)) none=some ((true,(ad L8_21 [(0,128,1),(128,128,2)] 7)),none):=by kernel_rfl
theorem g8_22:ev (aw U8) ((mergeAt' 0).run (ad L8_21 [(0,128,1),(128,128,2)] 7)) none=some ((true,(ad L8_22 [(0,256,1)] 7)),none):=by kernel_rfl
theorem runs8:ev (aw U8) (sortRuns'.run (ad L8_0 [] 7)) none=some (((),(ad L8_22 [(0,256,1)] 7)),none):=by
 rw [sortRuns'_eq]
 refine aa (a:=(ad L8_0 [] 7)) (st1:=(ad L8_0 [] 7)) rfl ?_
 have b:(arrOf (ad L8_0 [] 7)).size=256:=by kernel_rfl
 have c:minRun' 256 256 0=32:=rfl
 rw [b]
 try dsimp only
 rw [c]
 rw [Std.Legacy.Range.forIn_eq_forIn_range']
 refine aa (a:=(none,256)) (st1:=(ad L8_19 [(0,128,1),(128,64,2),(192,32,3),(224,32,0)] 7)) (aE (b1:=(none,32)) (st1:=(ad L8_1 [(0,32,0)] 7)) ?_ (aE (b1:=(none,64)) (st1:=(ad L8_3 [(0,32,3),(32,32,0)] 7)) ?_ (aE (b1:=(none,96)) (st1:=(ad L8_6 [(0,64,2),(64,32,0)] 7)) ?_ (aE (b1:=(none,128)) (st1:=(ad L8_8 [(0,64,2),(64,32,3),(96,32,0)] 7)) ?_ (aE (b1:=(none,160)) (st1:=(ad L8_12 [(0,128,1),(128,32,0)] 7)) ?_ (aE (b1:=(none,192)) (st1:=(ad L8_14 [(0,128,1),(128,32,3),(160,32,0)] 7)) ?_ (aE (b1:=(none,224)) (st1:=(ad L8_17 [(0,128,1),(128,64,2),(192,32,0)] 7)) ?_ (aE (b1:=(none,256)) (st1:=(ad L8_19 [(0,128,1),(128,64,2),(192,32,3),(224,32,0)] 7)) ?_ (bf (b1:=(none,256)) (st1:=(ad L8_19 [(0,128,1),(128,64,2),(192,32,3),(224,32,0)] 7)) ?_))))))))) ?_
 ·try dsimp only
  rw [if_neg (by decide)]
  refine aa g8_0 ?_
  try dsimp only
  rw [if_pos (by decide)]
  refine aa (a:=()) (st1:=(ad L8_0 [] 7)) rfl ?_
  refine aa g8_1 ?_
  rw [if_neg (by decide)]
  refine aa (a:=(ad L8_1 [] 7)) (st1:=(ad L8_1 [] 7)) rfl ?_
  rw [show (pendingOf (ad L8_1 [] 7)).back?=none from rfl]
  try dsimp only
  refine aa (a:=()) (st1:=(ad L8_1 [(0,32,0)] 7)) rfl ?_
  exact rfl
 ·try dsimp only
  rw [if_neg (by decide)]
  refine aa g8_2 ?_
  try dsimp only
  rw [if_pos (by decide)]
  refine aa (a:=()) (st1:=(ad L8_2 [(0,32,0)] 7)) rfl ?_
  refine aa g8_3 ?_
  rw [if_neg (by decide)]
  refine aa (a:=(ad L8_3 [(0,32,0)] 7)) (st1:=(ad L8_3 [(0,32,0)] 7)) rfl ?_
  rw [show (pendingOf (ad L8_3 [(0,32,0)] 7)).back?=some (0,32,0) from rfl]
  try dsimp only
  rw [Std.Legacy.Range.forIn_eq_forIn_range']
  refine aa (a:=(none,())) (st1:=(ad L8_3 [(0,32,0)] 7)) (bf (b1:=(none,())) (st1:=(ad L8_3 [(0,32,0)] 7)) ?_) ?_
  ·try dsimp only
   refine aa (a:=(ad L8_3 [(0,32,0)] 7)) (st1:=(ad L8_3 [(0,32,0)] 7)) rfl ?_
   rw [show (if (pendingOf (ad L8_3 [(0,32,0)] 7)).size > 1 then (pendingOf (ad L8_3 [(0,32,0)] 7))[(pendingOf (ad L8_3 [(0,32,0)] 7)).size - 2]? else none)=none from rfl]
   exact rfl
  try dsimp only
  refine aa (a:=()) (st1:=(ad L8_3 [(0,32,3)] 7)) rfl ?_
  refine aa (a:=()) (st1:=(ad L8_3 [(0,32,3),(32,32,0)] 7)) rfl ?_
  exact rfl
 ·try dsimp only
  rw [if_neg (by decide)]
  refine aa g8_4 ?_
  try dsimp only
  rw [if_pos (by decide)]
  refine aa (a:=()) (st1:=(ad L8_4 [(0,32,3),(32,32,0)] 7)) rfl ?_
  refine aa g8_5 ?_
  rw [if_neg (by decide)]
  refine aa (a:=(ad L8_5 [(0,32,3),(32,32,0)] 7)) (st1:=(ad L8_5 [(0,32,3),(32,32,0)] 7)) rfl ?_
  rw [show (pendingOf (ad L8_5 [(0,32,3),(32,32,0)] 7)).back?=some (32,32,0) from rfl]
  try dsimp only
  rw [Std.Legacy.Range.forIn_eq_forIn_range']
  refine aa (a:=(none,())) (st1:=(ad L8_6 [(0,64,3)] 7)) (aE (b1:=(none,())) (st1:=(ad L8_6 [(0,64,3)] 7)) ?_ (bf (b1:=(none,())) (st1:=(ad L8_6 [(0,64,3)] 7)) ?_)) ?_
  ·try dsimp only
   refine aa (a:=(ad L8_5 [(0,32,3),(32,32,0)] 7)) (st1:=(ad L8_5 [(0,32,3),(32,32,0)] 7)) rfl ?_
   rw [show (if (pendingOf (ad L8_5 [(0,32,3),(32,32,0)] 7)).size > 1 then (pendingOf (ad L8_5 [(0,32,3),(32,32,0)] 7))[(pendingOf (ad L8_5 [(0,32,3),(32,32,0)] 7)).size - 2]? else none)=some (0,32,3) from rfl]
   try dsimp only
   rw [if_neg (by decide)]
   refine aa g8_6 ?_
   rw [if_neg (by decide)]
   exact rfl
  ·try dsimp only
   refine aa (a:=(ad L8_6 [(0,64,3)] 7)) (st1:=(ad L8_6 [(0,64,3)] 7)) rfl ?_
   rw [show (if (pendingOf (ad L8_6 [(0,64,3)] 7)).size > 1 then (pendingOf (ad L8_6 [(0,64,3)] 7))[(pendingOf (ad L8_6 [(0,64,3)] 7)).size - 2]? else none)=none from rfl]
   exact rfl
  try dsimp only
  refine aa (a:=()) (st1:=(ad L8_6 [(0,64,2)] 7)) rfl ?_
  refine aa (a:=()) (st1:=(ad L8_6 [(0,64,2),(64,32,0)] 7)) rfl ?_
  exact rfl
 ·try dsimp only
  rw [if_neg (by decide)]
  refine aa g8_7 ?_
  try dsimp only
  rw [if_pos (by decide)]
  refine aa (a:=()) (st1:=(ad L8_7 [(0,64,2),(64,32,0)] 7)) rfl ?_
  refine aa g8_8 ?_
  rw [if_neg (by decide)]
  refine aa (a:=(ad L8_8 [(0,64,2),(64,32,0)] 7)) (st1:=(ad L8_8 [(0,64,2),(64,32,0)] 7)) rfl ?_
  rw [show (pendingOf (ad L8_8 [(0,64,2),(64,32,0)] 7)).back?=some (64,32,0) from rfl]
  try dsimp only
  rw [Std.Legacy.Range.forIn_eq_forIn_range']
  refine aa (a:=(none,())) (st1:=(ad L8_8 [(0,64,2),(64,32,0)] 7)) (bf (b1:=(none,())) (st1:=(ad L8_8 [(0,64,2),(64,32,0)] 7)) ?_) ?_
  ·try dsimp only
   refine aa (a:=(ad L8_8 [(0,64,2),(64,32,0)] 7)) (st1:=(ad L8_8 [(0,64,2),(64,32,0)] 7)) rfl ?_
   rw [show (if (pendingOf (ad L8_8 [(0,64,2),(64,32,0)] 7)).size > 1 then (pendingOf (ad L8_8 [(0,64,2),(64,32,0)] 7))[(pendingOf (ad L8_8 [(0,64,2),(64,32,0)] 7)).size - 2]? else none)=some (0,64,2) from rfl]
   try dsimp only
   rw [if_pos (by decide)]
   exact rfl
  try dsimp only
  refine aa (a:=()) (st1:=(ad L8_8 [(0,64,2),(64,32,3)] 7)) rfl ?_
  refine aa (a:=()) (st1:=(ad L8_8 [(0,64,2),(64,32,3),(96,32,0)] 7)) rfl ?_
  exact rfl
 ·try dsimp only
  rw [if_neg (by decide)]
  refine aa g8_9 ?_
  try dsimp only
  rw [if_pos (by decide)]
  refine aa (a:=()) (st1:=(ad L8_9 [(0,64,2),(64,32,3),(96,32,0)] 7)) rfl ?_
  refine aa g8_10 ?_
  rw [if_neg (by decide)]
  refine aa (a:=(ad L8_10 [(0,64,2),(64,32,3),(96,32,0)] 7)) (st1:=(ad L8_10 [(0,64,2),(64,32,3),(96,32,0)] 7)) rfl ?_
  rw [show (pendingOf (ad L8_10 [(0,64,2),(64,32,3),(96,32,0)] 7)).back?=some (96,32,0) from rfl]
  try dsimp only
  rw [Std.Legacy.Range.forIn_eq_forIn_range']
  refine aa (a:=(none,())) (st1:=(ad L8_12 [(0,128,2)] 7)) (aE (b1:=(none,())) (st1:=(ad L8_11 [(0,64,2),(64,64,3)] 7)) ?_ (aE (b1:=(none,())) (st1:=(ad L8_12 [(0,128,2)] 7)) ?_ (bf (b1:=(none,())) (st1:=(ad L8_12 [(0,128,2)] 7)) ?_))) ?_
  ·try dsimp only
   refine aa (a:=(ad L8_10 [(0,64,2),(64,32,3),(96,32,0)] 7)) (st1:=(ad L8_10 [(0,64,2),(64,32,3),(96,32,0)] 7)) rfl ?_
   rw [show (if (pendingOf (ad L8_10 [(0,64,2),(64,32,3),(96,32,0)] 7)).size > 1 then (pendingOf (ad L8_10 [(0,64,2),(64,32,3),(96,32,0)] 7))[(pendingOf (ad L8_10 [(0,64,2),(64,32,3),(96,32,0)] 7)).size - 2]? else none)=some (64,32,3) from rfl]
   try dsimp only
   rw [if_neg (by decide)]
   refine aa g8_11 ?_
   rw [if_neg (by decide)]
   exact rfl
  ·try dsimp only
   refine aa (a:=(ad L8_11 [(0,64,2),(64,64,3)] 7)) (st1:=(ad L8_11 [(0,64,2),(64,64,3)] 7)) rfl ?_
   rw [show (if (pendingOf (ad L8_11 [(0,64,2),(64,64,3)] 7)).size > 1 then (pendingOf (ad L8_11 [(0,64,2),(64,64,3)] 7))[(pendingOf (ad L8_11 [(0,64,2),(64,64,3)] 7)).size - 2]? else none)=some (0,64,2) from rfl]
   try dsimp only
   rw [if_neg (by decide)]
   refine aa g8_12 ?_
   rw [if_neg (by decide)]
   exact rfl
  ·try dsimp only
   refine aa (a:=(ad L8_12 [(0,128,2)] 7)) (st1:=(ad L8_12 [(0,128,2)] 7)) rfl ?_
   rw [show (if (pendingOf (ad L8_12 [(0,128,2)] 7)).size > 1 then (pendingOf (ad L8_12 [(0,128,2)] 7))[(pendingOf (ad L8_12 [(0,128,2)] 7)).size - 2]? else none)=none from rfl]
   exact rfl
  try dsimp only
  refine aa (a:=()) (st1:=(ad L8_12 [(0,128,1)] 7)) rfl ?_
  refine aa (a:=()) (st1:=(ad L8_12 [(0,128,1),(128,32,0)] 7)) rfl ?_
  exact rfl
 ·try dsimp only
  rw [if_neg (by decide)]
  refine aa g8_13 ?_
  try dsimp only
  rw [if_pos (by decide)]
  refine aa (a:=()) (st1:=(ad L8_13 [(0,128,1),(128,32,0)] 7)) rfl ?_
  refine aa g8_14 ?_
  rw [if_neg (by decide)]
  refine aa (a:=(ad L8_14 [(0,128,1),(128,32,0)] 7)) (st1:=(ad L8_14 [(0,128,1),(128,32,0)] 7)) rfl ?_
  rw [show (pendingOf (ad L8_14 [(0,128,1),(128,32,0)] 7)).back?=some (128,32,0) from rfl]
  try dsimp only
  rw [Std.Legacy.Range.forIn_eq_forIn_range']
  refine aa (a:=(none,())) (st1:=(ad L8_14 [(0,128,1),(128,32,0)] 7)) (bf (b1:=(none,())) (st1:=(ad L8_14 [(0,128,1),(128,32,0)] 7)) ?_) ?_
  ·try dsimp only
   refine aa (a:=(ad L8_14 [(0,128,1),(128,32,0)] 7)) (st1:=(ad L8_14 [(0,128,1),(128,32,0)] 7)) rfl ?_
   rw [show (if (pendingOf (ad L8_14 [(0,128,1),(128,32,0)] 7)).size > 1 then (pendingOf (ad L8_14 [(0,128,1),(128,32,0)] 7))[(pendingOf (ad L8_14 [(0,128,1),(128,32,0)] 7)).size - 2]? else none)=some (0,128,1) from rfl]
   try dsimp only
   rw [if_pos (by decide)]
   exact rfl
  try dsimp only
  refine aa (a:=()) (st1:=(ad L8_14 [(0,128,1),(128,32,3)] 7)) rfl ?_
  refine aa (a:=()) (st1:=(ad L8_14 [(0,128,1),(128,32,3),(160,32,0)] 7)) rfl ?_
  exact rfl
 ·try dsimp only
  rw [if_neg (by decide)]
  refine aa g8_15 ?_
  try dsimp only
  rw [if_pos (by decide)]
  refine aa (a:=()) (st1:=(ad L8_15 [(0,128,1),(128,32,3),(160,32,0)] 7)) rfl ?_
  refine aa g8_16 ?_
  rw [if_neg (by decide)]
  refine aa (a:=(ad L8_16 [(0,128,1),(128,32,3),(160,32,0)] 7)) (st1:=(ad L8_16 [(0,128,1),(128,32,3),(160,32,0)] 7)) rfl ?_
  rw [show (pendingOf (ad L8_16 [(0,128,1),(128,32,3),(160,32,0)] 7)).back?=some (160,32,0) from rfl]
  try dsimp only
  rw [Std.Legacy.Range.forIn_eq_forIn_range']
  refine aa (a:=(none,())) (st1:=(ad L8_17 [(0,128,1),(128,64,3)] 7)) (aE (b1:=(none,())) (st1:=(ad L8_17 [(0,128,1),(128,64,3)] 7)) ?_ (bf (b1:=(none,())) (st1:=(ad L8_17 [(0,128,1),(128,64,3)] 7)) ?_)) ?_
  ·try dsimp only
   refine aa (a:=(ad L8_16 [(0,128,1),(128,32,3),(160,32,0)] 7)) (st1:=(ad L8_16 [(0,128,1),(128,32,3),(160,32,0)] 7)) rfl ?_
   rw [show (if (pendingOf (ad L8_16 [(0,128,1),(128,32,3),(160,32,0)] 7)).size > 1 then (pendingOf (ad L8_16 [(0,128,1),(128,32,3),(160,32,0)] 7))[(pendingOf (ad L8_16 [(0,128,1),(128,32,3),(160,32,0)] 7)).size - 2]? else none)=some (128,32,3) from rfl]
   try dsimp only
   rw [if_neg (by decide)]
   refine aa g8_17 ?_
   rw [if_neg (by decide)]
   exact rfl
  ·try dsimp only
   refine aa (a:=(ad L8_17 [(0,128,1),(128,64,3)] 7)) (st1:=(ad L8_17 [(0,128,1),(128,64,3)] 7)) rfl ?_
   rw [show (if (pendingOf (ad L8_17 [(0,128,1),(128,64,3)] 7)).size > 1 then (pendingOf (ad L8_17 [(0,128,1),(128,64,3)] 7))[(pendingOf (ad L8_17 [(0,128,1),(128,64,3)] 7)).size - 2]? else none)=some (0,128,1) from rfl]
   try dsimp only
   rw [if_pos (by decide)]
   exact rfl
  try dsimp only
  refine aa (a:=()) (st1:=(ad L8_17 [(0,128,1),(128,64,2)] 7)) rfl ?_
  refine aa (a:=()) (st1:=(ad L8_17 [(0,128,1),(128,64,2),(192,32,0)] 7)) rfl ?_
  exact rfl
 ·try dsimp only
  rw [if_neg (by decide)]
  refine aa g8_18 ?_
  try dsimp only
  rw [if_pos (by decide)]
  refine aa (a:=()) (st1:=(ad L8_18 [(0,128,1),(128,64,2),(192,32,0)] 7)) rfl ?_
  refine aa g8_19 ?_
  rw [if_neg (by decide)]
  refine aa (a:=(ad L8_19 [(0,128,1),(128,64,2),(192,32,0)] 7)) (st1:=(ad L8_19 [(0,128,1),(128,64,2),(192,32,0)] 7)) rfl ?_
  rw [show (pendingOf (ad L8_19 [(0,128,1),(128,64,2),(192,32,0)] 7)).back?=some (192,32,0) from rfl]
  try dsimp only
  rw [Std.Legacy.Range.forIn_eq_forIn_range']
  refine aa (a:=(none,())) (st1:=(ad L8_19 [(0,128,1),(128,64,2),(192,32,0)] 7)) (bf (b1:=(none,())) (st1:=(ad L8_19 [(0,128,1),(128,64,2),(192,32,0)] 7)) ?_) ?_
  ·try dsimp only
   refine aa (a:=(ad L8_19 [(0,128,1),(128,64,2),(192,32,0)] 7)) (st1:=(ad L8_19 [(0,128,1),(128,64,2),(192,32,0)] 7)) rfl ?_
   rw [show (if (pendingOf (ad L8_19 [(0,128,1),(128,64,2),(192,32,0)] 7)).size > 1 then (pendingOf (ad L8_19 [(0,128,1),(128,64,2),(192,32,0)] 7))[(pendingOf (ad L8_19 [(0,128,1),(128,64,2),(192,32,0)] 7)).size - 2]? else none)=some (128,64,2) from rfl]
   try dsimp only
   rw [if_pos (by decide)]
   exact rfl
  try dsimp only
  refine aa (a:=()) (st1:=(ad L8_19 [(0,128,1),(128,64,2),(192,32,3)] 7)) rfl ?_
  refine aa (a:=()) (st1:=(ad L8_19 [(0,128,1),(128,64,2),(192,32,3),(224,32,0)] 7)) rfl ?_
  exact rfl
 ·try dsimp only
  rw [if_pos (by decide)]
  exact rfl
 try dsimp only
 rw [Std.Legacy.Range.forIn_eq_forIn_range']
 refine aa (a:=(none,())) (st1:=(ad L8_22 [(0,256,1)] 7)) (aE (b1:=(none,())) (st1:=(ad L8_20 [(0,128,1),(128,64,2),(192,64,3)] 7)) ?_ (aE (b1:=(none,())) (st1:=(ad L8_21 [(0,128,1),(128,128,2)] 7)) ?_ (aE (b1:=(none,())) (st1:=(ad L8_22 [(0,256,1)] 7)) ?_ (bf (b1:=(none,())) (st1:=(ad L8_22 [(0,256,1)] 7)) ?_)))) ?_
 ·try dsimp only
  refine aa (a:=(ad L8_19 [(0,128,1),(128,64,2),(192,32,3),(224,32,0)] 7)) (st1:=(ad L8_19 [(0,128,1),(128,64,2),(192,32,3),(224,32,0)] 7)) rfl ?_
  rw [if_neg (by decide)]
  refine aa g8_20 ?_
  rw [if_neg (by decide)]
  exact rfl
 ·try dsimp only
  refine aa (a:=(ad L8_20 [(0,128,1),(128,64,2),(192,64,3)] 7)) (st1:=(ad L8_20 [(0,128,1),(128,64,2),(192,64,3)] 7)) rfl ?_
  rw [if_neg (by decide)]
  refine aa g8_21 ?_
  rw [if_neg (by decide)]
  exact rfl
 ·try dsimp only
  refine aa (a:=(ad L8_21 [(0,128,1),(128,128,2)] 7)) (st1:=(ad L8_21 [(0,128,1),(128,128,2)] 7)) rfl ?_
  rw [if_neg (by decide)]
  refine aa g8_22 ?_
  rw [if_neg (by decide)]
  exact rfl
 ·try dsimp only
  refine aa (a:=(ad L8_22 [(0,256,1)] 7)) (st1:=(ad L8_22 [(0,256,1)] 7)) rfl ?_
  rw [if_pos (by decide)]
  exact rfl
 exact rfl
theorem sort8:ba U8=some L8_22:=fT (n:=256) rfl runs8
end L2
end
section
namespace L3
open PySem L2
def kP:Key->PyData
 | .inl i=>.int i
 | .inr x=>.str x
def d1 {α:Type}:List (α × D)->Option (α × Int)
 | [(k,.int i)]=>some (k,i)
 | _=>none
theorem Cy {i:Int} (h:d1 l=some (k,i)):l=[(k,.int i)]:=by
 unfold d1 at h
 split at h
 ·cases h;rfl
 ·cases h
mutual
def pyN:D->Option PyData
 | .non=>some .none
 | .bl b=>some (.bool b)
 | .int i=>some (.int i)
 | .str x=>some (.str x)
 | .tup xs=>(uV xs).map .tuple
 | .dk kvs=>(d1 kvs).map fun p=>.dict [(kP p.1,.int p.2)]
 | .dt kvs=>(d1 kvs).map fun p=>.dict [(.tuple (p.1.map kP),.int p.2)]
 | _=>none
def uV:List D->Option (List PyData)
 | []=>some []
 | d :: ds=>match pyN d,uV ds with
  | some p,some ps=>some (p :: ps)
  | _,_=>none
end
def RdN (H:Hp) (v:V) (p:PyData):Prop:=∀ (X:Cx) (pins:List (Addr × Obj)) (σ:St) (s:Shared),Inv X pins σ H s->∀ u,RelV v u->∃ as,Reads s.heap u p as/\sysModules ∉ as
def RdNs (H:Hp) (a:List V) (ps:List PyData):Prop:=∀ (X:Cx) (pins:List (Addr × Obj)) (σ:St) (s:Shared),Inv X pins σ H s->∀ us,Vals a us->∃ as,ReadsAll s.heap us ps as/\sysModules ∉ as
theorem jA:∀ {ks:List Key} {us:List Value},Vals (ks.map kV) us->ReadsAll h us (ks.map kP) []
 | [],_,.nil=>.nil
 | .inl i :: ks,_,.cons r rs=>by
  obtain ⟨t,rfl⟩:=r
  exact .cons (as:=[]) (bs:=[]) (.int i t) (jA rs)
 | .inr x :: ks,_,.cons r rs=>by
  obtain ⟨t,rfl⟩:=r
  exact .cons (as:=[]) (bs:=[]) (.str x t) (jA rs)
theorem tw {α:Type} {k:α} {i:Int} {ps:List (α × V)} (b:∀ v L,R (.int i) v L->v=.int i) (h1:[k]=ps.map (·.1)) (h2:Reps R [.int i] (ps.map (·.2)) L):ps=[(k,.int i)]:=by
 match ps,h1,h2 with
 | [(k',v)],h1,.cons a _ =>
  have:=b _ _ a
  subst this
  cases h1
  rfl
section
variable {K:FG} {H:Hp} {d:D} {v:V} {L:List Addr}
set_option tactic.hygienic true in
theorem Rep.rdN (r:Rep K H d v L):∀ p,pyN d=some p->RdN H v p:=by
 refine Rep.rec (motive_1:=fun d v _ _=>∀ p,pyN d=some p->RdN H v p) (motive_2:=fun ds l _ _=>∀ ps,uV ds=some ps->RdNs H l ps) ?_ ?_ ?_ ?_ ?_ ?_ ?_ ?_ ?_ ?_ ?_ ?_ r
 ·intro p e;unfold pyN at e;cases e;intro X pins σ s I u hu;cases (show u=Value.none from hu);exact ⟨[],.none,by simp⟩
 ·intro b p e;unfold pyN at e;cases e;intro X pins σ s I u hu;cases (show u=Value.bool b from hu);exact ⟨[],.bool b,by simp⟩
 ·intro i p e;unfold pyN at e;cases e;intro X pins σ s I u hu;obtain ⟨t,rfl⟩:=hu;exact ⟨[],.int i t,by simp⟩
 ·intro x p e;unfold pyN at e;cases e;intro X pins σ s I u hu;obtain ⟨t,rfl⟩:=hu;exact ⟨[],.str x t,by simp⟩
 ·intro xs a l L h _ D p e
  unfold pyN at e
  obtain ⟨ps,e1,rfl⟩:=E9.mp e
  intro X pins σ s I u hu
  cases (show u=Value.ref a from hu)
  obtain ⟨its,y,⟨o,e,c,n,d⟩,_⟩:=I.tuple (SqT.of h)
  obtain ⟨as,q,nm⟩:=D ps e1 X pins σ s I _ y
  exact ⟨_,.tuple e c d (by simpa using q),nm⟩
 ·intro xs a l L h _ D p e;unfold pyN at e;exact nsE e
 ·intro xs a l L h _ D p e;unfold pyN at e;exact nsE e
 ·intro kvs a ps L h A rs _ p e
  unfold pyN at e
  obtain ⟨⟨k,i⟩,e1,rfl⟩:=E9.mp e
  have m:=Cy e1
  subst m
  clear e e1
  have:=tw (fun v L (q:Rep K H (.int i) v L)=>q.int_inv) A rs
  subst this
  intro X pins σ s I u hu
  cases (show u=Value.ref a from hu)
  obtain ⟨_,hm,l,B,o,es,N,g,xd,hd,_,pr,_,_⟩:=(show ObjOk X.prog X.w H s.heap a (.dK [(k,.int i)]) from I.hok a _ h)
  match l,B with
  | [(k',v')],.cons ⟨e1,e2⟩ .nil =>
   subst e1
   obtain ⟨t,rfl⟩:=e2
   generalize f:es.toList=el at pr
   cases pr with
   | cons q1 q2 q3 =>
    cases q3
    rename_i E
    refine ⟨_,.dict (as:=[]) (bs:=[]) g xd.1 hd ?_ ?_,?_⟩
    ·rw [f]
     show ReadsAll s.heap [E.key] [kP k] []
     rcases aX q1 with ⟨j,t',rfl,C⟩ | ⟨x,t',rfl,C⟩
     ·rw [C];exact .cons (as:=[]) (bs:=[]) (.int _ _) .nil
     ·rw [C];exact .cons (as:=[]) (bs:=[]) (.str _ _) .nil
    ·rw [f]
     show ReadsAll s.heap [E.val] [.int i] []
     rw [q2];exact .cons (as:=[]) (bs:=[]) (.int _ _) .nil
    ·simp only [List.append_nil,FH]
     intro z
     rw [z] at hm
     simp at hm
 ·intro kvs a ps L h A rs _ p e
  unfold pyN at e
  obtain ⟨⟨k,i⟩,e1,rfl⟩:=E9.mp e
  have m:=Cy e1
  subst m
  clear e e1
  have:=tw (fun v L (q:Rep K H (.int i) v L)=>q.int_inv) A rs
  subst this
  intro X pins σ s I u hu
  cases (show u=Value.ref a from hu)
  obtain ⟨_,hm,xs,B,o,es,N,g,xd,hd,f,_⟩:=(show ObjOk X.prog X.w H s.heap a (.dT [(k,.int i)]) from I.hok a _ h)
  match xs,B with
  | [(k',b,v')],.cons ⟨e1,e3,e2⟩ .nil =>
   subst e1
   obtain ⟨t,rfl⟩:=e2
   obtain ⟨its,y,⟨o',M,Q,S,d'⟩,_⟩:=I.tuple (SqT.of e3)
   refine ⟨_,.dict (as:=[]) (bs:=[]) g xd.1 hd ?_ ?_,?_⟩
   ·rw [f]
    show ReadsAll s.heap [.ref b] [.tuple (k.map kP)] []
    exact .cons (as:=[]) (bs:=[]) (.tuple M Q d' (by simpa using jA y)) .nil
   ·rw [f]
    show ReadsAll s.heap [.int i t] [.int i] []
    exact .cons (as:=[]) (bs:=[]) (.int _ _) .nil
   ·simp only [List.append_nil,FH]
    intro z
    rw [z] at hm
    simp at hm
 ·intros;rename_i e;unfold pyN at e;exact nsE e
 ·intro ps e;unfold uV at e;cases e;intro X pins σ s I us hu;cases hu;exact ⟨[],.nil,by simp⟩
 ·intro d v L ds l L' _ _ J G ps e
  unfold uV at e
  cases h1:pyN d with
  | none=>rw [h1] at e;exact nsE e
  | some p =>
   cases h2:uV ds with
   | none=>rw [h1,h2] at e;exact nsE e
   | some qs =>
    rw [h1,h2] at e
    cases e
    intro X pins σ s I us hu
    cases hu with
    | cons a b =>
     obtain ⟨as,P,R⟩:=J p h1 X pins σ s I _ a
     obtain ⟨bs,O,F⟩:=G qs h2 X pins σ s I _ b
     exact ⟨_,.cons P O,by simp [R,F]⟩
end
def kM (p:PyData):Bool:=p.showable && decide (p.depth<=16) && decide (p.shown.length<=16777216)
def pyA (d:D):Option PyData:=match pyD d with
 | some p=>if p.hasDict then none else some p
 | none=>pyN d
def q5 (K:FG):List V->Hp->VK->Prop:=fun xs H Q=>(xs=[.non]/\Q (.str "None") H)\/(∃ b,xs=[.bl b]/\Q (.str (if b then "True" else "False")) H)\/(∃ i:Int,xs=[.int i]/\i.natAbs.log2 < 1920/\Q (.str (Be i)) H) \/
 (∃ t:Str,xs=[.str t]/\(reprText t).length<=sizeLine/\Q (.str (reprText t)) H) \/
 ∃ (a:Addr) (p:PyData),xs=[.ref a]/\(∀ (X:Cx) (pins:List (Addr × Obj)) (σ:St) (s:Shared),X.K=K->Inv X pins σ H s->∀ u,RelV (.ref a) u->∃ as,Reads s.heap u p as/\(p.hasDict=true->sysModules ∉ as))/\kM p=true/\Q (.str p.shown) H
theorem om (o:X.A.guards=some []) (hu:X.A.units+64 < cLine):CallR X (.builtin "repr") (q5 X.K):=by
 intro pins s σ H xs us Q I d h
 rcases h with ⟨rfl,q⟩ | ⟨b,rfl,q⟩ | ⟨i,rfl,hi,q⟩ | ⟨t,rfl,n,q⟩ | ⟨a,p,rfl,j,f,q⟩
 ·obtain ⟨u,rfl,c⟩:=bR d
  cases (show u=Value.none from c)
  exact PySem.P.repr_of_none ⟨.str "None",H,I.tok _,⟨_,rfl⟩,q⟩
 ·obtain ⟨u,rfl,c⟩:=bR d
  cases (show u=Value.bool b from c)
  exact PySem.P.repr_of_bool ⟨.str (if b then "True" else "False"),H,I.tok _,⟨_,rfl⟩,q⟩
 ·obtain ⟨u,rfl,c⟩:=bR d
  obtain ⟨t,rfl⟩:=c
  exact PySem.P.repr_of_int hi ⟨.str (Be i),H,I.tok _,⟨_,rfl⟩,q⟩
 ·obtain ⟨u,rfl,c⟩:=bR d
  obtain ⟨t',rfl⟩:=c
  exact PySem.P.repr_of_str ⟨.str _,H,I.tok _,⟨_,rfl⟩,q⟩ n
 ·obtain ⟨u,rfl,c⟩:=bR d
  obtain ⟨as,m,nm⟩:=j X pins σ s rfl I u c
  cases (show u=Value.ref a from c)
  unfold kM at f
  obtain ⟨h3,k⟩:=Bool.and_eq_true_iff.mp f
  obtain ⟨r,g⟩:=Bool.and_eq_true_iff.mp h3
  have g:=of_decide_eq_true g
  exact repr_of_reads' m r nm o (by lia) (fun _ _ e=>e) (fun h' v tk l=>⟨.str p.shown,H,I.kept l,⟨_,rfl⟩,q⟩) (by rw [sizeLine_eq];exact of_decide_eq_true k)
def shA (d:D):Option (D × Fl):=(pyA d).bind fun p=>if kM p=true then some (.str p.shown,.z) else none
def nE:D->Option (D × Fl)
 | .non=>some (.str "None",.z)
 | .bl b=>some (.str (if b then "True" else "False"),.z)
 | .int i=>if i.natAbs.log2 < 1920 then some (.str (Be i),.z) else none
 | .str t=>if (reprText t).length<=16777216 then some (.str (reprText t),.z) else none
 | .exc _ _=>none
 | d=>shA d
abbrev jq:=c1 nE
theorem Dw (r:Rep K H d v L) (e:pyA d=some p):∀ (X:Cx) (pins:List (Addr × Obj)) (σ:St) (s:Shared),X.K=K->Inv X pins σ H s->∀ u,RelV v u->∃ as,Reads s.heap u p as/\(p.hasDict=true->sysModules ∉ as):=by
 intro X pins σ s c I u hu
 unfold pyA at e
 cases h:pyD d with
 | none =>
  rw [h] at e
  obtain ⟨as,a,b⟩:=r.rdN p e X pins σ s I u hu
  exact ⟨as,a,fun _=>b⟩
 | some q =>
  rw [h] at e
  subst c
  obtain ⟨as,a⟩:=DV.reads I (r.dv q h) hu
  have e:(if q.hasDict then none else some q)=some p:=e
  cases hd:q.hasDict with
  | true=>rw [hd] at e;exact nsE e
  | false =>
   rw [hd] at e
   cases (FS e)
   exact ⟨as,a,fun z=>by rw [hd] at z;cases z⟩
theorem zm:b8 K (q5 K) jq:=fun ys H Q p ra e q=>by
 obtain ⟨y,rfl,f⟩:=cY e
 have h:=(ra y E6).rep
 obtain ⟨da,n,r,o⟩:=y
 dsimp only at h f
 have big:∀ a,n=.ref a->shA da=some p->q5 K [n] H fun v H'=>Q v H':=fun a g f=>by
  obtain ⟨d,h1,h2⟩:=FF.mp f
  by_cases k:kM d=true
  ·rw [if_pos k] at h2
   have l:=FS h2
   refine .inr (.inr (.inr (.inr ⟨a,d,congrArg (fun x=>[x]) g,?_,k,q ⟨.str d.shown,_,[],.z⟩ H (b9 (.str _)) (congrArg Prod.fst l) (congrArg Prod.snd l)⟩)))
   rw [<- g]
   exact Dw h h1
  ·rw [if_neg k] at h2;exact nsE h2
 cases da with
 | non =>
  obtain ⟨rfl,rfl⟩:=h.view
  cases f
  exact .inl ⟨rfl,q ⟨_,_,[],.z⟩ H (b9 (.str _)) rfl rfl⟩
 | bl b =>
  obtain ⟨rfl,rfl⟩:=h.view
  cases f
  exact .inr (.inl ⟨b,rfl,q ⟨_,_,[],.z⟩ H (b9 (.str _)) rfl rfl⟩)
 | int i =>
  obtain ⟨rfl,rfl⟩:=h.view
  have f:(if i.natAbs.log2 < 1920 then some ((.str (Be i),.z):D × Fl) else none)=some p:=f
  by_cases j:i.natAbs.log2 < 1920
  ·rw [if_pos j] at f
   cases f
   exact .inr (.inr (.inl ⟨i,rfl,j,q ⟨_,_,[],.z⟩ H (b9 (.str _)) rfl rfl⟩))
  ·rw [if_neg j] at f;exact nsE f
 | str t =>
  obtain ⟨rfl,rfl⟩:=h.view
  have f:(if (reprText t).length<=16777216 then some ((.str (reprText t),.z):D × Fl) else none)=some p:=f
  by_cases j:(reprText t).length<=16777216
  ·rw [if_pos j] at f
   cases f
   exact .inr (.inr (.inr (.inl ⟨t,rfl,by rw [sizeLine_eq];exact j,q ⟨_,_,[],.z⟩ H (b9 (.str _)) rfl rfl⟩)))
  ·rw [if_neg j] at f;exact nsE f
 | tup xs=>obtain ⟨a,m,g,_⟩:=h.view;exact big a g f
 | lst xs=>obtain ⟨a,m,L',g,_⟩:=h.view;exact big a g f
 | fls xs=>obtain ⟨a,m,g,_⟩:=h.view;exact big a g f
 | dk kvs=>obtain ⟨a,ps,L',g,_⟩:=h.view;exact big a g f
 | dt kvs=>obtain ⟨a,ps,L',g,_⟩:=h.view;exact big a g f
 | exc c fs=>exact nsE f
end L3
end
section
namespace Bn
open PySem L2 L3
abbrev Pd (p:Int × Int):L3.D:=.tup [.int p.1,.int p.2]
theorem bS {bnd:L3.D->Sto->Option Sto} {b:SM} (P:Nat->Sto->Prop):∀ {ds:List L3.D} {ρ:Sto} {k:Nat},P k ρ->(∀ i d ρ,ds[i]?=some d->P (k+i) ρ->∃ ρ1 ρ2,bnd d ρ=some ρ1/\(b ρ1=some (.ok .nx,ρ2)\/b ρ1=some (.ok .ct,ρ2))/\P (k+i+1) ρ2)->∃ ρ',cF bnd b ds ρ=some (.ok .nx,ρ')/\P (k+ds.length) ρ'
 | [],ρ,k,h0,_=>⟨ρ,rfl,h0⟩
 | d :: ds,ρ,k,h0,hs=>by
  obtain ⟨ρ1,ρ2,e1,a,h1⟩:=hs 0 d ρ rfl h0
  obtain ⟨ρ',c,h3⟩:=bS P (ds:=ds) (ρ:=ρ2) (k:=k+1) h1 fun i d ρ hd e=>by
   have:=hs (i+1) d ρ (by simpa using hd) (by rwa [show k+(i+1)=k+1+i by lia])
   rwa [show k+(i+1)+1=k+1+i+1 by lia] at this
  refine ⟨ρ',?_,by rw [FC,show k+(ds.length+1)=k+1+ds.length by lia];exact h3⟩
  unfold cF
  simp only [e1]
  rcases a with a | a <;> simp only [af,a,c]
theorem oe {bnd:L3.D->Sto->Option Sto} {b:SM} (P:Nat->Sto->Prop) (E:Nat->L3.D->Fl->Sto->Prop):∀ {ds:List L3.D} {ρ:Sto} {k:Nat},P k ρ ->
  (∀ i d ρ,ds[i]?=some d->P (k+i) ρ->∃ ρ1 ρ2,bnd d ρ=some ρ1/\(((b ρ1=some (.ok .nx,ρ2)\/b ρ1=some (.ok .ct,ρ2))/\P (k+i+1) ρ2)\/∃ r f,b ρ1=some (.ok (.rt r f),ρ2)/\E (k+i) r f ρ2)) ->
  ∃ ρ',(cF bnd b ds ρ=some (.ok .nx,ρ')/\P (k+ds.length) ρ')\/∃ i r f,i < ds.length/\cF bnd b ds ρ=some (.ok (.rt r f),ρ')/\E (k+i) r f ρ'
 | [],ρ,k,h0,_=>⟨ρ,.inl ⟨rfl,h0⟩⟩
 | d :: ds,ρ,k,h0,hs=>by
  obtain ⟨ρ1,ρ2,e1,h1⟩:=hs 0 d ρ rfl h0
  rcases h1 with ⟨a,h1⟩ | ⟨r,f,a,h1⟩
  ·obtain ⟨ρ',h3⟩:=oe P E (ds:=ds) (ρ:=ρ2) (k:=k+1) h1 fun i d ρ hd g=>by
    have:=hs (i+1) d ρ (by simpa using hd) (by rwa [show k+(i+1)=k+1+i by lia])
    rwa [show k+(i+1)=k+1+i by lia] at this
   have e:cF bnd b (d :: ds) ρ=cF bnd b ds ρ2:=by
    conv=>lhs;unfold cF
    simp only [e1]
    rcases a with a | a <;> simp only [af,a]
   rcases h3 with ⟨c,h3⟩ | ⟨i,r,f,hi,c,h3⟩
   ·exact ⟨ρ',.inl ⟨e.trans c,by rw [FC,show k+(ds.length+1)=k+1+ds.length by lia];exact h3⟩⟩
   ·exact ⟨ρ',.inr ⟨i+1,r,f,by simp;lia,e.trans c,by rw [show k+(i+1)=k+1+i by lia];exact h3⟩⟩
  ·refine ⟨ρ2,.inr ⟨0,r,f,by simp,?_,h1⟩⟩
   unfold cF
   simp only [e1,af,a,aO]
theorem dn {lo:Int} {n i:Nat} {d:L3.D} (h:(bg lo n)[i]?=some d):i < n/\d=.int (lo+i):=by
 unfold bg at h
 grind
theorem cO {lo:Int} {n:Nat}:(bg lo n).length=n:=by unfold bg;simp
theorem BN {xs:List L3.D} {m:Nat} (h:m<=xs.length):oh xs none (some (m:Int))=xs.take m:=by
 have e1:HT.sIx xs.length 0 none=0:=rfl
 have a:HT.sIx xs.length xs.length (some (m:Int))=m:=by
  simp only [HT.sIx]
  split <;> lia
 unfold oh
 rw [e1,a]
 simp
theorem Small.sub {p q:Pt} (a:Small p) (b:Small q):(-18446744073709551616 < q.1 - p.1/\q.1 - p.1 < 18446744073709551616)/\(-18446744073709551616 < q.2 - p.2/\q.2 - p.2 < 18446744073709551616):=by
 obtain ⟨a1,a2,d,c⟩:=a
 obtain ⟨b1,b2,f,e⟩:=b
 exact ⟨⟨by lia,by lia⟩,⟨by lia,by lia⟩⟩
theorem mf {c:M3 Bool} {b:SM} (P:Nat->Sto->Prop) (Q:Sto->Prop) {n:Nat} {ρ:Sto} (h0:P n ρ)
  (k:∀ n ρ,P n ρ->(∃ ρ1,c ρ=some (.ok false,ρ1)/\Q ρ1)\/∃ ρ1 ρ2 m,c ρ=some (.ok true,ρ1)/\(b ρ1=some (.ok .nx,ρ2)\/b ρ1=some (.ok .ct,ρ2))/\m < n/\P m ρ2):∃ ρ',dR c b ρ=some (.ok .nx,ρ')/\Q ρ':=by
 have main:∀ n ρ,P n ρ->∃ ρ',bO c b (n+1) ρ=some (.ok .nx,ρ')/\Q ρ':=by
  intro n
  induction n using Nat.strongRecOn with
  | _ n ih =>
   intro ρ j
   rcases k n ρ j with ⟨ρ1,e1,d⟩ | ⟨ρ1,ρ2,m,e1,a,hm,i⟩
   ·refine ⟨ρ1,?_,d⟩
    unfold bO
    simp [af,e1,aO]
   ·obtain ⟨ρ',g,d⟩:=ih m hm ρ2 i
    refine ⟨ρ',?_,d⟩
    have f:=jj (show m+1<=n by lia) g
    unfold bO
    rcases a with a | a <;> simp [af,e1,a,f]
 obtain ⟨ρ',e,d⟩:=main n ρ h0
 refine ⟨ρ',?_,d⟩
 unfold dR
 have h:∃ n r,bO c b n ρ=some r:=⟨_,_,e⟩
 rw [dif_pos h]
 have a:=Classical.choose_spec (Classical.choose_spec h)
 have g:=jj (Nat.le_max_left (n+1) (Classical.choose h)) e
 have f:=jj (Nat.le_max_right (n+1) (Classical.choose h)) a
 rw [g] at f
 exact f.symm
theorem ak {a b:SM} {ρ ρ1:Sto} {r:Option (Except L3.D Flw × Sto)} (h1:a ρ=some (.ok .nx,ρ1)) (h2:b ρ1=r):aA a b ρ=r:=by
 simp only [aA,af,h1]
 exact h2
theorem gl {bnd:L3.D->Sto->Option Sto} {c:M3 Bool} {elt:EM} (P:Sto->Prop) (g:L3.D->Bool) (f:L3.D->L3.D):∀ {ds:List L3.D} {τ:Sto},P τ ->
  (∀ d ∈ ds,∀ τ,P τ->∃ τ1 τ2,bnd d τ=some τ1/\c τ1=some (.ok (g d),τ2)/\(g d=false->P τ2)/\(g d=true->∃ r τ3 p τ4,elt τ2=some (.ok r,τ3)/\c6 r τ3=some (.ok p,τ4)/\p.1=f d/\P τ4)) ->
  ∃ τ',bN bnd c elt ds τ=some (.ok ((ds.filter g).map f),τ')/\P τ'
 | [],τ,h0,_=>⟨τ,rfl,h0⟩
 | d :: ds,τ,h0,hs=>by
  obtain ⟨τ1,τ2,e1,b,hf,l⟩:=hs d E6 τ h0
  cases a:g d with
  | false =>
   obtain ⟨τ',e,h⟩:=gl P g f (ds:=ds) (τ:=τ2) (hf a) fun d hd=>hs d (E7 _ hd)
   refine ⟨τ',?_,h⟩
   unfold bN
   rw [a] at b
   simp [e1,af,b,e,List.filter_cons,a]
  | true =>
   obtain ⟨r,τ3,p,τ4,j,m,k,i⟩:=l a
   obtain ⟨τ',e,h⟩:=gl P g f (ds:=ds) (τ:=τ4) i fun d hd=>hs d (E7 _ hd)
   refine ⟨τ',?_,h⟩
   unfold bN
   rw [a] at b
   simp [e1,af,b,j,m,e,List.filter_cons,a,aO,k]
abbrev Tri:=Nat × Nat × Nat
def lW (i j m:Nat):List Tri:=(List.range m).map fun k=>(i,j,j+1+k)
def jp (n i m:Nat):List Tri:=(List.range m).flatMap fun j=>lW i (i+1+j) (n - (i+1+j+1))
def nD (n m:Nat):List Tri:=(List.range m).flatMap fun i=>jp n i (n - (i+1))
def eP (n:Nat):List Tri:=nD n n
theorem pg (i j m:Nat):(lW i j m).length=m:=by simp [lW]
theorem mE (n i m:Nat):jp n i (m+1)=jp n i m ++ lW i (i+1+m) (n - (i+1+m+1)):=by simp [jp,List.range_succ,List.flatMap_append]
theorem mF (n m:Nat):nD n (m+1)=nD n m ++ jp n m (n - (m+1)):=by simp [nD,List.range_succ,List.flatMap_append]
theorem ye {i j m:Nat} {t:Tri} (h:t ∈ lW i j m):t.1=i/\t.2.1=j/\j < t.2.2/\t.2.2 < j+1+m:=by
 obtain ⟨k,a,rfl⟩:=Fo.mp h
 grind
theorem pQ {n:Nat} {t:Tri} (h:t ∈ eP n):t.1 < t.2.1/\t.2.1 < t.2.2/\t.2.2 < n:=by
 obtain ⟨i,hi,h⟩:=FP.mp h
 obtain ⟨j,a,h⟩:=FP.mp h
 rw [List.mem_range] at hi a
 obtain ⟨h1,h2,h3,b⟩:=ye h
 exact ⟨by lia,by lia,by lia⟩
theorem sP (n i m:Nat):(jp n i m).length<=m * n:=by
 induction m with
 | zero=>simp [jp]
 | succ m ih=>rw [mE,FB,pg,Nat.succ_mul];lia
theorem As (n m:Nat):(nD n m).length<=m * (n * n):=by
 induction m with
 | zero=>simp [nD]
 | succ m ih =>
  rw [mF,FB,Nat.succ_mul]
  have:=sP n m (n - (m+1))
  have h2:(n - (m+1)) * n<=n * n:=Nat.mul_le_mul (by lia) (Fq _)
  lia
theorem qV {n m:Nat} (a:n<=25) (hm:m<=25):(nD n m).length<=15625:=by
 have h1:=As n m
 have h2:n * n<=25 * 25:=Nat.mul_le_mul a a
 have h3:m * (n * n)<=25 * (25 * 25):=Nat.mul_le_mul hm h2
 lia
theorem qU {n i m:Nat} (a:n<=25) (hm:m<=25):(jp n i m).length<=625:=by
 have h1:=sP n i m
 have h2:m * n<=25 * 25:=Nat.mul_le_mul hm a
 lia
abbrev Td (t:Tri):L3.D:=.tup [.int t.1,.int t.2.1,.int t.2.2]
abbrev Shd (ps:List Pt):L3.D:=.tup (ps.map Pd)
theorem bp {im:IM} {bnd:L3.D->Sto->Option Sto} {c:M3 Bool} {elt:EM} {ix:List (Option Nat)} {ρ ρ1 ρ2 τ:Sto} {rs:List R3} {ds out:List L3.D} (h1:im ρ=some (.ok (rs,ds),ρ1)) (h2:bN bnd c elt ds (r9 ix (ay cu (us ρ1 (pls rs)) ρ1))=some (.ok out,τ)) (h3:ds.length < 16777216) (a:uncap ix τ (ay cu (us ρ1 (pls rs)) ρ1)=some ρ2) :
  bz im bnd c elt ix ρ=some (.ok (.val (.lst out) .u),ay fO (us ρ1 (pls rs)) ρ2):=by
 simp [bz,af,h1,h2,h3,a]
theorem qA:∀ {ds:List L3.D},(∀ d ∈ ds,d=.bl true)->iw ds=some (List.replicate ds.length true)
 | [],_=>rfl
 | d :: ds,h=>by
  have h1:=h d E6
  subst h1
  have h2:=qA fun d hd=>h d (E7 _ hd)
  simp [iw,h2,List.replicate_succ]
theorem nv {ds:List L3.D} (h:∀ d ∈ ds,d=.bl true):EZ (.lst ds)=some (.bl true,.z):=by
 simp [EZ,qA h]
theorem um {xs:List L3.D} {i:Nat} {d:L3.D} (h:xs[i]?=some d):L2.atI xs (i:Int)=some d:=by
 obtain ⟨h1,h2⟩:=Fi.mp h
 simp [L2.atI,ixN,h1,h2]
theorem wb {ps:List Pt} {i:Nat} {p:Pt} (h:ps[i]?=some p):L2.atI (ps.map Pd) (i:Int)=some (Pd p):=um (by simp [h])
theorem yP {f:List L3.D->Option (List L3.D)} {ms:M3 (List R3)} {ρ ρ1 ρ2:Sto} {rs:List R3} {ds xs:List L3.D} (h1:ms ρ=some (.ok rs,ρ1)) (h2:cG rs ρ1=some (.ok ds,ρ2)) (h3:f ds=some xs):aZ f ms ρ=some (.ok ([],xs),ρ2):=by
 simp [aZ,af,h1,h2,h3,aV]
theorem iV {a b:Int} (e:-1000<=a/\a<=1000) (f:-1000<=b/\b<=1000) {n:Nat} (d:(b - a).toNat=n):eZ [.int a,.int b]=some (bg a n):=by
 have lm:bY a=true:=Fv (by lia)
 have c:bY b=true:=Fv (by lia)
 show (if (bY a && bY b)=true then some (bg a (b - a).toNat) else none)=_
 rw [lm,c,d]
 exact if_pos rfl
theorem hE {b:Int} (d:-1000<=b/\b<=1000) {n:Nat} (c:b.toNat=n):d8 [.int b]=some (bg 0 n):=by
 have a:bY b=true:=Fv (by lia)
 show (if (bY b)=true then some (bg 0 b.toNat) else none)=_
 rw [a,c]
 exact if_pos rfl
end Bn
end
section
namespace Bn
open PySem L2 L3
section
variable {α:Type} {ρ ρ1 ρ2 ρ3:Sto} {ma mb mc m:EM} {ms:M3 (List R3)} {ra rb r:R3} {rs:List R3} {da db d:L3.D} {ds:List L3.D} {fl:Fl} {i n np:Nat} {sa sb:SM} {c cc:M3 Bool} {b b2:Bool} {x:Option (Except L3.D Flw × Sto)} {y:Option (Except L3.D R3 × Sto)}
theorem bd {p:L3.D × Fl} (h:(ρ[i]?).join=some p):ae i ρ=some (.ok (.pl i),ρ):=by simp [ae,h]
theorem i_c:mC d ρ=some (.ok (.val d .z),ρ):=rfl
theorem jf {f:L3.D->L3.D->Option (L3.D × Fl)} (h1:ma ρ=some (.ok ra,ρ1)) (h2:mb ρ1=some (.ok rb,ρ2)) (h3:der ra ρ2=some (.ok da,ρ2)) (a:der rb ρ2=some (.ok db,ρ2)) (b:f da db=some (d,fl)):ah f ma mb ρ=some (.ok (.val d fl),ρ2):=by
 simp only [ah,af,h1,h2,h3,a,aV,b,FE]
theorem i_un {f:L3.D->Option (L3.D × Fl)} (h1:ma ρ=some (.ok ra,ρ1)) (h3:der ra ρ1=some (.ok da,ρ1)) (a:f da=some (d,fl)):mUn f ma ρ=some (.ok (.val d fl),ρ1):=by
 simp only [mUn,af,h1,h3,aV,a,FE]
theorem bh {f:List L3.D->Option (L3.D × Fl)} (h1:ms ρ=some (.ok rs,ρ1)) (h3:cG rs ρ1=some (.ok ds,ρ1)) (a:f ds=some (d,fl)):al f ms ρ=some (.ok (.val d fl),ρ1):=by
 simp only [al,af,h1,h3,aV,a,FE]
theorem a8:ai ρ=some (.ok [],ρ):=rfl
theorem av (h1:m ρ=some (.ok r,ρ1)) (h2:ms ρ1=some (.ok rs,ρ2)):ac m ms ρ=some (.ok (r :: rs),ρ2):=by
 simp only [ac,af,h1,h2,aO]
theorem iF {mk:List L3.D->L3.D} {f:Fl} (h1:ms ρ=some (.ok rs,ρ1)) (h2:gives rs ρ1=some (.ok ds,ρ2)) (h3:ds.length<=16777216):pZ mk f ms ρ=some (.ok (.val (mk ds) f),ρ2):=by
 simp only [pZ,af,h1,h2,aV,h3,if_true,FE]
theorem aq {F:Fn} {ps qs:List (L3.D × Fl)} (b:F ps=some (.ok (d,fl),qs)) (h1:ms ρ=some (.ok rs,ρ1)) (h2:prs (frz (ki rs) ρ1) rs=some ps) (h3:qs.length=ps.length) (a:back rs ps qs (frz (ki rs) ρ1) = ρ2):am F ms ρ=some (.ok (.val d fl),ρ2):=by
 simp only [am,af,h1,h2,b,h3,if_true,a]
theorem m4 {p:L3.D × Fl} (h1:m ρ=some (.ok r,ρ1)) (h2:c6 r ρ1=some (.ok p,ρ2)) (h3:i < ρ2.length) (a:ρ2.set i (some p) = ρ3):aR i m ρ=some (.ok .nx,ρ3):=by
 simp only [aR,af,h1,h2,h3,if_true,a]
theorem i_asg {bnd:L3.D->Sto->Option Sto} {p:L3.D × Fl} (h1:m ρ=some (.ok r,ρ1)) (h2:c6 r ρ1=some (.ok p,ρ2)) (h3:bnd p.1 ρ2=some ρ3):lV bnd m ρ=some (.ok .nx,ρ3):=by
 simp only [lV,af,h1,h2,h3,FE]
theorem yR (h1:m ρ=some (.ok r,ρ1)):fV m ρ=some (.ok .nx,ρ1):=by
 simp only [fV,af,h1,aO]
def retF (np:Nat) (r:R3):SM:=aU np (aO r)
theorem dA (h1:m ρ=some (.ok r,ρ1)) (h2:retF np r ρ1=x):aU np m ρ=x:=by
 rw [<- h2]
 unfold retF
 simp only [aU,af,h1,aO]
theorem kO (h1:sa ρ=some (.ok (.rt d fl),ρ1)):aA sa sb ρ=some (.ok (.rt d fl),ρ1):=by
 simp only [aA,af,h1,aO]
theorem l6 (h1:m ρ=some (.ok r,ρ1)) (h2:der r ρ1=some (.ok (.bl b),ρ1)):cB m ρ=some (.ok b,ρ1):=by
 simp only [cB,af,h1,h2,aV,asB,FE]
theorem lu (h1:c ρ=some (.ok b,ρ1)):iH c ρ=some (.ok (!b),ρ1):=by
 simp only [iH,af,h1,aO]
theorem j7 (h1:c ρ=some (.ok b,ρ1)) (a:b=true) (h2:sa ρ1=x):sIf c sa sb ρ=x:=by
 subst a;simp only [sIf,af,h1,if_true];exact h2
theorem dO (h1:c ρ=some (.ok b,ρ1)) (a:b=false) (h2:sb ρ1=x):sIf c sa sb ρ=x:=by
 subst a;simp only [sIf,af,h1,FI,if_false];exact h2
theorem p9 (h1:c ρ=some (.ok b,ρ1)) (a:b=false) (h2:cc ρ1=some (.ok b2,ρ2)):cOr c cc ρ=some (.ok b2,ρ2):=by
 subst a;simp only [cOr,af,h1,FI,if_false];exact h2
theorem EA (h1:c ρ=some (.ok b,ρ1)) (a:b=true) (h2:cc ρ1=some (.ok b2,ρ2)):lJ c cc ρ=some (.ok b2,ρ2):=by
 subst a;simp only [lJ,af,h1,if_true];exact h2
theorem EB (h1:c ρ=some (.ok b,ρ1)) (a:b=false):lJ c cc ρ=some (.ok false,ρ1):=by
 subst a;simp only [lJ,af,h1,FI,if_false];rfl
theorem tV (h1:ma ρ=some (.ok r,ρ1)) (h2:der r ρ1=some (.ok (.bl b),ρ1)) (a:b=true) (h3:mb ρ1=y):iD ma mb ρ=y:=by
 subst a;simp only [iD,af,h1,h2,aV,asB,FE,if_true];exact h3
theorem Ey (h1:c ρ=some (.ok b,ρ1)) (a:b=true) (h2:ma ρ1=y):mIf c ma mb ρ=y:=by
 subst a;simp only [mIf,af,h1,if_true];exact h2
theorem Ez (h1:c ρ=some (.ok b,ρ1)) (a:b=false) (h2:mb ρ1=y):mIf c ma mb ρ=y:=by
 subst a;simp only [mIf,af,h1,FI,if_false];exact h2
theorem i_mut {ok:L3.D->Bool} {f:L3.D->List L3.D->Option (L3.D × L3.D)} {b c a:L3.D} (h0:(ρ[i]?).join=some (d,fl)) (h:ok d=true) (h1:ms ρ=some (.ok rs,ρ1)) (h2:gives rs ρ1=some (.ok ds,ρ2)) (h3:(ρ2[i]?).join=some (b,.u)) (g:f b ds=some (c,a)) (e:ρ2.set i (some (c,.u)) = ρ3):vn ok f i ms ρ=some (.ok (.val a .z),ρ3):=by
 simp only [vn,af,bd h0,chk,h0,h,if_true,h1,h2,h3,g,e]
theorem yQ {f:L3.D->List L3.D->Option (L3.D × L3.D)} {a b c:L3.D} (h1:mb ρ=some (.ok rb,ρ1)) (h0:(ρ1[i]?).join=some (d,fl)) (h2:ma ρ1=some (.ok ra,ρ2)) (h3:gives [ra,rb] ρ2=some (.ok ds,ρ3)) (g:(ρ3[i]?).join=some (a,.u)) (e:f a ds=some (b,c)):kQ f i ma mb ρ=some (.ok .nx,ρ3.set i (some (b,.u))):=by
 simp only [kQ,af,h1,bd h0,h2,h3,g,e]
theorem aW {mask:List Bool} {ps qs:List (L3.D × Fl)} (h1:ps.length=mask.length) (h0:fN n (List.zipWith l4 mask ps) = ρ) (h2:sa ρ=some (.ok (.rt d fl),ρ1)) (h3:eF ρ1 0 (List.zipWith l4 mask ps)=some qs):fnM mask n sa ps=some (.ok (d,fl),qs):=by
 subst h0;simp only [fnM,h1,if_true,fn0,h2,h3,FE]
theorem F_nx {mask:List Bool} {ps qs:List (L3.D × Fl)} (h1:ps.length=mask.length) (h0:fN n (List.zipWith l4 mask ps) = ρ) (h2:sa ρ=some (.ok .nx,ρ1)) (h3:eF ρ1 0 (List.zipWith l4 mask ps)=some qs):fnM mask n sa ps=some (.ok (.non,.z),qs):=by
 subst h0;simp only [fnM,h1,if_true,fn0,h2,h3,FE]
theorem fJ {i j:Int} (h:-18446744073709551616 < i/\i < 18446744073709551616):dS (.int i) (.int j)=some (.int (i * j),.z):=by
 simp [cT,h]
theorem x6 {i j:Int} (h:-18446744073709551616 < j/\j < 18446744073709551616):dS (.int i) (.int j)=some (.int (i * j),.z):=by
 simp [cT,h]
theorem fM {im:IM} {bnd:L3.D->Sto->Option Sto} {o:Except L3.D Flw} (h1:im ρ=some (.ok (rs,ds),ρ1)) (a:us ρ1 (pls rs)=[]) (h2:cF bnd sb ds ρ1=some (o,ρ2)):cy im bnd sb ρ=some (o,ρ2):=by
 have b:∀ f ρ,ay f [] ρ = ρ:=fun _ _=>rfl
 simp only [cy,af,h1,a,b,h2,FE]
theorem tW (h1:m ρ=some (.ok r,ρ1)) (h2:der r ρ1=some (.ok d,ρ1)) (h3:sN d=some ds):bZ m ρ=some (.ok ([r],ds),ρ1):=by
 simp only [bZ,af,h1,h2,aV,h3,FE]
theorem dN {f:List L3.D->Option (List L3.D)} {xs:List L3.D} (h1:ms ρ=some (.ok rs,ρ1)) (h2:cG rs ρ1=some (.ok ds,ρ1)) (h3:f ds=some xs):aZ f ms ρ=some (.ok ([],xs),ρ1):=yP h1 h2 h3
end
theorem bI {α:Type} {bnd:L3.D->Sto->Option Sto} {c:M3 Bool} {elt:EM} (P:Sto->Prop) (D:α->L3.D) (g:α->Bool) (f:α->L3.D):∀ {xs:List α} {τ:Sto},P τ ->
  (∀ x ∈ xs,∀ τ,P τ->∃ τ1 τ2,bnd (D x) τ=some τ1/\c τ1=some (.ok (g x),τ2)/\(g x=false->P τ2)/\(g x=true->∃ r τ3 p τ4,elt τ2=some (.ok r,τ3)/\c6 r τ3=some (.ok p,τ4)/\p.1=f x/\P τ4)) ->
  ∃ τ',bN bnd c elt (xs.map D) τ=some (.ok ((xs.filter g).map f),τ')/\P τ'
 | [],τ,h0,_=>⟨τ,rfl,h0⟩
 | x :: xs,τ,h0,hs=>by
  obtain ⟨τ1,τ2,e1,b,hf,l⟩:=hs x E6 τ h0
  cases a:g x with
  | false =>
   obtain ⟨τ',e,h⟩:=bI P D g f (xs:=xs) (τ:=τ2) (hf a) fun d hd=>hs d (E7 _ hd)
   refine ⟨τ',?_,h⟩
   rw [Fu]
   unfold bN
   rw [a] at b
   simp [e1,af,b,e,List.filter_cons,a]
  | true =>
   obtain ⟨r,τ3,p,τ4,j,m,k,i⟩:=l a
   obtain ⟨τ',e,h⟩:=bI P D g f (xs:=xs) (τ:=τ4) i fun d hd=>hs d (E7 _ hd)
   refine ⟨τ',?_,h⟩
   rw [Fu]
   unfold bN
   rw [a] at b
   simp [e1,af,b,j,m,e,List.filter_cons,a,aO,k]
section
variable {α:Type} {P:List α->Prop} {us:List α}
theorem bnd0 (h:us.length=0) (f:P []):P us:=by
 cases us with
 | nil=>exact f
 | cons a us=>cases h
theorem BW {n:Nat} (h:us.length=n+1) (f:∀ a r,r.length=n->P (a :: r)):P us:=by
 cases us with
 | nil=>cases h
 | cons a us=>exact f a us (Nat.succ.inj h)
theorem bnd1 (h:us.length=1) (f:∀ a,P [a]):P us:=BW h fun a _ h=>bnd0 (P:=fun r=>P (a :: r)) h (f a)
theorem bnd2 (h:us.length=2) (f:∀ a b,P [a,b]):P us:=BW h fun a _ h=>bnd1 (P:=fun r=>P (a :: r)) h (f a)
theorem bnd3 (h:us.length=3) (f:∀ a b c,P [a,b,c]):P us:=BW h fun a _ h=>bnd2 (P:=fun r=>P (a :: r)) h (f a)
theorem bnd4 (h:us.length=4) (f:∀ a b c d,P [a,b,c,d]):P us:=BW h fun a _ h=>bnd3 (P:=fun r=>P (a :: r)) h (f a)
end
theorem hb1 {x:Str} {st:Stmt} {b:Str} (f:∀ (kV doc pm:Value) (an:Option Addr) (a ct c:Value),bindArgs (PySem.W.fnOf x x (aQ st) (aJ st) (ag st) .none kV doc pm an a ct) ⟨[c],[]⟩=pure ([b].zip [c])) (kV doc pm:Value) (an:Option Addr) (a ct:Value) (us:List Value) (d:us.length=[b].length):bindArgs (PySem.W.fnOf x x (aQ st) (aJ st) (ag st) .none kV doc pm an a ct) ⟨us,[]⟩=pure ([b].zip us) :=
 bnd1 (P:=fun us=>bindArgs (PySem.W.fnOf x x (aQ st) (aJ st) (ag st) .none kV doc pm an a ct) ⟨us,[]⟩=pure ([b].zip us)) d (f kV doc pm an a ct)
theorem hb2 {x:Str} {st:Stmt} {b c:Str} (f:∀ (kV doc pm:Value) (an:Option Addr) (a ct d a1:Value),bindArgs (PySem.W.fnOf x x (aQ st) (aJ st) (ag st) .none kV doc pm an a ct) ⟨[d,a1],[]⟩=pure ([b,c].zip [d,a1])) (kV doc pm:Value) (an:Option Addr) (a ct:Value) (us:List Value) (e:us.length=[b,c].length):bindArgs (PySem.W.fnOf x x (aQ st) (aJ st) (ag st) .none kV doc pm an a ct) ⟨us,[]⟩=pure ([b,c].zip us) :=
 bnd2 (P:=fun us=>bindArgs (PySem.W.fnOf x x (aQ st) (aJ st) (ag st) .none kV doc pm an a ct) ⟨us,[]⟩=pure ([b,c].zip us)) e (f kV doc pm an a ct)
theorem hb3 {x:Str} {st:Stmt} {c b p2:Str} (f:∀ (kV doc pm:Value) (an:Option Addr) (a ct d a1 a2:Value),bindArgs (PySem.W.fnOf x x (aQ st) (aJ st) (ag st) .none kV doc pm an a ct) ⟨[d,a1,a2],[]⟩=pure ([c,b,p2].zip [d,a1,a2])) (kV doc pm:Value) (an:Option Addr) (a ct:Value) (us:List Value) (e:us.length=[c,b,p2].length):bindArgs (PySem.W.fnOf x x (aQ st) (aJ st) (ag st) .none kV doc pm an a ct) ⟨us,[]⟩=pure ([c,b,p2].zip us) :=
 bnd3 (P:=fun us=>bindArgs (PySem.W.fnOf x x (aQ st) (aJ st) (ag st) .none kV doc pm an a ct) ⟨us,[]⟩=pure ([c,b,p2].zip us)) e (f kV doc pm an a ct)
theorem hb4 {x:Str} {st:Stmt} {d b p2 c:Str} (f:∀ (kV doc pm:Value) (an:Option Addr) (a ct e a1 a2 g:Value),bindArgs (PySem.W.fnOf x x (aQ st) (aJ st) (ag st) .none kV doc pm an a ct) ⟨[e,a1,a2,g],[]⟩=pure ([d,b,p2,c].zip [e,a1,a2,g])) (kV doc pm:Value) (an:Option Addr) (a ct:Value) (us:List Value) (h:us.length=[d,b,p2,c].length):bindArgs (PySem.W.fnOf x x (aQ st) (aJ st) (ag st) .none kV doc pm an a ct) ⟨us,[]⟩=pure ([d,b,p2,c].zip us) :=
 bnd4 (P:=fun us=>bindArgs (PySem.W.fnOf x x (aQ st) (aJ st) (ag st) .none kV doc pm an a ct) ⟨us,[]⟩=pure ([d,b,p2,c].zip us)) h (f kV doc pm an a ct)
end Bn
end
section
namespace L3
open PySem L2
def tgN:Expr->List Str
 | .Name x _=>[x]
 | .Tuple [.Name x _,.Name y _] _ _=>[x,y]
 | .Tuple [.Name x _,.Name y _,.Name z _] _ _=>[x,y,z]
 | _=>[]
def pF (tg:Expr) (N:List Str) (ix:List (Option Nat)):List Str:=tgN tg ++ ix.filterMap fun o=>o.bind fun i=>N[i]?
def ndB:List Str->Bool
 | []=>true
 | x :: xs=>!(xs.any fun y=>decide (y=x)) && ndB xs
theorem tF:∀ {xs:List Str},ndB xs=true->xs.Nodup
 | [],_=>.nil
 | x :: xs,h=>by
  simp only [ndB,Bool.and_eq_true,Bool.not_eq_true',List.any_eq_false,decide_eq_true_eq] at h
  exact List.nodup_cons.mpr ⟨fun m=>h.1 x m rfl,tF h.2⟩
section
variable {X:Cx} {G0:Gm} {W0:D->Sto->Prop} {pos:Pos}
theorem xv (g:X.calm=true) (hi:RI X G0 W0 tg iter im) (e:∀ s H C fp,PTs (aD X (pF tg X.N ix) scope s H C fp) ifs (tT X.K (a9 ix) noX cm)) (he:∀ s H C fp,RE (aD X (pF tg X.N ix) scope s H C fp) (a9 ix) noX elt em) (d:gk scope X.N X.env.scope (pF tg X.N ix) ix=true) (b:Inj ix) (f:∀ x,foldedSetIterable iter X.env x=pure x) (c:∃ a,Bnd X.K (a9 ix).pr a bnd/\∀ s H C fp,PG (aD X (pF tg X.N ix) scope s H C fp) tg a):RE X G0 W0 (.ListComp elt [⟨tg,iter,ifs,0⟩] scope pos) (bz im bnd cm em ix) :=
 AB _ ix g hi e he d b f c
theorem pe {i:Nat} (f:X.N.Nodup) (l:X.N[i]?=some y) (j:Loc X.env.scope y) (m:X.calm=true) (hi:RI X G0 W0 tg iter im) (h:∀ s H C fp,PTs (aD X (pF tg X.N ix) scope s H C fp) ifs (tT X.K (a9 ix) noX cm)) (he:∀ s H C fp,RE (aD X (pF tg X.N ix) scope s H C fp) (a9 ix) noX elt em) (g:gk scope X.N X.env.scope (pF tg X.N ix) ix=true) (b:Inj ix) (d:swapsWith (.ListComp elt [⟨tg,iter,ifs,0⟩] scope pos) (some (.Name y py)) spos.line X.env=pure true) (hf:X.fn y=true\/X.env.scope.names.lookup y=some .local) (k:∀ x,foldedSetIterable iter X.env x=pure x) (e:G0.pr i=false) (c:∃ a,Bnd X.K (a9 ix).pr a bnd/\∀ s H C fp,PG (aD X (pF tg X.N ix) scope s H C fp) tg a):RS X G0 W0 (.Assign [.Name y py] (.ListComp elt [⟨tg,iter,ifs,0⟩] scope pos) spos) (aR i (bz im bnd cm em ix)) :=
 qT f l j _ ix m hi h he g b d hf k e c
end
section
variable {X:Cx} {G0:Gm} {W0:D->Sto->Prop} {p q r:Pos} {m:EM} {e e1:Expr} {es:List Expr} {t:M3 Bool} {sm:SM}
theorem gN {i:Nat} (h:RE X G0 W0 (.Name x p) (ae i)):RE X G0 W0 (.Name x p) (ae i):=h
theorem gG (h:RE X G0 W0 (.Name x p) (mC d)):RE X G0 W0 (.Name x p) (mC d):=h
theorem gH (h:RE X G0 W0 (.Name x p) m):RE X G0 W0 (.Name x p) m:=h
theorem gK {k:Nat} (h:RE X G0 W0 (.Constant c k p) m):RE X G0 W0 (.Constant c k p) m:=h
theorem gB (op:Operator) (h:RE X G0 W0 (.BinOp e op e1 p) m):RE X G0 W0 (.BinOp e op e1 p) m:=h
theorem gU (op:UnaryOp) (h:RE X G0 W0 (.UnaryOp op e p) m):RE X G0 W0 (.UnaryOp op e p) m:=h
theorem gP (os:List CmpOp) (h:RE X G0 W0 (.Compare e os es p) m):RE X G0 W0 (.Compare e os es p) m:=h
theorem gO (h:RE X G0 W0 (.BoolOp op es p) m):RE X G0 W0 (.BoolOp op es p) m:=h
theorem gS (h:RE X G0 W0 (.Subscript e e1 p) m):RE X G0 W0 (.Subscript e e1 p) m:=h
theorem gL (h:RE X G0 W0 (.Subscript e (.Slice a b c p) q) m):RE X G0 W0 (.Subscript e (.Slice a b c p) q) m:=h
theorem gI (x:Str) (h:RE X G0 W0 (.Call (.Name s p) [e,.Name x q] [] r) m):RE X G0 W0 (.Call (.Name s p) [e,.Name x q] [] r) m:=h
theorem gC (x:Str) (h:RE X G0 W0 (.Call (.Name x p) es ks q) m):RE X G0 W0 (.Call (.Name x p) es ks q) m:=h
theorem gD (h:RE X G0 W0 (.Call (.Name x p) es ks q) m):RE X G0 W0 (.Call (.Name x p) es ks q) m:=h
theorem gM (x:Str) (h:RE X G0 W0 (.Call (.Attribute e x p) es ks q) m):RE X G0 W0 (.Call (.Attribute e x p) es ks q) m:=h
theorem gE (h:RE X G0 W0 e m):RE X G0 W0 e m:=h
theorem gA (h:RA X G0 W0 es ms):RA X G0 W0 es ms:=h
theorem gQ (os:List CmpOp) (h:RT X G0 W0 (.Compare e os es p) t):RT X G0 W0 (.Compare e os es p) t:=h
theorem gW (h:RT X G0 W0 (.BoolOp op es p) t):RT X G0 W0 (.BoolOp op es p) t:=h
theorem gV (h:RT X G0 W0 (.UnaryOp .Not e p) t):RT X G0 W0 (.UnaryOp .Not e p) t:=h
theorem gT (h:RT X G0 W0 e t):RT X G0 W0 e t:=h
theorem gR (h:RS X G0 W0 (.Return o p) sm):RS X G0 W0 (.Return o p) sm:=h
theorem gF (h:RS X G0 W0 (.If e ss tt p) sm):RS X G0 W0 (.If e ss tt p) sm:=h
theorem gX (h:RS X G0 W0 (.Assign [.Name x p] e q) sm):RS X G0 W0 (.Assign [.Name x p] e q) sm:=h
theorem gZ (h:RS X G0 W0 st sm):RS X G0 W0 st sm:=h
theorem gY (h:RSs X G0 W0 ss sm):RSs X G0 W0 ss sm:=h
end
end L3
end
section
namespace Bn
open PySem L2 L3
local macro_rules | `(tactic| infer_instance)=>`(tactic| first | with_reducible apply bd | with_reducible exact i_c | with_reducible apply jf | with_reducible apply i_un | with_reducible apply bh | with_reducible exact a8 | with_reducible apply av | with_reducible apply iF | with_reducible apply m4 | with_reducible apply i_asg | with_reducible apply yR | with_reducible apply dA | with_reducible exact i_nilS | with_reducible apply l6 | with_reducible apply lu | with_reducible apply i_mNot | with_reducible apply i_sl | with_reducible exact i_pNone | with_reducible apply i_pSome | with_reducible apply i_mut | with_reducible apply yQ | with_reducible apply tW | with_reducible apply dN | with_reducible apply tV | with_reducible apply p9)
local macro_rules | `(tactic| eq_refl)=>`(tactic| first | exact rfl | exact Nat.le_of_ble_eq_true rfl)
local macro_rules | `(tactic| nofun) => `(tactic| repeat' (first | infer_instance | eq_refl))
local macro_rules | `(tactic| exists $es,*) => `(tactic| repeat' (first | infer_instance | (first $[| exact $es]*) | eq_refl))
local macro_rules | `(tactic| nomatch [$fs,*]) => `(tactic| repeat' (first | infer_instance | (first $[| with_reducible apply aq $fs]*) | eq_refl))
local macro_rules | `(tactic| nomatch [$fs,*], [$es,*]) => `(tactic| repeat' (first | infer_instance | (first $[| with_reducible apply aq $fs]*) | (first $[| exact $es]*) | eq_refl))
section
variable {X:Cx} {G0:Gm} {W0:L3.D->Sto->Prop} {pos:Pos}
end
section
variable {P:Program} {w:World} {K:FG} {mg:Str->Option Value} {base:Heap}
local macro_rules | `(tactic| ac_rfl) => `(tactic| exact ⟨rfl,rfl,rfl,by decide +kernel,rfl,by decide +kernel,by decide +kernel⟩)
set_option hygiene false
local macro_rules | `(tactic| and_intros)=>`(tactic| repeat' (first
 | ((with_reducible apply gA);first | refine sV ?_ ?_ rfl | refine xx)
 | ((with_reducible apply gN);first | refine nF _ rfl (Or.inl rfl) (by decide) (by decide) | refine nF _ rfl (Or.inr (Or.inl rfl)) (by decide) (by decide))
 | ((with_reducible apply gG);refine pi rfl (by assumption) (by decide))
 | ((with_reducible apply gK);first | refine Du | refine re_bl | refine Dr)
 | ((with_reducible apply gL);refine xt ?_ ?_ ?_)
 | ((with_reducible apply gS);refine re_ix (Ex hr.hu) Ec ?_ ?_ (fun _ _=>rfl))
 | ((with_reducible apply gB .Add);refine jr A2 Ef ?_ ?_)
 | ((with_reducible apply gB .Sub);refine jr DT A5 ?_ ?_)
 | ((with_reducible apply gB .Mult);refine jr DX A8 ?_ ?_)
 | ((with_reducible apply gB .Mod);refine jr DY A9 ?_ ?_)
 | ((with_reducible apply gB .FloorDiv);refine jr xU Bc ?_ ?_)
 | ((with_reducible apply gB .Pow);refine jr DU A7 ?_ ?_)
 | ((with_reducible apply gQ [.Eq]);refine kS (xV hr.units) xY ?_ ?_ (fh _))
 | ((with_reducible apply gQ [.Lt]);refine kS Ch Cj ?_ ?_ (fh _))
 | ((with_reducible apply gQ [.NotEq]);refine kS (DW hr.units) Ed ?_ ?_ (fh _))
 | ((with_reducible apply gQ [.Gt]);refine kS Ci Cl ?_ ?_ (fh _))
 | ((with_reducible apply gQ [.GtE]);refine kS op_ge od_ge ?_ ?_ (fh _))
 | ((with_reducible apply gW);refine rt_w ?_)
 | ((with_reducible apply gV);refine Dh ?_)
 | ((with_reducible apply gT);refine Dg ?_ (fun _=>rfl))
 | ((with_reducible apply gP [.Eq]);refine nG (xV hr.units) xY ?_ ?_ (fh _))
 | ((with_reducible apply gP [.LtE,.LtE]);refine xw tv Ck tv Ck ?_ ?_ ?_ (fun h1 h2 h3=>xR tv tv h1 h2 h3))
 | ((with_reducible apply gP [.Lt]);refine nG Ch Cj ?_ ?_ (fh _))
 | ((with_reducible apply gP [.Is]);refine nG DZ Ee ?_ ?_ (fh _))
 | ((with_reducible apply gP [.Gt]);refine nG Ci Cl ?_ ?_ (fh _))
 | ((with_reducible apply gO);first | refine Dv ?_ ?_ | refine Dp ?_)
 | ((with_reducible apply gU .USub);refine re_un CC CD ?_)
 | ((with_reducible apply gU .Not);refine Dq ?_)
 | ((with_reducible apply gI "tuple");refine qX lG rfl B.isinstance (nM (v:=V.ty "tuple") rfl B.tuple uj rfl (by decide) (by decide)) ?_ rfl rfl rfl)
 | ((with_reducible apply gI "int");refine qX oA rfl B.isinstance (nM (v:=V.ty "int") rfl B.int b_int rfl (by decide) (by decide)) ?_ rfl rfl rfl)
 | ((with_reducible apply gI "bool");refine qX md rfl B.isinstance (nM (v:=V.ty "bool") rfl B.bool EU rfl (by decide) (by decide)) ?_ rfl rfl rfl)
 | ((with_reducible apply gC "len");refine bx ot EN rfl B.len b_len ?_ (by decide) (by decide) rfl rfl)
 | ((with_reducible apply gC "all");refine bx (zp rfl) EO rfl B.all b_all ?_ (by decide) (by decide) rfl rfl)
 | ((with_reducible apply gC "tuple");refine mI l8 EK rfl B.tuple uj ?_ (by decide) (by decide) rfl rfl)
 | ((with_reducible apply gC "repr");refine bx (om hr.gd hr.units) zm rfl B.repr ES ?_ (by decide) (by decide) rfl rfl)
 | ((with_reducible apply gC "max");first | refine Dt (wX rfl) Ba rfl B.max ul ?_ ?_ (by decide) (by decide) rfl rfl rfl rfl rfl rfl | refine AA rfl rfl B.max ?_ rfl rfl rfl rfl | refine bx (vX rfl) BT rfl B.max ul ?_ (by decide) (by decide) rfl rfl | refine bx (vY rfl) BU rfl B.max ul ?_ (by decide) (by decide) rfl rfl)
 | ((with_reducible apply gC "min");first | refine bx (vP rfl hr.hu) BP rfl B.min uk ?_ (by decide) (by decide) rfl rfl | refine bx (vS rfl) BR rfl B.min uk ?_ (by decide) (by decide) rfl rfl | refine bx (vR rfl) BQ rfl B.min uk ?_ (by decide) (by decide) rfl rfl | refine bx (sf rfl hr.hu) BO rfl B.min uk ?_ (by decide) (by decide) rfl rfl)
 | ((with_reducible apply gC "abs");refine bx zq EQ rfl B.abs b_abs ?_ (by decide) (by decide) rfl rfl)
 | ((with_reducible apply gC "divmod");refine bx qo vK rfl B.divmod zw ?_ (by decide) (by decide) rfl rfl)
 | ((with_reducible apply gC "list");refine mI oq EL rfl B.list ET ?_ (by decide) (by decide) rfl rfl)
 | ((with_reducible apply gC "sorted");first | refine re_ss rfl rfl B.sorted qz rfl B.set b_set ?_ (by decide) (by decide) (by decide) (by decide) rfl rfl | refine bx (se (Nat.lt_of_le_of_lt (Nat.add_le_add_left (by decide:2<=64) _) hr.units)) zk rfl B.sorted qz ?_ (by decide) (by decide) rfl rfl)
 | ((with_reducible apply gD);refine AC (by assumption) (hr.mono (by first | decide | omega)) ?_ rfl (by decide) rfl rfl)
 | ((with_reducible apply gM "extend");refine sU (ok:=isL) PySem.F.plainAttrs_list PySem.F.slot_list_extend PySem.F.type_list_extend u9 El yN (k6 rfl (Or.inl rfl) (by decide) (by decide)) ?_ rfl rfl rfl rfl rfl)
 | ((with_reducible apply gM "append");refine sU (ok:=isL) PySem.F.plainAttrs_list PySem.F.slot_list_append PySem.F.type_list_append vd Em yN (k6 rfl (Or.inl rfl) (by decide) (by decide)) ?_ rfl rfl rfl rfl rfl)
 | ((with_reducible apply gH);first | refine nF _ rfl (Or.inl rfl) (by decide) (by decide) | refine nF _ rfl (Or.inr (Or.inl rfl)) (by decide) (by decide) | refine pi rfl (by assumption) (by decide))
 | ((with_reducible apply gE);first | refine Do ?_ | refine xv rfl ?_ (fun s H C fp=>?_) (fun s H C fp=>?_) (by rfl) (yO (by decide)) (fun _=>rfl) ⟨_,jh rfl,fun s H C fp=>kC (tF rfl) rfl (Or.inl rfl) (Or.inr rfl)⟩ | refine Ds ?_ | refine xu | refine re_if ?_ ?_ ?_)
 | ((with_reducible apply gY);first | refine Am ?_ | refine xc ?_ ?_ | refine An)
 | ((with_reducible apply gR);refine Di _ (fun i hi=>by rw [hp] ;exact AN (by simpa using hi)) ?_)
 | ((with_reducible apply gF);refine rs_if ?_ ?_ ?_)
 | ((with_reducible apply gX);first | refine pe nd rfl (Or.inl rfl) rfl ?_ (fun s H C fp=>?_) (fun s H C fp=>?_) (by rfl) (yO (by decide)) rfl (Or.inl rfl) (fun _=>rfl) (by rw [hp] ;rfl) ⟨_,ug (jL (jh rfl) (jL (jh rfl) qw)),fun s H C fp=>xN (n:=2) rfl (k4 (kC (tF rfl) rfl (Or.inl rfl) (Or.inr rfl)) (k4 (kC (tF rfl) rfl (Or.inl rfl) (Or.inr rfl)) tu rfl) rfl) rfl rfl⟩ | refine xi _ nd rfl (Or.inl rfl) ?_ rfl (Or.inl rfl) (by rw [hp] ;rfl) | refine xi _ nd rfl (Or.inr rfl) ?_ rfl (Or.inl rfl) (by rw [hp] ;rfl))
 | ((with_reducible apply gZ);first | refine Dj PassesOwn.never rfl ?_ ?_ ?_ (fun _=>rfl) | refine Ao ?_ rfl | refine xh (sM hr.hu) yi (k6 rfl (Or.inl rfl) (by decide) (by decide)) ?_ ?_ (fun _=>rfl) rfl rfl rfl | refine xg PassesOwn.never ?_ ?_ | refine Dk ?_ ?_ rfl rfl rfl | refine xj | refine xh (sM hr.hu) yi (k6 rfl (Or.inr (Or.inl rfl)) (by decide) (by decide)) ?_ ?_ (fun _=>rfl) rfl rfl rfl)
 | refine sR _ nd rfl (Or.inl rfl) (Or.inl rfl) (by rw [hp] ;rfl)
 | refine Dl ?_
 | refine xo
 | refine xr ?_ ?_ rfl
 | refine Aw rfl B.range ?_ rfl
 | refine xk ?_
 | refine sR _ nd rfl (Or.inr rfl) (Or.inl rfl) (by rw [hp] ;rfl)
 | refine Av rfl B.range ?_ rfl rfl
 | refine C9 ?_
 | refine rw_or ?_ ?_
 | refine Az
 | refine Dm rfl ?_ rfl rfl
 | refine Au rfl B.range ?_ rfl rfl
 | refine Ax ?_
 | refine Af ?_
 | refine Da ?_ ?_
 | refine Ay rfl B.enumerate ?_ rfl
 | refine Aq
 | refine Ap ?_))
local macro_rules | `(tactic| specialize $q) => `(tactic| exact aN D $q rfl rfl (by first | exact hb1 fun _ _ _ _ _ _ _=>rfl | exact hb2 fun _ _ _ _ _ _ _ _=>rfl | exact hb3 fun _ _ _ _ _ _ _ _ _=>rfl | exact hb4 fun _ _ _ _ _ _ _ _ _ _=>rfl) fun cdv A outer s H E f G hr hp=>have nd:=($q).nd;by and_intros)
set_option hygiene true
def rG:SM:=(aU 1 (iD (mUn (jB "int") (ae 0)) (p4 (mUn (jB "bool") (ae 0)))))
def fG:Fn:=fnM [false] 1 rG
theorem sc_is_whole:FnScope ["thing"] ["thing"] (ag eW):=by ac_rfl
theorem oC (B:Bl mg) (D:Def K mg "is_whole" eW):aH P w K mg base "is_whole" 1 ["thing"] fG :=by specialize sc_is_whole
def rJ:SM:=(aU 1 (iD (mUn (jB "tuple") (ae 0)) (iD (ah eqX (al dz (ac (ae 0) ai)) (mC (.int 2))) (iD (am fG (ac (ah aB (ae 0) (mC (.int 0))) ai)) (am fG (ac (ah aB (ae 0) (mC (.int 1))) ai))))))
def fI:Fn:=fnM [false] 1 rJ
theorem sc_is_point:FnScope ["thing"] ["thing"] (ag eY):=by ac_rfl
theorem oE (B:Bl mg) (D:Def K mg "is_point" eY) (a:aH P w K mg base "is_whole" 1 ["thing"] fG):aH P w K mg base "is_point" 2 ["thing"] fI :=by specialize sc_is_point
def cV:EM:=(am fI (ac (ae 0) ai))
def fL:EM:=(bz (bZ (ae 0)) (aj 0) fB cV [none])
def nX:SM:=(aU 1 (iD (fm leI leI (mC (.int 1)) (al dz (ac (ae 0) ai)) (mC (.int (24)))) (al zB (ac fL ai))))
def dh:Fn:=fnM [false] 1 nX
theorem sc_are_points:FnScope ["things"] ["things"] (ag c8):=by ac_rfl
theorem lH (B:Bl mg) (D:Def K mg "are_points" c8) (c:aH P w K mg base "is_point" 2 ["thing"] fI) {a:Tok} (b:mg "MOST_POINTS"=some (.int (24) a)):aH P w K mg base "are_points" 3 ["things"] dh :=by specialize sc_are_points
def cp:EM:=(ah ltI (ah aB (ah aB (ae 1) (ae 0)) (mC (.int 0))) (ah aB (ah aB (ae 1) (ah bM (ae 0) (mC (.int 1)))) (mC (.int 0))))
def dM:EM:=(bz (aZ d8 (ac (ah eS (al dz (ac (ae 0) ai)) (mC (.int 1))) ai)) (aj 0) fB cp [none,some 0])
def gc:SM:=(aU 1 (al zB (ac dM ai)))
def cx:Fn:=fnM [false] 1 gc
theorem sc_has_rising_x:FnScope ["points"] ["points"] (ag cf):=by ac_rfl
theorem jK (B:Bl mg) (D:Def K mg "has_rising_x" cf):aH P w K mg base "has_rising_x" 1 ["points"] cx :=by specialize sc_has_rising_x
def Eo:SM:=(aA (aR 3 (ah dS (ah eS (ah aB (ae 1) (mC (.int 0))) (ah aB (ae 0) (mC (.int 0)))) (ah eS (ah aB (ae 2) (mC (.int 1))) (ah aB (ae 0) (mC (.int 1)))))) (aU 3 (ah eS (ae 3) (ah dS (ah eS (ah aB (ae 1) (mC (.int 1))) (ah aB (ae 0) (mC (.int 1)))) (ah eS (ah aB (ae 2) (mC (.int 0))) (ah aB (ae 0) (mC (.int 0))))))))
def jM:Fn:=fnM [false,false,false] 4 Eo
theorem sc_bend:FnScope ["first","second","third","run"] ["first","second","third"] (ag nC):=by ac_rfl
theorem zt (B:Bl mg) (D:Def K mg "bend" nC):aH P w K mg base "bend" 1 ["first","second","third"] jM :=by specialize sc_bend
def fZ:EM:=(fQ (ac (ae 1) (ac (ae 2) (ac (ae 0) ai))))
def jW:EM:=(bz (aZ eZ (ac (ah bM (ae 3) (mC (.int 1))) (ac (ae 0) ai))) (aj 0) fB fZ [none,some 2,some 3])
def f9:SM:=(fV (vn isL y7 1 (ac jW ai)))
def jX:SM:=(cy (aZ eZ (ac (ah bM (ae 2) (mC (.int 1))) (ac (ae 0) ai))) (aj 3) f9)
def yj:SM:=(aA (aR 1 (jt ai)) (aA (cy (aZ d8 (ac (ae 0) ai)) (aj 2) jX) (aU 1 (ae 1))))
def eI:Fn:=fnM [false] 4 yj
theorem sc_threes:FnScope ["many","found","i","j"] ["many"] (ag iO):=by ac_rfl
theorem sg (B:Bl mg) (D:Def K mg "threes" iO):aH P w K mg base "threes" 1 ["many"] eI :=by specialize sc_threes
def bW:EM:=(ah aB (ae 1) (ae 0))
def dq:EM:=(bz (bZ (ae 1)) (aj 0) fB bW [none,some 0])
def bu:SM:=(aA (aR 2 (al zP (ac dq ai))) (sIf (cB (ah eqX (am jM (ac (ah aB (ae 2) (mC (.int 0))) (ac (ah aB (ae 2) (mC (.int 1))) (ac (ah aB (ae 2) (mC (.int 2))) ai)))) (mC (.int 0)))) (aU 1 (ae 2)) dC))
def ke:SM:=(aA (cy (bZ (am eI (ac (al dz (ac (ae 0) ai)) ai))) (aj 1) bu) (aU 1 (mC .non)))
def bV:Fn:=fnM [false] 3 ke
theorem sc_first_on_line:FnScope ["points","three","found"] ["points"] (ag bU):=by ac_rfl
theorem jg (B:Bl mg) (D:Def K mg "first_on_line" bU) (b:aH P w K mg base "bend" 1 ["first","second","third"] jM) (a:aH P w K mg base "threes" 1 ["many"] eI):aH P w K mg base "first_on_line" 2 ["points"] bV :=by specialize sc_first_on_line
def rH:SM:=(aA (sIf (cOr (iH (cB (mUn (jB "tuple") (ae 0)))) (iH (cB (am dh (ac (ae 0) ai))))) (aU 1 (mC (.bl false))) dC) (aU 1 (iD (am cx (ac (ae 0) ai)) (ah isN (am bV (ac (ae 0) ai)) (mC .non)))))
def fH:Fn:=fnM [false] 1 rH
theorem sc_is_sheet:FnScope ["thing"] ["thing"] (ag eX):=by ac_rfl
theorem oD (B:Bl mg) (D:Def K mg "is_sheet" eX) (c:aH P w K mg base "are_points" 3 ["things"] dh) (a:aH P w K mg base "first_on_line" 2 ["points"] bV) (b:aH P w K mg base "has_rising_x" 1 ["points"] cx):aH P w K mg base "is_sheet" 4 ["thing"] fH :=by specialize sc_is_sheet
def lZ:SM:=(sIf (iH (cB (am fH (ac (ae 0) ai)))) wT dC)
def cN:Fn:=fnM [false] 1 lZ
theorem sc_check_sheet:FnScope ["thing"] ["thing"] (ag cK):=by ac_rfl
theorem ku (B:Bl mg) (D:Def K mg "check_sheet" cK) (a:aH P w K mg base "is_sheet" 4 ["thing"] fH):aH P w K mg base "check_sheet" 5 ["thing"] cN :=by specialize sc_check_sheet
def vj:SM:=(aU 2 (mIf (cB (ah gtI (am jM (ac (ah aB (ae 0) (ah aB (ae 1) (mC (.int 0)))) (ac (ah aB (ae 0) (ah aB (ae 1) (mC (.int 1)))) (ac (ah aB (ae 0) (ah aB (ae 1) (mC (.int 2)))) ai)))) (mC (.int 0)))) (mC (.int 1)) (mUn lX (mC (.int 1)))))
def dj:Fn:=fnM [false,false] 2 vj
theorem sc_turn_at:FnScope ["sheet","three"] ["sheet","three"] (ag gv):=by ac_rfl
theorem qp (B:Bl mg) (D:Def K mg "turn_at" gv) (a:aH P w K mg base "bend" 1 ["first","second","third"] jM):aH P w K mg base "turn_at" 2 ["sheet","three"] dj :=by specialize sc_turn_at
def cq:SM:=(kQ uJ 1 (ae 2) (am dj (ac (ae 0) (ac (ae 2) ai))))
def pY:SM:=(aA (fV (am cN (ac (ae 0) ai))) (aA (aR 1 rK) (aA (cy (bZ (am eI (ac (al dz (ac (ae 0) ai)) ai))) (aj 2) cq) (aU 1 (ae 1)))))
def b7:Fn:=fnM [false] 3 pY
theorem sc_all_turns:FnScope ["sheet","turns","three"] ["sheet"] (ag dE):=by ac_rfl
theorem me (B:Bl mg) (D:Def K mg "all_turns" dE) (a:aH P w K mg base "check_sheet" 5 ["thing"] cN) (c:aH P w K mg base "threes" 1 ["many"] eI) (b:aH P w K mg base "turn_at" 2 ["sheet","three"] dj):aH P w K mg base "all_turns" 6 ["sheet"] b7 :=by specialize sc_all_turns
def bE:M3 Bool:=(cB (ah eqX (ah aB (ae 4) (fQ (ac (ae 5) (ac (ae 2) (ac (ae 0) ai))))) (ae 3)))
def bD:EM:=(ah aB (ae 1) (fQ (ac (ae 2) (ac (ae 0) ai))))
def cg:EM:=(bz (aZ eZ (ac (ah bM (ae 5) (mC (.int 1))) (ac (ae 1) ai))) (aj 0) bE bD [none,some 3,some 5,some 2,some 0,some 4])
def bG:SM:=(kQ uJ 3 (fQ (ac (ae 4) (ac (ae 5) ai))) (ah bM (mC (.int 1)) (ah Bs cg (mC (.int 1)))))
def bF:SM:=(cy (aZ eZ (ac (ah bM (ae 4) (mC (.int 1))) (ac (ae 1) ai))) (aj 5) bG)
def ld:SM:=(aA (aR 3 rK) (aA (cy (aZ qW (ac (ah eS (ae 1) (mC (.int 2))) (ac (mUn lX (mC (.int 1))) (ac (mUn lX (mC (.int 1))) ai)))) (aj 4) bF) (aU 3 (ae 3))))
def cw:Fn:=fnM [false,false,false] 6 ld
theorem sc_onward_table:FnScope ["turns","many","way","most","i","j"] ["turns","many","way"] (ag ce):=by ac_rfl
theorem jJ (B:Bl mg) (D:Def K mg "onward_table" ce):aH P w K mg base "onward_table" 1 ["turns","many","way"] cw :=by specialize sc_onward_table
def bK:M3 Bool:=(cB (ah eqX (ah aB (ae 2) (ae 0)) (ae 1)))
def eC:EM:=(ae 0)
def cD:EM:=(bz (n5 (ae 3)) (aj 0) bK eC [none,some 4,some 3])
def bJ:M3 Bool:=(lJ (cB (ah eqX (ah aB (ae 3) (fQ (ac (ae 5) (ac (ae 6) (ac (ae 0) ai))))) (ae 1))) (cB (ah eqX (ah aB (ae 4) (fQ (ac (ae 6) (ac (ae 0) ai)))) (ae 2))))
def eB:EM:=(ae 0)
def eA:EM:=(bz (aZ eZ (ac (ah bM (ae 7) (mC (.int 1))) (ac (ae 1) ai))) (aj 0) bJ eB [none,some 2,some 8,some 0,some 3,some 6,some 7])
def bo:M3 Bool:=(cB (ah ltI (al dz (ac (ae 5) ai)) (ae 4)))
def bL:SM:=(aA (aR 6 (ah aB (ae 5) (mUn lX (mC (.int 2))))) (aA (aR 7 (ah aB (ae 5) (mUn lX (mC (.int 1))))) (aA (aR 8 (ah bM (ah eS (ae 4) (al dz (ac (ae 5) ai))) (mC (.int 1)))) (aR 5 (ah bM (ae 5) (fQ (ac (al tJ (ac eA ai)) ai)))))))
def lY:SM:=(aA (sIf (cB (ah eqX (ae 1) (mC (.int 1)))) (aU 3 (mC .non)) dC) (aA (aR 3 (am cw (ac (ae 0) (ac (ae 1) (ac (ae 2) ai))))) (aA (aR 4 (al pR (ac (ae 3) ai))) (aA (aR 5 (al tH (ac cD ai))) (aA (dR bo bL) (aU 3 (ae 5)))))))
def aK:Fn:=fnM [false,false,false] 9 lY
theorem sc_longest_row:FnScope ["turns","many","way","onward","length","row","i","j","left"] ["turns","many","way"] (ag cH):=by ac_rfl
theorem km (B:Bl mg) (D:Def K mg "longest_row" cH) (a:aH P w K mg base "onward_table" 1 ["turns","many","way"] cw):aH P w K mg base "longest_row" 2 ["turns","many","way"] aK :=by specialize sc_longest_row
def il:SM:=(aU 1 (am aK (ac (am b7 (ac (ae 0) ai)) (ac (al dz (ac (ae 0) ai)) (ac (mC (.int (1))) ai)))))
def cL:Fn:=fnM [false] 1 il
theorem sc_longest_cup:FnScope ["sheet"] ["sheet"] (ag cI):=by ac_rfl
theorem ko (B:Bl mg) (D:Def K mg "longest_cup" cI) (b:aH P w K mg base "all_turns" 6 ["sheet"] b7) (a:aH P w K mg base "longest_row" 2 ["turns","many","way"] aK) {c:Tok} (d:mg "UP"=some (.int (1) c)):aH P w K mg base "longest_cup" 7 ["sheet"] cL :=by specialize sc_longest_cup
def io:SM:=(aU 1 (am aK (ac (am b7 (ac (ae 0) ai)) (ac (al dz (ac (ae 0) ai)) (ac (mC (.int (-1))) ai)))))
def cM:Fn:=fnM [false] 1 io
theorem sc_longest_cap:FnScope ["sheet"] ["sheet"] (ag cJ):=by ac_rfl
theorem kr (B:Bl mg) (D:Def K mg "longest_cap" cJ) (c:aH P w K mg base "all_turns" 6 ["sheet"] b7) (a:aH P w K mg base "longest_row" 2 ["turns","many","way"] aK) {b:Tok} (d:mg "DOWN"=some (.int (-1) b)):aH P w K mg base "longest_cap" 7 ["sheet"] cM :=by specialize sc_longest_cap
def yo:SM:=(aA (sIf (cB (ah ltI (ae 1) (al dz (ac (ae 0) ai)))) (aU 2 (ah aB (ae 0) (ae 1))) dC) (aU 2 (mC (.int 0))))
def ji:Fn:=fnM [false,false] 2 yo
theorem sc_l_cell:FnScope ["_law_script","_law_k"] ["_law_script","_law_k"] (ag iS):=by ac_rfl
theorem so (B:Bl mg) (D:Def K mg "_law_cell" iS):aH P w K mg base "_law_cell" 1 ["_law_script","_law_k"] ji :=by specialize sc_l_cell
def Bw:SM:=(aA (aR 2 (jt (ac (mC (.int 48271)) (ac (mC (.int 69621)) (ac (mC (.int 16807)) (ac (mC (.int 39373)) (ac (mC (.int 30269)) (ac (mC (.int 40014)) (ac (mC (.int 40692)) (ac (mC (.int 50021)) (ac (mC (.int 61687)) (ac (mC (.int 71993)) (ac (mC (.int 83869)) (ac (mC (.int 95561)) (ac (mC (.int 30307)) ai))))))))))))))) (aA (aR 3 (ah bM (ah bM (ah dS (ah bM (ah rD (ae 0) (mC (.int 2147483647))) (mC (.int 12345))) (ah aB (ae 2) (ah rD (ae 1) (mC (.int 13))))) (ah dS (mC (.int 977)) (ae 1))) (ah dS (mC (.int 7919)) (ah vG (ae 1) (mC (.int 13)))))) (aA (aR 3 (ah rD (ae 3) (mC (.int 1000000007)))) (aU 2 (ah vG (ah rD (ah bM (ah dS (ae 3) (ae 3)) (ah dS (mC (.int 48271)) (ae 1))) (mC (.int 1000000007))) (mC (.int 7)))))))
def kG:Fn:=fnM [false,false] 4 Bw
theorem sc_l_mix:FnScope ["_law_cell_here","_law_k","_law_some","_law_stir"] ["_law_cell_here","_law_k"] (ag ky):=by ac_rfl
theorem vZ (B:Bl mg) (D:Def K mg "_law_mix" ky):aH P w K mg base "_law_mix" 1 ["_law_cell_here","_law_k"] kG :=by specialize sc_l_mix
def iC:SM:=(aR 3 (ah bM (ah dS (ae 3) (mC (.int 142857143))) (am kG (ac (ae 2) (ac (ae 4) ai)))))
def Bx:SM:=(aA (aR 2 (am ji (ac (ae 0) (ac (ae 1) ai)))) (aA (sIf (cB (ah eqX (ah rD (ae 2) (mC (.int 2))) (mC (.int 0)))) (aU 2 (jt (ac (ah vG (al absD (ac (ae 2) ai)) (mC (.int 2))) ai))) dC) (aA (aR 3 (mC (.int 0))) (aA (cy (aZ d8 (ac (mC (.int 40)) ai)) (aj 4) iC) (aU 2 (jt (ac (ae 3) ai)))))))
def kH:Fn:=fnM [false,false] 5 Bx
theorem sc_l_box:FnScope ["_law_script","_law_k","_law_cell_here","_law_number","_law_j"] ["_law_script","_law_k"] (ag kz):=by ac_rfl
theorem wa (B:Bl mg) (D:Def K mg "_law_box" kz) (a:aH P w K mg base "_law_cell" 1 ["_law_script","_law_k"] ji) (b:aH P w K mg base "_law_mix" 1 ["_law_cell_here","_law_k"] kG):aH P w K mg base "_law_box" 2 ["_law_script","_law_k"] kH :=by specialize sc_l_box
def yk:SM:=(aA (lV (ig 2 (bH (aj 2) (bH (aj 3) ik))) (al zc (ac (ah aB (ae 0) (mC (.int 0))) (ac (ae 1) ai)))) (aA (kQ uJ 0 (mC (.int 0)) (ae 2)) (aU 2 (ae 3))))
def bT:Fn:=fnM [false,false] 4 yk
theorem sc_l_take:FnScope ["_law_box_here","_law_many","_law_left","_law_digit"] ["_law_box_here","_law_many"] (ag iP):=by ac_rfl
theorem si (B:Bl mg) (D:Def K mg "_law_take" iP):aH P w K mg base "_law_take" 1 ["_law_box_here","_law_many"] bT :=by specialize sc_l_take
def vm:SM:=(aU 1 (iD (mUn (jB "int") (ae 0)) (p4 (mUn (jB "bool") (ae 0)))))
def ib:Fn:=fnM [false] 1 vm
theorem sc_l_whole:FnScope ["_law_thing"] ["_law_thing"] (ag gw):=by ac_rfl
theorem qr (B:Bl mg) (D:Def K mg "_law_whole" gw):aH P w K mg base "_law_whole" 1 ["_law_thing"] ib :=by specialize sc_l_whole
def yp:SM:=(aA (lV (ig 2 (bH (aj 3) (bH (aj 4) ik))) (ae 0)) (aA (aR 5 (ah dS (ah eS (ah aB (ae 1) (mC (.int 0))) (ae 3)) (ah eS (ah aB (ae 2) (mC (.int 1))) (ae 4)))) (aU 3 (ah eS (ae 5) (ah dS (ah eS (ah aB (ae 1) (mC (.int 1))) (ae 4)) (ah eS (ah aB (ae 2) (mC (.int 0))) (ae 3)))))))
def dB:Fn:=fnM [false,false,false] 6 yp
theorem sc_l_bend:FnScope ["_law_one","_law_two","_law_three","_law_x","_law_y","_law_wide"] ["_law_one","_law_two","_law_three"] (ag iT):=by ac_rfl
theorem su (B:Bl mg) (D:Def K mg "_law_bend" iT):aH P w K mg base "_law_bend" 1 ["_law_one","_law_two","_law_three"] dB :=by specialize sc_l_bend
def cS:SM:=(sIf (cB (ah eqX (am dB (ac (ae 4) (ac (ae 3) (ac (ae 1) ai)))) (mC (.int 0)))) (aU 2 (mC (.bl false))) dC)
def dL:SM:=(cy (bZ (mSl slD (ae 0) mM (mL (ae 2)))) (aj 4) cS)
def lh:SM:=(aA (cy (lq (ac (ae 0) ai)) (ig 2 (bH (aj 2) (bH (aj 3) ik))) dL) (aU 2 (mC (.bl true))))
def eM:Fn:=fnM [false,false] 5 lh
theorem sc_l_free:FnScope ["_law_found","_law_point","_law_at","_law_one","_law_two"] ["_law_found","_law_point"] (ag iR):=by ac_rfl
theorem sk (B:Bl mg) (D:Def K mg "_law_free" iR) (a:aH P w K mg base "_law_bend" 1 ["_law_one","_law_two","_law_three"] dB):aH P w K mg base "_law_free" 2 ["_law_found","_law_point"] eM :=by specialize sc_l_free
def ci:M3 Bool:=(iH (cB (am eM (ac (ae 5) (ac (fQ (ac (ae 4) (ac (ae 9) ai))) ai)))))
def de:SM:=(aR 9 (ah bM (ae 9) (mC (.int 1))))
def cj:SM:=(aA (aR 4 (ah bM (ah bM (ae 4) (mC (.int 1))) (am bT (ac (ae 0) (ac (mC (.int 3)) ai))))) (aA (aR 7 (ah eS (am bT (ac (ae 0) (ac (mC (.int 31)) ai))) (mC (.int 15)))) (aA (aR 8 (jt (ac (ae 7) (ac (ae 7) (ac (ah bM (ah dS (ae 6) (ae 6)) (ah vG (ae 7) (mC (.int 9)))) (ac (ah eS (ah vG (ae 7) (mC (.int 9))) (ah dS (ae 6) (ae 6))) ai)))))) (aA (aR 8 (ah bM (ae 8) (jt (ac (ah dS (ah bM (ah dS (ae 6) (ae 6)) (mC (.int 30))) (ah eS (mC (.int 1)) (ah dS (mC (.int 2)) (ah rD (ae 6) (mC (.int 2)))))) (ac (ah dS (ae 7) (mC (.int 1000))) ai))))) (aA (aR 9 (ah aB (ae 8) (ae 3))) (aA (dR ci de) (fV (vn isL BY 5 (ac (fQ (ac (ae 4) (ac (ae 9) ai))) ai)))))))))
def fk:EM:=(fQ (ac (ah bM (ah dS (ah xL (mC (.int 10)) (mC (.int 12))) (ae 0)) (mC (.int 7))) (ac (ah dS (ah xL (mC (.int 10)) (mC (.int 9))) (ae 1)) ai)))
def c9:EM:=(bz (bZ (ae 5)) (ig 2 (bH (aj 0) (bH (aj 1) ik))) fB fk [none,none])
def mS:SM:=(aA (aR 2 (ah bM (mC (.int 1)) (am bT (ac (ae 0) (ac (ae 1) ai))))) (aA (aR 3 (am bT (ac (ae 0) (ac (mC (.int 6)) ai)))) (aA (aR 4 (ah eS (am bT (ac (ae 0) (ac (mC (.int 9)) ai))) (mC (.int 4)))) (aA (aR 5 (jt ai)) (aA (cy (aZ d8 (ac (ae 2) ai)) (aj 6) cj) (aA (sIf (cB (ah eqX (am bT (ac (ae 0) (ac (mC (.int 6)) ai))) (mC (.int 5)))) (aR 5 c9) dC) (aU 2 (al zP (ac (ae 5) ai)))))))))
def eJ:Fn:=fnM [false,false] 10 mS
theorem sc_l_sheet:FnScope ["_law_box_here","_law_most","_law_many","_law_kind","_law_x","_law_found","_law_k","_law_given","_law_some","_law_y"] ["_law_box_here","_law_most"] (ag gx):=by ac_rfl
theorem qt (B:Bl mg) (D:Def K mg "_law_sheet" gx) (b:aH P w K mg base "_law_free" 2 ["_law_found","_law_point"] eM) (a:aH P w K mg base "_law_take" 1 ["_law_box_here","_law_many"] bT):aH P w K mg base "_law_sheet" 3 ["_law_box_here","_law_most"] eJ :=by specialize sc_l_sheet
def En:SM:=(aU 4 (ah gtI (am dB (ac (ah aB (ae 0) (ae 1)) (ac (ah aB (ae 0) (ae 2)) (ac (ah aB (ae 0) (ae 3)) ai)))) (mC (.int 0))))
def oI:Fn:=fnM [false,false,false,false] 4 En
theorem sc_l_up:FnScope ["_law_sheet_here","_law_i","_law_j","_law_k"] ["_law_sheet_here","_law_i","_law_j","_law_k"] (ag nB):=by ac_rfl
theorem zr (B:Bl mg) (D:Def K mg "_law_up" nB) (a:aH P w K mg base "_law_bend" 1 ["_law_one","_law_two","_law_three"] dB):aH P w K mg base "_law_up" 2 ["_law_sheet_here","_law_i","_law_j","_law_k"] oI :=by specialize sc_l_up
def dU:EM:=(am ib (ac (ae 0) ai))
def iq:EM:=(bz (bZ (ae 0)) (aj 0) fB dU [none])
def dW:M3 Bool:=(cOr (cB (ah ltI (ae 0) (mC (.int 0)))) (cB (ah geI (ae 0) (ae 1))))
def ir:EM:=(ae 0)
def ip:EM:=(bz (bZ (ae 0)) (aj 0) dW ir [none,some 1])
def lg:SM:=(aA (sIf (cOr (iH (cB (mUn (jB "tuple") (ae 0)))) (iH (cB (al zB (ac iq ai))))) (aU 2 (mC (.bl false))) dC) (aA (sIf (cB (ah neX ip (jt ai))) (aU 2 (mC (.bl false))) dC) (aU 2 (ah eqX (al Ep (ac (ae 0) ai)) (al ssD (ac (ae 0) ai))))))
def fF:Fn:=fnM [false,false] 2 lg
theorem sc_l_rising:FnScope ["_law_thing","_law_many"] ["_law_thing","_law_many"] (ag eV):=by ac_rfl
theorem oB (B:Bl mg) (D:Def K mg "_law_rising" eV) (a:aH P w K mg base "_law_whole" 1 ["_law_thing"] ib):aH P w K mg base "_law_rising" 2 ["_law_thing","_law_many"] fF :=by specialize sc_l_rising
def cn:SM:=(sIf (cB (ah neX (am oI (ac (ae 0) (ac (ah aB (ae 1) (ae 3)) (ac (ah aB (ae 1) (ah bM (ae 3) (mC (.int 1)))) (ac (ah aB (ae 1) (ah bM (ae 3) (mC (.int 2)))) ai))))) (ae 2))) (aU 3 (mC (.bl false))) dC)
def js:SM:=(aA (sIf (cOr (iH (cB (am fF (ac (ae 1) (ac (al dz (ac (ae 0) ai)) ai))))) (cB (ah ltI (al dz (ac (ae 1) ai)) (mC (.int 2))))) (aU 3 (mC (.bl false))) dC) (aA (cy (aZ d8 (ac (ah eS (al dz (ac (ae 1) ai)) (mC (.int 2))) ai)) (aj 3) cn) (aU 3 (mC (.bl true)))))
def eO:Fn:=fnM [false,false,false] 4 js
theorem sc_l_bends:FnScope ["_law_sheet_here","_law_thing","_law_up_here","_law_at"] ["_law_sheet_here","_law_thing","_law_up_here"] (ag gJ):=by ac_rfl
theorem qv (B:Bl mg) (D:Def K mg "_law_bends" gJ) (a:aH P w K mg base "_law_rising" 2 ["_law_thing","_law_many"] fF) (b:aH P w K mg base "_law_up" 2 ["_law_sheet_here","_law_i","_law_j","_law_k"] oI):aH P w K mg base "_law_bends" 3 ["_law_sheet_here","_law_thing","_law_up_here"] eO :=by specialize sc_l_bends
def nW:EM:=(ah bM (ae 0) (fQ (ac (ae 1) ai)))
def nV:EM:=(bz (bZ (ae 1)) (aj 0) fB nW [none,some 2])
def df:SM:=(aR 1 (ah bM (ae 1) nV))
def hJ:SM:=(aA (aR 1 (jt (ac (fQ ai) ai))) (aA (cy (aZ d8 (ac (ae 0) ai)) (aj 2) df) (aU 1 (al jo (ac (ae 1) ai)))))
def aY:Fn:=fnM [false] 3 hJ
theorem sc_l_parts:FnScope ["_law_many","_law_found","_law_place"] ["_law_many"] (ag gz):=by ac_rfl
theorem qu (B:Bl mg) (D:Def K mg "_law_parts" gz):aH P w K mg base "_law_parts" 1 ["_law_many"] aY :=by specialize sc_l_parts
def gb:M3 Bool:=(cB (am eO (ac (ae 1) (ac (ae 0) (ac (ae 2) ai)))))
def jZ:EM:=(ae 0)
def jY:EM:=(bz (bZ (am aY (ac (al dz (ac (ae 0) ai)) ai))) (aj 0) gb jZ [none,some 0,some 1])
def pX:SM:=(aU 2 jY)
def eK:Fn:=fnM [false,false] 2 pX
theorem sc_l_rows:FnScope ["_law_sheet_here","_law_up_here"] ["_law_sheet_here","_law_up_here"] (ag iQ):=by ac_rfl
theorem sj (B:Bl mg) (D:Def K mg "_law_rows" iQ) (b:aH P w K mg base "_law_bends" 3 ["_law_sheet_here","_law_thing","_law_up_here"] eO) (a:aH P w K mg base "_law_parts" 1 ["_law_many"] aY):aH P w K mg base "_law_rows" 4 ["_law_sheet_here","_law_up_here"] eK :=by specialize sc_l_rows
def i7:EM:=(al dz (ac (ae 0) ai))
def pW:EM:=(bz (bZ (ae 5)) (aj 0) fB i7 [none])
def i8:M3 Bool:=(cB (ah eqX (al dz (ac (ae 0) ai)) (ae 1)))
def lf:EM:=(ae 0)
def pV:EM:=(bz (bZ (ae 5)) (aj 0) i8 lf [none,some 7])
def ja:SM:=(aA (aR 5 (am eK (ac (ae 2) (ac (ae 4) ai)))) (aA (aR 6 (mC .non)) (aA (sIf (cB (ah neX (ae 5) (jt ai))) (aA (aR 7 (al tM (ac pW ai))) (aR 6 (al tG (ac pV ai)))) dC) (sIf (cB (ah neX (al jq (ac (ae 3) ai)) (al jq (ac (ae 6) ai)))) (aU 1 (mC (.bl false))) dC))))
def i9:SM:=(aA (aR 2 (am eJ (ac (am kH (ac (ae 0) (ac (ae 1) ai))) (ac (mC (.int 8)) ai)))) (cy (bZ (jt (ac (fQ (ac (am cL (ac (ae 2) ai)) (ac (mC (.bl true)) ai))) (ac (fQ (ac (am cM (ac (ae 2) ai)) (ac (mC (.bl false)) ai))) ai)))) (ig 2 (bH (aj 3) (bH (aj 4) ik))) ja))
def m_law:SM:=(aA (cy (aZ d8 (ac (al Cn (ac (mC (.int 1)) (ac (al Cm (ac (al dz (ac (ae 0) ai)) (ac (mC (.int 3)) ai))) ai))) ai)) (aj 1) i9) (aU 1 (mC (.bl true))))
def CA:Fn:=fnM [false] 8 m_law
theorem sc_law:FnScope ["_law_script","_law_k","_law_sheet_here","_law_found","_law_up_here","_law_rows_here","_law_due","_law_most"] ["_law_script"] (ag fU):=by ac_rfl
theorem BK {f:Addr} {fd:FuncData} (B:Bl mg) (D:Fun K "law" "law" fU f fd) (e:aH P w K mg base "_law_box" 2 ["_law_script","_law_k"] kH) (d:aH P w K mg base "_law_rows" 4 ["_law_sheet_here","_law_up_here"] eK) (c:aH P w K mg base "_law_sheet" 3 ["_law_box_here","_law_most"] eJ) (a:aH P w K mg base "longest_cap" 7 ["sheet"] cM) (b:aH P w K mg base "longest_cup" 7 ["sheet"] cL):FnOk P w K mg base CX0 8 f fd ["_law_script"] (uF K CA) :=
 ED (k:=7) D sc_law rfl rfl fun cdv A outer s H E f G hr hp =>
  have nd:=sc_law.nd;by and_intros
end
theorem uR (p:Pt):fI [(Pd p,.z)]=some (.ok (.bl true,.z),[(Pd p,.z)]):=by
 apply aW (ρ:=[some (Pd p,.z)]) rfl rfl
 ·nomatch [(run_whole _)]
 ·rfl
theorem BI {f e:L3.D->L3.D->Option (L3.D × Fl)} {ma mb mc:EM} {ra rb rc:R3} {ρ ρ1 ρ2 ρ3:Sto} {da db a c d:L3.D} {fl b:Fl} (h1:ma ρ=some (.ok ra,ρ1)) (h2:mb ρ1=some (.ok rb,ρ2)) (h3:der ra ρ2=some (.ok da,ρ2)) (i:der rb ρ2=some (.ok db,ρ2)) (l:f da db=some (.bl true,fl)) (h:mc ρ2=some (.ok rc,ρ3)) (k:der rb ρ3=some (.ok a,ρ3)) (j:der rc ρ3=some (.ok c,ρ3)) (g:e a c=some (d,b)):fm f e ma mb mc ρ=some (.ok (.val d b),ρ3):=by
 simp only [fm,af,h1,h2,h3,i,l,aV,Option.bind_some,asB,FE,if_true,h,k,j,g]
set_option tactic.hygienic true in
theorem xb (ps:List Pt) (h0:0 < ps.length) (h1:ps.length<=24):dh [(Shd ps,.z)]=some (.ok (.bl true,.z),[(Shd ps,.z)]):=by
 obtain ⟨τ',e,a,rfl⟩:=gl (bnd:=aj 0) (c:=fB) (elt:=cV) (fun τ=>∃ a,τ=[a]) (fun _=>true) (fun _=>.bl true) (ds:=ps.map Pd) (τ:=[none]) ⟨none,rfl⟩ (by
  rintro d hd τ ⟨a,rfl⟩
  obtain ⟨p,j,rfl⟩:=Fo.mp hd
  exact ⟨[some (Pd p,.z)],_,rfl,rfl,(fun h=>by cases h),fun _=>⟨.val (.bl true) .z,[some (Pd p,.z)],(.bl true,.z),[some (Pd p,.z)],by unfold cV;(nomatch [(uR _)]),rfl,rfl,_,rfl⟩⟩)
 have b:=nv (ds:=((ps.map Pd).filter fun _=>true).map fun _=>.bl true) (fun d hd=>by obtain ⟨_,_,rfl⟩:=Fo.mp hd;rfl)
 generalize ((ps.map Pd).filter fun _=>true).map (fun _=>L3.D.bl true)=out at *
 have i:fL [some (Shd ps,.z)]=some (.ok (.val (.lst out) .u),[some (Shd ps,.z)]):=bp (im:=bZ (ae 0)) (ix:=[none]) (ρ1:=[some (Shd ps,.z)]) (ρ2:=[some (Shd ps,.z)]) (ds:=ps.map Pd) (rs:=[.pl 0]) rfl e (by simp;lia) rfl
 have f:leI (.int 1) (.int ((ps.map Pd).length:Int))=some (.bl true,.z):=by simp [cT];lia
 have g:leI (.int ((ps.map Pd).length:Int)) (.int 24)=some (.bl true,.z):=by simp [cT];lia
 apply aW (ρ:=[some (Shd ps,.z)]) rfl rfl
 ·apply dA
  ·apply tV
   ·apply BI
    ·exact i_c
    ·nofun
    ·rfl
    ·rfl
    ·exact f
    ·exact i_c
    ·rfl
    ·rfl
    ·exact g
   ·rfl
   ·rfl
   ·(repeat' (first | with_reducible exact i | infer_instance | exact b | eq_refl))
  ·rfl
 ·rfl
theorem eR {xs:List L3.D} {k:Int} {d:L3.D} (h:L2.atI xs k=some d):aB (.tup xs) (.int k)=some (d,.z):=by
 show orD ixD j8 (.tup xs) (.int k)=_
 simp [orD,ixD,h]
set_option tactic.hygienic true in
theorem wW (ps:List Pt) (h0:0 < ps.length) (h1:ps.length<=24) (R:Rising ps):cx [(Shd ps,.z)]=some (.ok (.bl true,.z),[(Shd ps,.z)]):=by
 obtain ⟨τ',e,a,rfl⟩:=gl (bnd:=aj 0) (c:=fB) (elt:=cp) (fun τ=>∃ a,τ=[a,some (Shd ps,.z)]) (fun _=>true) (fun _=>.bl true) (ds:=bg 0 (ps.length - 1)) (τ:=[none,some (Shd ps,.z)]) ⟨none,rfl⟩ (by
  rintro d hd τ ⟨a,rfl⟩
  obtain ⟨i,hi⟩:=List.getElem?_of_mem hd
  obtain ⟨hi,rfl⟩:=dn hi
  have f:ps[i]?=some ps[i]:=Fd _
  have g:ps[i+1]?=some ps[i+1]:=Fd _
  have b:=R i (i+1) _ _ (by lia) f g
  have a1:aB (Shd ps) (.int (0+(i:Int)))=some (Pd ps[i],.z):=eR (by rw [Int.zero_add];exact wb f)
  have a2:aB (Shd ps) (.int (0+(i:Int)+1))=some (Pd ps[i+1],.z):=eR (by rw [Int.zero_add];exact wb g)
  have m:ltI (.int ps[i].1) (.int ps[i+1].1)=some (.bl true,.z):=by simp [cT,b]
  generalize (0+(i:Int))=j at *
  refine ⟨[some (.int j,.z),some (Shd ps,.z)],_,rfl,rfl,(fun h=>by cases h),fun _=>⟨.val (.bl true) .z,[some (.int j,.z),some (Shd ps,.z)],(.bl true,.z),[some (.int j,.z),some (Shd ps,.z)],?_,rfl,rfl,_,rfl⟩⟩
  unfold cp
  (exists a1,a2,m))
 have o:((ps.length:Int) - 1).toNat=ps.length - 1:=by lia
 have k:d8 [.int (((ps.map Pd).length:Int) - 1)]=some (bg 0 (ps.length - 1)):=hE (by simp;lia) (by simp)
 have l:=nv (ds:=((bg 0 (ps.length - 1)).filter fun _=>true).map fun _=>.bl true) (fun d hd=>by obtain ⟨_,_,rfl⟩:=Fo.mp hd;rfl)
 generalize ((bg 0 (ps.length - 1)).filter fun _=>true).map (fun _=>L3.D.bl true)=out at *
 have n:dM [some (Shd ps,.z)]=some (.ok (.val (.lst out) .u),[some (Shd ps,.z)]):=bp (ρ1:=[some (Shd ps,.z)]) (rs:=[]) (by (repeat' (first | with_reducible apply dN (h3:=k) | infer_instance | eq_refl))) e (by rw [cO];lia) rfl
 apply aW (ρ:=[some (Shd ps,.z)]) rfl rfl
 ·unfold gc;(repeat' (first | with_reducible exact n | infer_instance | exact l | eq_refl))
 ·rfl
theorem mD (p q r:Int × Int) (h1:-18446744073709551616 < q.1 - p.1/\q.1 - p.1 < 18446744073709551616) (h2:-18446744073709551616 < q.2 - p.2/\q.2 - p.2 < 18446744073709551616):jM [(Pd p,.z),(Pd q,.z),(Pd r,.z)]=some (.ok (.int (aS p q r),.z),[(Pd p,.z),(Pd q,.z),(Pd r,.z)]):=by
 apply aW (ρ:=[some (Pd p,.z),some (Pd q,.z),some (Pd r,.z),none]) rfl rfl
 ·apply ak
  ·exists fJ h1
  ·exists fJ h2
 ·rfl
set_option tactic.hygienic true in
theorem ww {n i j:Nat} (xs:List L3.D) (l:n<=25) (k:j < n) (elt:EM) (he:∀ (a b c:L3.D),elt [some (c,.z),some (a,.z),some (b,.z)]=some (.ok (.val (.tup [a,b,c]) .z),[some (c,.z),some (a,.z),some (b,.z)])) :
  bz (aZ eZ (ac (ah bM (ae 3) (mC (.int 1))) (ac (ae 0) ai))) (aj 0) fB elt [none,some 2,some 3] [some (.int n,.z),some (.lst xs,.u),some (.int i,.z),some (.int j,.z)]=some (.ok (.val (.lst ((lW i j (n - (j+1))).map Td)) .u),[some (.int n,.z),some (.lst xs,.u),some (.int i,.z),some (.int j,.z)]):=by
 obtain ⟨τ',e,a,rfl⟩:=gl (bnd:=aj 0) (c:=fB) (elt:=elt) (fun τ=>∃ a,τ=[a,some (.int i,.z),some (.int j,.z)]) (fun _=>true) (fun d=>.tup [.int i,.int j,d]) (ds:=bg ((j:Int)+1) (n - (j+1))) (τ:=[none,some (.int i,.z),some (.int j,.z)]) ⟨none,rfl⟩ (by
  rintro d hd τ ⟨a,rfl⟩
  exact ⟨[some (d,.z),some (.int i,.z),some (.int j,.z)],_,rfl,rfl,(fun h=>by cases h),fun _=>⟨_,_,(.tup [.int i,.int j,d],.z),_,he _ _ _,rfl,rfl,_,rfl⟩⟩)
 have g:((bg ((j:Int)+1) (n - (j+1))).filter fun _=>true).map (fun d=>L3.D.tup [.int i,.int j,d])=(lW i j (n - (j+1))).map Td:=by
  rw [FO.mpr (fun _ _=>rfl)]
  simp [bg,lW,Function.comp_def]
 rw [g] at e
 have f:eZ [.int ((j:Int)+1),.int n]=some (bg ((j:Int)+1) (n - (j+1))):=iV (by lia) (by lia) (by lia)
 exact bp (rs:=[]) (by (repeat' (first | with_reducible apply dN (h3:=f) | infer_instance | eq_refl))) e (by rw [cO];lia) rfl
theorem EF {A B:List L3.D} (h:A.length+B.length<=16777216):y7 (.lst A) [.lst B]=some (.lst (A ++ B),.non):=by simp [y7,h]
theorem EW {A:List L3.D} {d:L3.D} (h:A.length < 16777216):BY (.lst A) [d]=some (.lst (A ++ [d]),.non):=by simp [BY,h]
theorem BV {A B:List L3.D} (h:A.length+B.length<=16777216):bM (.tup A) (.tup B)=some (.tup (A ++ B),.z):=by simp [orD,cT,rZ,rY,r0,h]
set_option tactic.hygienic true in
theorem uC {n:Nat} (h:n<=25) {b1 b2:SM} (h2:b2=cy (aZ eZ (ac (ah bM (ae 2) (mC (.int 1))) (ac (ae 0) ai))) (aj 3) b1)
  (h1:∀ (i j:Nat) (xs:List L3.D),j < n->xs.length<=20000->b1 [some (.int n,.z),some (.lst xs,.u),some (.int i,.z),some (.int j,.z)]=some (.ok .nx,[some (.int n,.z),some (.lst (xs ++ (lW i j (n - (j+1))).map Td),.u),some (.int i,.z),some (.int j,.z)])) :
  ∃ v2 v3,cy (aZ d8 (ac (ae 0) ai)) (aj 2) b2 [some (.int n,.z),some (.lst [],.u),none,none]=some (.ok .nx,[some (.int n,.z),some (.lst ((eP n).map Td),.u),v2,v3]):=by
 have inner:∀ (i:Nat) (xs:List Tri) (v3:Option (L3.D × Fl)),i < n->xs.length<=15625->∃ a,b2 [some (.int n,.z),some (.lst (xs.map Td),.u),some (.int i,.z),v3]=some (.ok .nx,[some (.int n,.z),some (.lst ((xs ++ jp n i (n - (i+1))).map Td),.u),some (.int i,.z),a]):=by
  intro i xs v3 hi l
  obtain ⟨ρ',e,a,rfl⟩:=bS (bnd:=aj 3) (b:=b1) (fun m ρ=>∃ v3,ρ=[some (.int n,.z),some (.lst ((xs ++ jp n i m).map Td),.u),some (.int i,.z),v3]) (ds:=bg ((i:Int)+1) (n - (i+1))) (ρ:=[some (.int n,.z),some (.lst (xs.map Td),.u),some (.int i,.z),v3]) (k:=0) ⟨v3,by simp [jp]⟩ (by
   rintro m d ρ hd ⟨v3,rfl⟩
   obtain ⟨hm,rfl⟩:=dn hd
   have f:((xs ++ jp n i m).map Td).length<=20000:=by
    have:=qU (n:=n) (i:=i) (m:=m) h (by lia)
    simp only [Fh,FB]
    lia
   have c:=h1 i (i+1+m) ((xs ++ jp n i m).map Td) (by lia) f
   rw [show ((i+1+m:Nat):Int)=(i:Int)+1+m by lia,<- List.map_append,List.append_assoc,<- mE] at c
   exact ⟨_,_,by rw [Fz];rfl,.inl c,_,by rw [Fz]⟩)
  refine ⟨a,?_⟩
  rw [cO,Fz] at e
  have g:eZ [.int ((i:Int)+1),.int n]=some (bg ((i:Int)+1) (n - (i+1))):=iV (by lia) (by lia) (by lia)
  rw [h2]
  apply fM
  ·(repeat' (first | with_reducible apply dN (h3:=g) | infer_instance | eq_refl))
  ·rfl
  ·exact e
 obtain ⟨ρ',e,v2,v3,rfl⟩:=bS (bnd:=aj 2) (b:=b2) (fun m ρ=>∃ v2 v3,ρ=[some (.int n,.z),some (.lst ((nD n m).map Td),.u),v2,v3]) (ds:=bg 0 n) (ρ:=[some (.int n,.z),some (.lst [],.u),none,none]) (k:=0) ⟨none,none,rfl⟩ (by
  rintro m d ρ hd ⟨v2,v3,rfl⟩
  obtain ⟨hm,rfl⟩:=dn hd
  rw [Fz,Int.zero_add]
  obtain ⟨a,e⟩:=inner m (nD n m) v3 hm (qV h (by lia))
  rw [<- mF] at e
  exact ⟨_,_,rfl,.inl e,_,_,rfl⟩)
 rw [cO,Fz] at e
 have g:d8 [.int (n:Int)]=some (bg 0 n):=hE (by lia) (by lia)
 refine ⟨v2,v3,?_⟩
 apply fM
 ·(repeat' (first | with_reducible apply dN (h3:=g) | infer_instance | eq_refl))
 ·rfl
 ·exact e
set_option tactic.hygienic true in
theorem kR (n:Nat) (d:n<=25):eI [(.int n,.z)]=some (.ok (.lst ((eP n).map Td),.u),[(.int n,.z)]):=by
 obtain ⟨v2,v3,e⟩:=uC (n:=n) d (b1:=f9) (b2:=jX) rfl (by
  intro i j xs g h
  have c:=ww (n:=n) (i:=i) (j:=j) xs d g fZ (fun a b c=>by unfold fZ;(nofun))
  have f:xs.length+((lW i j (n - (j+1))).map Td).length<=16777216:=by
   rw [Fh,pg];lia
  unfold f9 jW
  (repeat' (first | with_reducible exact c | infer_instance | exact EF f | eq_refl)))
 apply aW (ρ:=[some (.int n,.z),none,none,none]) rfl rfl
 ·apply ak
  ·nofun
  ·apply ak
   ·exact e
   ·nofun
 ·rfl
set_option tactic.hygienic true in
theorem yY {S:List L3.D} {i j k:Int} {p q r:Pt} {v2:Option (L3.D × Fl)} (a1:aB (.tup S) (.int i)=some (Pd p,.z)) (a2:aB (.tup S) (.int j)=some (Pd q,.z)) (n:aB (.tup S) (.int k)=some (Pd r,.z)) (e:Small p) (f:Small q) (h0:aS p q r ≠ 0):bu [some (.tup S,.z),some (.tup [.int i,.int j,.int k],.z),v2]=some (.ok .nx,[some (.tup S,.z),some (.tup [.int i,.int j,.int k],.z),some (.tup [Pd p,Pd q,Pd r],.z)]):=by
 have b:=mD p q r (Small.sub e f).1 (Small.sub e f).2
 have one:∀ (x d:L3.D) (a:Option (L3.D × Fl)),aB (.tup S) x=some (d,.z)->bW [some (x,.z),some (.tup S,.z)]=some (.ok (.val d .z),[some (x,.z),some (.tup S,.z)]):=fun x d a h=>by unfold bW;(exists h)
 have c:dq [some (.tup S,.z),some (.tup [.int i,.int j,.int k],.z),v2]=some (.ok (.val (.lst [Pd p,Pd q,Pd r]) .u),[some (.tup S,.z),some (.tup [.int i,.int j,.int k],.z),v2]):=by
  refine bp (ρ1:=[some (.tup S,.z),some (.tup [.int i,.int j,.int k],.z),v2]) (ρ2:=[some (.tup S,.z),some (.tup [.int i,.int j,.int k],.z),v2]) (ds:=[.int i,.int j,.int k]) (rs:=[.pl 1]) (τ:=[some (.int k,.z),some (.tup S,.z)]) rfl ?_ (by simp) rfl
  have e1:=one (.int i) _ none a1
  have l:=one (.int j) _ none a2
  have g:=one (.int k) _ none n
  have m:∀ d a,aj 0 d [a,some (L3.D.tup S,.z)]=some [some (d,.z),some (.tup S,.z)]:=fun _ _=>rfl
  have cs:r9 [none,some 0] (ay cu (us [some (L3.D.tup S,.z),some (.tup [.int i,.int j,.int k],.z),v2] (pls [R3.pl 1])) [some (.tup S,.z),some (.tup [.int i,.int j,.int k],.z),v2])=[none,some (.tup S,.z)]:=rfl
  rw [cs]
  simp only [bN,m,fB,af,aO,if_true,e1,l,g,c6,nol]
 unfold bu
 apply ak
 ·(repeat' (first | with_reducible exact c | infer_instance | eq_refl))
 ·apply dO
  ·nomatch [b]
  ·exact Fw h0
  ·rfl
theorem Ai (ps:List Pt) (o:ps.length<=24) (h:∀ p ∈ ps,Small p) (l:NoLine ps):bV [(Shd ps,.z)]=some (.ok (.non,.z),[(Shd ps,.z)]):=by
 have a:=kR ps.length (by lia)
 rw [show (ps.length:Int)=((ps.map Pd).length:Int) by rw [Fh]] at a
 obtain ⟨ρ',e,v1,v2,rfl⟩:=bS (bnd:=aj 1) (b:=bu) (fun _ ρ=>∃ v1 v2,ρ=[some (Shd ps,.z),v1,v2]) (ds:=(eP ps.length).map Td) (ρ:=[some (Shd ps,.z),none,none]) (k:=0) ⟨none,none,rfl⟩ (by
  rintro m d ρ hd ⟨v1,v2,rfl⟩
  rw [Fp,E9] at hd
  obtain ⟨t,a,rfl⟩:=hd
  obtain ⟨j,i,n⟩:=pQ (Fj a)
  have c:ps[t.1]?=some (ps[t.1]'(by lia)):=Fd _
  have f:ps[t.2.1]?=some (ps[t.2.1]'(by lia)):=Fd _
  have g:ps[t.2.2]?=some (ps[t.2.2]'(by lia)):=Fd _
  have b:=yY (v2:=v2) (eR (wb c)) (eR (wb f)) (eR (wb g)) (h _ (Fj c)) (h _ (Fj f)) (l _ _ _ _ _ _ j i c f g)
  exact ⟨[some (Shd ps,.z),some (Td t,.z),v2],_,rfl,.inl b,_,_,rfl⟩)
 apply aW (ρ:=[some (Shd ps,.z),none,none]) rfl rfl
 ·apply ak
  ·apply fM
   ·nomatch [a]
   ·rfl
   ·exact e
  ·nofun
 ·rfl
theorem o8 {ps:List Pt} (g:GoodSh ps):fH [(Shd ps,.z)]=some (.ok (.bl true,.z),[(Shd ps,.z)]):=by
 have h1:=xb ps g.pos g.most
 have h2:=wW ps g.pos g.most g.rising
 have h3:=Ai ps g.most g.small g.noline
 apply aW (ρ:=[some (Shd ps,.z)]) rfl rfl
 ·apply ak
  ·apply dO
   ·nomatch [h1]
   ·rfl
   ·rfl
  ·nomatch [h2,h3]
 ·rfl
theorem uT {ps:List Pt} (g:GoodSh ps):cN [(Shd ps,.z)]=some (.ok (.non,.z),[(Shd ps,.z)]):=by
 have h1:=o8 g
 apply F_nx (ρ:=[some (Shd ps,.z)]) rfl rfl
 ·apply dO
  ·nomatch [h1]
  ·rfl
  ·rfl
 ·rfl
def oP (p q r:Pt):Int:=if 0 < aS p q r then 1 else -1
theorem qP {S:List L3.D} {i j k:Int} {p q r:Pt} (a1:aB (.tup S) (.int i)=some (Pd p,.z)) (a2:aB (.tup S) (.int j)=some (Pd q,.z)) (c:aB (.tup S) (.int k)=some (Pd r,.z)) (a:Small p) (d:Small q):dj [(.tup S,.z),(.tup [.int i,.int j,.int k],.z)]=some (.ok (.int (oP p q r),.z),[(.tup S,.z),(.tup [.int i,.int j,.int k],.z)]):=by
 have b:=mD p q r (Small.sub a d).1 (Small.sub a d).2
 by_cases h:0 < aS p q r
 ·rw [show oP p q r=1 from if_pos h]
  apply aW (ρ:=[some (.tup S,.z),some (.tup [.int i,.int j,.int k],.z)]) rfl rfl
  ·apply dA
   ·apply Ey
    ·nomatch [b],[a1,a2,c]
    ·exact Fv h
    ·exact i_c
   ·rfl
  ·rfl
 ·rw [show oP p q r = -1 from if_neg h]
  apply aW (ρ:=[some (.tup S,.z),some (.tup [.int i,.int j,.int k],.z)]) rfl rfl
  ·apply dA
   ·apply Ez
    ·nomatch [b],[a1,a2,c]
    ·exact Fw h
    ·nofun
   ·rfl
  ·rfl
theorem dQ (c:Int) (m:Int) (h:0 < m):0<=c % m/\c % m < m:=⟨Int.emod_nonneg _ (by lia),Int.emod_lt_of_pos _ h⟩
theorem o5 (n m:Int) (h:0 < m/\m < 1073741824):bT [(.lst [.int n],.u),(.int m,.z)]=some (.ok (.int (n % m),.z),[(.lst [.int (n / m)],.u),(.int m,.z)]):=by
 have hd:zc [.int n,.int m]=some (.tup [.int (n / m),.int (n % m)],.z):=by simp [c2,jd,h]
 apply aW (ρ:=[some (.lst [.int n],.u),some (.int m,.z),none,none]) rfl rfl
 ·apply ak
  ·exists hd
  ·apply ak
   ·nofun
   ·nofun
 ·rfl
theorem o9 (p q r:Int × Int) (h1:-18446744073709551616 < q.1 - p.1/\q.1 - p.1 < 18446744073709551616) (h2:-18446744073709551616 < q.2 - p.2/\q.2 - p.2 < 18446744073709551616):dB [(Pd p,.z),(Pd q,.z),(Pd r,.z)]=some (.ok (.int (aS p q r),.z),[(Pd p,.z),(Pd q,.z),(Pd r,.z)]):=by
 apply aW (ρ:=[some (Pd p,.z),some (Pd q,.z),some (Pd r,.z),none,none,none]) rfl rfl
 ·apply ak
  ·nofun
  apply ak
  ·exists fJ h1
  ·exists fJ h2
 ·rfl
theorem xa (ns:List Int) (k:Nat):∃ n:Int,ji [(.fls (ns.map .int),.z),(.int k,.z)]=some (.ok (.int n,.z),[(.fls (ns.map .int),.z),(.int k,.z)]):=by
 by_cases h:k < ns.length
 ·refine ⟨ns[k],?_⟩
  have a:aB (.fls (ns.map .int)) (.int (k:Int))=some (.int ns[k],.z):=by
   have:L2.atI (ns.map L3.D.int) (k:Int)=some (.int ns[k]):=um (by simp [h])
   simp [orD,ixD,this]
  have b:(k:Int) < ((ns.map L3.D.int).length:Int):=by simp;lia
  generalize (k:Int)=kk at *
  apply aW (ρ:=[some (.fls (ns.map .int),.z),some (.int kk,.z)]) rfl rfl
  ·apply kO
   apply j7
   ·nofun
   ·exact Fv b
   ·exists a
  ·rfl
 ·refine ⟨0,?_⟩
  have b:¬ (k:Int) < ((ns.map L3.D.int).length:Int):=by simp;lia
  generalize (k:Int)=kk at *
  apply aW (ρ:=[some (.fls (ns.map .int),.z),some (.int kk,.z)]) rfl rfl
  ·apply ak
   ·apply dO
    ·nofun
    ·exact Fw b
    ·rfl
   ·nofun
  ·rfl
theorem Ag (c j:Int):∃ n:Int,kG [(.int c,.z),(.int j,.z)]=some (.ok (.int n,.z),[(.int c,.z),(.int j,.z)]):=by
 have a:=dQ c 2147483647 (by decide)
 have b:=dQ j 13 (by decide)
 obtain ⟨m,hm⟩:∃ m:Nat,j % 13=m:=⟨(j % 13).toNat,by lia⟩
 have e:m < 13:=by lia
 have d:∃ v:Int,aB (.lst [.int 48271,.int 69621,.int 16807,.int 39373,.int 30269,.int 40014,.int 40692,.int 50021,.int 61687,.int 71993,.int 83869,.int 95561,.int 30307]) (.int (j % 13))=some (.int v,.z):=by
  rw [hm]
  clear hm
  match m,e with
  | 0,_=>exact ⟨_,rfl⟩
  | 1,_=>exact ⟨_,rfl⟩
  | 2,_=>exact ⟨_,rfl⟩
  | 3,_=>exact ⟨_,rfl⟩
  | 4,_=>exact ⟨_,rfl⟩
  | 5,_=>exact ⟨_,rfl⟩
  | 6,_=>exact ⟨_,rfl⟩
  | 7,_=>exact ⟨_,rfl⟩
  | 8,_=>exact ⟨_,rfl⟩
  | 9,_=>exact ⟨_,rfl⟩
  | 10,_=>exact ⟨_,rfl⟩
  | 11,_=>exact ⟨_,rfl⟩
  | 12,_=>exact ⟨_,rfl⟩
 obtain ⟨v,f⟩:=d
 have c1:-18446744073709551616 < c % 2147483647+12345/\c % 2147483647+12345 < 18446744073709551616:=by lia
 have c2:∀ z:Int,-18446744073709551616 < z % 1000000007/\z % 1000000007 < 18446744073709551616:=fun z=>by
  have:=dQ z 1000000007 (by decide)
  lia
 apply Exists.intro
 apply aW (ρ:=[some (.int c,.z),some (.int j,.z),none,none]) rfl rfl
 ·apply ak
  ·nofun
  apply ak
  ·exists f,fJ (by decide),fJ c1
  apply ak
  ·nofun
  ·exists fJ (by decide),fJ (c2 _)
 ·rfl
theorem Al (ns:List Int) (k:Nat):∃ n:Int,kH [(.fls (ns.map .int),.z),(.int k,.z)]=some (.ok (.lst [.int n],.u),[(.fls (ns.map .int),.z),(.int k,.z)]):=by
 obtain ⟨c,a⟩:=xa ns k
 generalize L3.D.fls (ns.map .int)=S at *
 generalize L3.D.int (k:Int)=kk at *
 by_cases h:c % 2=0
 ·apply Exists.intro
  apply aW (ρ:=[some (S,.z),some (kk,.z),none,none,none]) rfl rfl
  ·apply ak
   ·nomatch [a]
   apply kO
   apply j7
   ·nofun
   ·exact Fv h
   ·nofun
  ·rfl
 ·obtain ⟨ρ',e,n,v4,rfl⟩:=bS (bnd:=aj 4) (b:=iC) (fun _ ρ=>∃ (n:Int) (v4:Option (L3.D × Fl)),ρ=[some (S,.z),some (kk,.z),some (.int c,.z),some (.int n,.z),v4]) (ds:=bg 0 40) (ρ:=[some (S,.z),some (kk,.z),some (.int c,.z),some (.int 0,.z),none]) (k:=0) ⟨0,none,rfl⟩ (by
   rintro i d ρ hd ⟨n,v4,rfl⟩
   obtain ⟨hi,rfl⟩:=dn hd
   obtain ⟨m,hm⟩:=Ag c (0+(i:Int))
   generalize (0+(i:Int))=j at *
   exact ⟨_,[some (S,.z),some (kk,.z),some (.int c,.z),some (.int (n * 142857143+m),.z),some (.int j,.z)],rfl,.inl (by unfold iC;(nomatch [hm],[x6 (by decide)])),_,_,rfl⟩)
  refine ⟨n,?_⟩
  apply aW (ρ:=[some (S,.z),some (kk,.z),none,none,none]) rfl rfl
  ·apply ak
   ·nomatch [a]
   apply ak
   ·apply dO
    ·nofun
    ·exact Fw h
    ·rfl
   apply ak
   ·nofun
   apply ak
   ·apply fM
    ·exact dN (by (nofun)) rfl (hE (n:=40) (by decide) (by decide))
    ·rfl
    ·exact e
   ·nofun
  ·rfl
theorem yW {X Z:L3.D} {f:Fl} {k:L3.D} {p q:L3.D} {b:Int} (a:dB [(p,.z),(q,.z),(Z,.z)]=some (.ok (.int b,.z),[(p,.z),(q,.z),(Z,.z)])) :
  cS [some (X,f),some (Z,.z),some (k,.z),some (q,.z),some (p,.z)]=some (.ok (if b=0 then .rt (.bl false) .z else .nx),[some (X,f),some (Z,.z),some (k,.z),some (q,.z),some (p,.z)]):=by
 by_cases h:b=0
 ·rw [if_pos h]
  apply j7
  ·nomatch [a]
  ·exact Fv h
  ·nofun
 ·rw [if_neg h]
  apply dO
  ·nomatch [a]
  ·exact Fw h
  ·rfl
theorem wZ (ps:List Pt) (z:Pt) (x:∀ p ∈ ps,Small p) (E:ps.length<=24):∃ b:Bool,eM [(.lst (ps.map Pd),.u),(Pd z,.z)]=some (.ok (.bl b,.z),[(.lst (ps.map Pd),.u),(Pd z,.z)])/\(b=true->zJ ps z)/\(b=false->∃ (i j:Nat) (p q:Pt),i < j/\ps[i]?=some p/\ps[j]?=some q/\aS p q z=0):=by
 have inner:∀ (i:Nat) (q:Pt) (v4:Option (L3.D × Fl)),ps[i]?=some q->∃ a,cF (aj 4) cS ((ps.take i).map Pd) [some (.lst (ps.map Pd),.l),some (Pd z,.z),some (.int i,.z),some (Pd q,.z),v4]=some (.ok .nx,[some (.lst (ps.map Pd),.l),some (Pd z,.z),some (.int i,.z),some (Pd q,.z),a])/\(∀ j p,j < i->ps[j]?=some p->aS p q z ≠ 0) \/
   cF (aj 4) cS ((ps.take i).map Pd) [some (.lst (ps.map Pd),.l),some (Pd z,.z),some (.int i,.z),some (Pd q,.z),v4]=some (.ok (.rt (.bl false) .z),[some (.lst (ps.map Pd),.l),some (Pd z,.z),some (.int i,.z),some (Pd q,.z),a])/\∃ j p,j < i/\ps[j]?=some p/\aS p q z=0:=by
  intro i q v4 v
  have hi:i < ps.length:=(Fi.mp v).1
  obtain ⟨ρ',h⟩:=oe (bnd:=aj 4) (b:=cS) (fun m ρ=>∃ v4,ρ=[some (.lst (ps.map Pd),.l),some (Pd z,.z),some (.int i,.z),some (Pd q,.z),v4]/\∀ j p,j < m->ps[j]?=some p->aS p q z ≠ 0)
   (fun m r f ρ=>r=.bl false/\f=.z/\∃ v4,ρ=[some (.lst (ps.map Pd),.l),some (Pd z,.z),some (.int i,.z),some (Pd q,.z),v4]/\∃ p,ps[m]?=some p/\aS p q z=0)
   (ds:=(ps.take i).map Pd) (ρ:=[some (.lst (ps.map Pd),.l),some (Pd z,.z),some (.int i,.z),some (Pd q,.z),v4]) (k:=0) ⟨v4,rfl,fun j p h=>absurd h (Nat.not_lt_zero _)⟩ (by
    rintro m d ρ hd ⟨v4,rfl,w⟩
    rw [Fp,E9] at hd
    obtain ⟨p,g,rfl⟩:=hd
    have n:ps[m]?=some p/\m < i:=by
     rw [List.getElem?_take] at g
     split at g
     ·exact ⟨g,by assumption⟩
     ·cases g
    have sm:=Small.sub (x p (Fj n.1)) (x q (Fj v))
    have rb:=o9 p q z sm.1 sm.2
    have rb:=yW (X:=.lst (ps.map Pd)) (f:=.l) (k:=.int (i:Int)) rb
    by_cases h0:aS p q z=0
    ·rw [if_pos h0] at rb
     exact ⟨_,_,rfl,.inr ⟨.bl false,.z,rb,rfl,rfl,_,rfl,p,by simpa using n.1,h0⟩⟩
    ·rw [if_neg h0] at rb
     refine ⟨_,_,rfl,.inl ⟨.inl rb,_,rfl,fun j A t o=>?_⟩⟩
     by_cases e:j=m
     ·subst e;rw [n.1] at o;cases o;exact h0
     ·exact w j A (by lia) o)
  rcases h with ⟨e,a,rfl,h⟩ | ⟨m,r,f,hm,e,rfl,rfl,a,rfl,p,g,h0⟩
  ·exact ⟨a,.inl ⟨e,fun j p t=>h j p (by simp;lia)⟩⟩
  ·refine ⟨a,.inr ⟨e,m,p,by simp at hm;lia,by simpa using g,h0⟩⟩
 obtain ⟨ρ',h⟩:=oe (bnd:=ig 2 (bH (aj 2) (bH (aj 3) ik))) (b:=dL) (fun m ρ=>∃ v2 v3 v4,ρ=[some (.lst (ps.map Pd),.l),some (Pd z,.z),v2,v3,v4]/\∀ i j p q,i < j->j < m->ps[i]?=some p->ps[j]?=some q->aS p q z ≠ 0)
   (fun m r f ρ=>r=.bl false/\f=.z/\∃ v2 v3 v4,ρ=[some (.lst (ps.map Pd),.l),some (Pd z,.z),v2,v3,v4]/\∃ (i j:Nat) (p q:Pt),i < j/\ps[i]?=some p/\ps[j]?=some q/\aS p q z=0)
   (ds:=gj 0 (ps.map Pd)) (ρ:=[some (.lst (ps.map Pd),.l),some (Pd z,.z),none,none,none]) (k:=0) ⟨_,_,_,rfl,fun i j p q _ h=>absurd h (Nat.not_lt_zero _)⟩ (by
    rintro m d ρ hd ⟨v2,v3,v4,rfl,w⟩
    rw [jH,Fp,Option.map_map,E9] at hd
    obtain ⟨q,v,rfl⟩:=hd
    have hm:m < ps.length:=(Fi.mp v).1
    obtain ⟨a,h⟩:=inner m q v4 v
    have sl:=BN (xs:=ps.map Pd) (m:=m) (by simp;lia)
    rw [<- List.map_take] at sl
    rcases h with ⟨e,h⟩ | ⟨e,j,p,t,g,h0⟩
    ·refine ⟨_,[some (.lst (ps.map Pd),.l),some (Pd z,.z),some (.int m,.z),some (Pd q,.z),a],by simp [aj,ig,bH,ik];rfl,.inl ⟨.inl (by simp [dL,af,aO,aV,der,ae,mC,ah,mUn,ai,ac,cG,al,dC,aA,aU,sO,aR,lV,sIf,fV,c6,lowAt,nol,frz,vB,pls,gives,pZ,orD,cT,ixD,j8,aj,ik,bH,ig,fnM,fn0,fN,eF,l4,c1,c2,jd,kQ,o3,rg,jS,mSl,slD,mM,mL,asI,cB,lJ,cOr,iH,iD,mOr,p4,mIf,fm,asB,eqS,eqA,am,prs,ki,back,jB,mW,kg,lX,isN,Bf,j5,l5,zC,wq,yz,orC,rZ,rY,r0,L2.atI,ixN,cy,bZ,sN,-List.map_take,sl,ay,us,e]),_,_,_,rfl,fun i j p y c t hi s=>?_⟩⟩
     by_cases C:j=m
     ·subst C;rw [v] at s;cases s;exact h i p c hi
     ·exact w i j p y c (by lia) hi s
    ·refine ⟨_,[some (.lst (ps.map Pd),.l),some (Pd z,.z),some (.int m,.z),some (Pd q,.z),a],by simp [aj,ig,bH,ik];rfl,.inr ⟨.bl false,.z,by simp [dL,af,aO,aV,der,ae,mC,ah,mUn,ai,ac,cG,al,dC,aA,aU,sO,aR,lV,sIf,fV,c6,lowAt,nol,frz,vB,pls,gives,pZ,orD,cT,ixD,j8,aj,ik,bH,ig,fnM,fn0,fN,eF,l4,c1,c2,jd,kQ,o3,rg,jS,mSl,slD,mM,mL,asI,cB,lJ,cOr,iH,iD,mOr,p4,mIf,fm,asB,eqS,eqA,am,prs,ki,back,jB,mW,kg,lX,isN,Bf,j5,l5,zC,wq,yz,orC,rZ,rY,r0,L2.atI,ixN,cy,bZ,sN,-List.map_take,sl,ay,us,e],rfl,rfl,_,_,_,rfl,j,m,p,q,t,g,v,h0⟩⟩)
 rcases h with ⟨e,v2,v3,v4,rfl,h⟩ | ⟨m,r,f,hm,e,rfl,rfl,v2,v3,v4,rfl,B⟩
 ·refine ⟨true,?_,fun _ i j p q c hi t=>h i j p q c ?_ hi t,fun h=>by cases h⟩
  ·simp [eM,lh,af,aO,aV,der,ae,mC,ah,mUn,ai,ac,cG,al,dC,aA,aU,sO,aR,lV,sIf,fV,c6,lowAt,nol,frz,vB,pls,gives,pZ,orD,cT,ixD,j8,aj,ik,bH,ig,fnM,fn0,fN,eF,l4,c1,c2,jd,kQ,o3,rg,jS,mSl,slD,mM,mL,asI,cB,lJ,cOr,iH,iD,mOr,p4,mIf,fm,asB,eqS,eqA,am,prs,ki,back,jB,mW,kg,lX,isN,Bf,j5,l5,zC,wq,yz,orC,rZ,rY,r0,L2.atI,ixN,cy,lq,ay,us,i6,cu,fO,e]
  ·have:=(Fi.mp t).1
   simp [jG];lia
 ·refine ⟨false,?_,fun h=>(by cases h),fun _=>B⟩
  simp [eM,lh,af,aO,aV,der,ae,mC,ah,mUn,ai,ac,cG,al,dC,aA,aU,sO,aR,lV,sIf,fV,c6,lowAt,nol,frz,vB,pls,gives,pZ,orD,cT,ixD,j8,aj,ik,bH,ig,fnM,fn0,fN,eF,l4,c1,c2,jd,kQ,o3,rg,jS,mSl,slD,mM,mL,asI,cB,lJ,cOr,iH,iD,mOr,p4,mIf,fm,asB,eqS,eqA,am,prs,ki,back,jB,mW,kg,lX,isN,Bf,j5,l5,zC,wq,yz,orC,rZ,rY,r0,L2.atI,ixN,cy,lq,ay,us,i6,cu,fO,e]
theorem sq_le {i:Nat} (h:i < 12):0<=(i:Int) * (i:Int)/\(i:Int) * (i:Int)<=144:=by
 have h1:i * i<=12 * 12:=Nat.mul_le_mul (by lia) (by lia)
 have h2:(i:Int) * (i:Int)=((i * i:Nat):Int):=by simp
 rw [h2];lia
theorem zN {i:Nat} {g kd:Int} (hi:i < 12) (c:-15<=g) (g1:g<=15) (d:0<=kd) (f:kd < 6) :
  ∃ y:Int,aB (.lst [.int g,.int g,.int ((i:Int) * i+g / 9),.int (g / 9 - (i:Int) * i),.int (((i:Int) * i+30) * (1 - 2 * ((i:Int) % 2))),.int (g * 1000)]) (.int kd)=some (.int y,.z)/\-16000<=y/\y<=16000:=by
 obtain ⟨h,b⟩:=sq_le hi
 obtain ⟨j,rfl⟩:∃ j:Nat,kd=(j:Int):=⟨kd.toNat,by lia⟩
 have a:j < 6:=by lia
 generalize (i:Int) * (i:Int)=qq at *
 have hm:(qq+30) * (1 - 2 * ((i:Int) % 2))<=16000/\-16000<=(qq+30) * (1 - 2 * ((i:Int) % 2)):=by
  rcases Int.emod_two_eq (i:Int) with e | e
  ·rw [e];simp;lia
  ·rw [e];simp;lia
 generalize (qq+30) * (1 - 2 * ((i:Int) % 2))=zz at *
 match j,a with
 | 0,_=>exact ⟨_,rfl,by lia,by lia⟩
 | 1,_=>exact ⟨_,rfl,by lia,by lia⟩
 | 2,_=>exact ⟨_,rfl,by lia,by lia⟩
 | 3,_=>exact ⟨_,rfl,by lia,by lia⟩
 | 4,_=>exact ⟨_,rfl,by lia,by lia⟩
 | 5,_=>exact ⟨_,rfl,by lia,by lia⟩
abbrev cz (n most many kd x:Int) (ps:List Pt) (v6 v7 v8 v9:Option (L3.D × Fl)):Sto:=[some (.lst [.int n],.u),some (.int most,.z),some (.int many,.z),some (.int kd,.z),some (.int x,.z),some (.lst (ps.map Pd),.u),v6,v7,v8,v9]
theorem qQ {n most many kd x y0:Int} {ps:List Pt} {v6 v7 v8:Option (L3.D × Fl)} (R:Rising ps) (o:∀ p ∈ ps,Small p) (r:ps.length<=12) :
  ∃ y,dR ci de (cz n most many kd x ps v6 v7 v8 (some (.int y0,.z)))=some (.ok .nx,cz n most many kd x ps v6 v7 v8 (some (.int y,.z)))/\zJ ps (x,y)/\y0<=y/\y<=y0+144:=by
 have g:above ps x y0<=144:=by
  have h1:=zE ps x y0
  have h2:ps.length * ps.length<=12 * 12:=Nat.mul_le_mul (by lia) (by lia)
  lia
 obtain ⟨ρ',e,y,rfl,hf,h1,h2⟩:=mf (c:=ci) (b:=de) (fun m ρ=>∃ y:Int,ρ=cz n most many kd x ps v6 v7 v8 (some (.int y,.z))/\m=above ps x y/\y0<=y/\y+(above ps x y:Int)<=y0+(above ps x y0:Int))
  (fun ρ=>∃ y:Int,ρ=cz n most many kd x ps v6 v7 v8 (some (.int y,.z))/\zJ ps (x,y)/\y0<=y/\y<=y0+144) (ρ:=cz n most many kd x ps v6 v7 v8 (some (.int y0,.z))) ⟨y0,rfl,rfl,Int.le_refl _,Int.le_refl _⟩ (by
   rintro m ρ ⟨y,rfl,rfl,h1,h2⟩
   obtain ⟨b,k,l,hf⟩:=wZ ps (x,y) o (by lia)
   have f:ci (cz n most many kd x ps v6 v7 v8 (some (.int y,.z)))=some (.ok (!b),cz n most many kd x ps v6 v7 v8 (some (.int y,.z))):=by
    unfold ci
    nomatch [k]
   cases b with
   | true=>exact .inl ⟨_,f,y,rfl,l rfl,h1,by lia⟩
   | false =>
    obtain ⟨i,j,p,q,d,e1,h,h0⟩:=hf rfl
    have a:=zD R d e1 h h0
    exact .inr ⟨_,cz n most many kd x ps v6 v7 v8 (some (.int (y+1),.z)),_,f,.inl (by unfold de;(nofun)),a,y+1,rfl,rfl,by lia,by lia⟩)
 exact ⟨y,e,hf,h1,h2⟩
theorem wU {n most many kd x:Int} {i:Nat} {ps:List Pt} {v7 v8 v9:Option (L3.D × Fl)} (R:Rising ps) (q:∀ p ∈ ps,Small p) (r:ps.length<=12) (hi:i < 12) (l:0<=kd) (s:kd < 6) :
  ∃ (v d y:Int) (b e a:Option (L3.D × Fl)),cj (cz n most many kd x ps (some (.int i,.z)) v7 v8 v9)=some (.ok .nx,cz v most many kd (x+1+d) (ps ++ [(x+1+d,y)]) (some (.int i,.z)) b e a)/\0<=d/\d < 3/\zJ ps (x+1+d,y)/\-16000<=y/\y<=16144:=by
 have t:=o5
 have B:=dQ (n / 3) 31 (by decide)
 have j:=dQ n 3 (by decide)
 generalize A:n / 3 % 31 - 15=G at *
 obtain ⟨y0,m,C,E⟩:=zN (i:=i) (g:=G) (kd:=kd) hi (by lia) (by lia) l s
 have h:-18446744073709551616 < (i:Int)/\(i:Int) < 18446744073709551616:=by lia
 have k:-18446744073709551616 < 1 - 2 * ((i:Int) % 2)/\1 - 2 * ((i:Int) % 2) < 18446744073709551616:=by lia
 generalize c:x+1+n % 3=X at *
 obtain ⟨y,o,hf,h1,h2⟩:=qQ (n:=n / 3 / 31) (most:=most) (many:=many) (kd:=kd) (x:=X) (y0:=y0) (ps:=ps) (v6:=some (.int i,.z)) (v7:=some (.int G,.z)) (v8:=some (.lst [.int G,.int G,.int ((i:Int) * i+G / 9),.int (G / 9 - (i:Int) * i),.int (((i:Int) * i+30) * (1 - 2 * ((i:Int) % 2))),.int (G * 1000)],.u)) R q r
 refine ⟨n / 3 / 31,n % 3,y,some (.int G,.z),some (.lst [.int G,.int G,.int ((i:Int) * i+G / 9),.int (G / 9 - (i:Int) * i),.int (((i:Int) * i+30) * (1 - 2 * ((i:Int) % 2))),.int (G * 1000)],.u),some (.int y,.z),?_,j.1,j.2,by rw [c];exact hf,by lia,by lia⟩
 rw [c]
 have w:(ps.map Pd).length < 16777216:=by simp;lia
 have f:=EW (d:=Pd (X,y)) w
 rw [show ps.map Pd ++ [Pd (X,y)]=(ps ++ [(X,y)]).map Pd by simp] at f
 clear hi
 generalize (i:Int)=zi at *
 unfold cj
 apply ak (ρ1:=cz (n / 3) most many kd X ps (some (.int zi,.z)) v7 v8 v9)
 ·rw [<- c]
  nomatch [(t _ _ (by decide))]
 apply ak (ρ1:=cz (n / 3 / 31) most many kd X ps (some (.int zi,.z)) (some (.int G,.z)) v8 v9)
 ·rw [<- A]
  nomatch [(t _ _ (by decide))]
 apply ak (ρ1:=cz (n / 3 / 31) most many kd X ps (some (.int zi,.z)) (some (.int G,.z)) (some (.lst [.int G,.int G,.int (zi * zi+G / 9),.int (G / 9 - zi * zi)],.u)) v9)
 ·exists fJ h
 apply ak (ρ1:=cz (n / 3 / 31) most many kd X ps (some (.int zi,.z)) (some (.int G,.z)) (some (.lst [.int G,.int G,.int (zi * zi+G / 9),.int (G / 9 - zi * zi),.int ((zi * zi+30) * (1 - 2 * (zi % 2))),.int (G * 1000)],.u)) v9)
 ·exists fJ h,fJ (by decide),x6 k,x6 (by decide)
 apply ak (ρ1:=cz (n / 3 / 31) most many kd X ps (some (.int zi,.z)) (some (.int G,.z)) (some (.lst [.int G,.int G,.int (zi * zi+G / 9),.int (G / 9 - zi * zi),.int ((zi * zi+30) * (1 - 2 * (zi % 2))),.int (G * 1000)],.u)) (some (.int y0,.z)))
 ·exists m
 apply ak
 ·exact o
 ·exists f
set_option tactic.hygienic true in
theorem wY {n most many kd x:Int} (hm:0<=many/\many<=12) (s:0<=kd) (v:kd < 6) (x0:-4<=x) (B:x<=4) :
  ∃ (h l:Int) (ps:List Pt) (v6 v7 v8 v9:Option (L3.D × Fl)),cy (aZ d8 (ac (ae 2) ai)) (aj 6) cj (cz n most many kd x [] none none none none)=some (.ok .nx,cz h most many kd l ps v6 v7 v8 v9)/\(ps.length:Int)=many/\Rising ps/\NoLine ps/\(∀ q ∈ ps,-5<=q.1/\q.1<=100/\-17000<=q.2/\q.2<=17000):=by
 obtain ⟨ρ',e,h,l,ps,v6,v7,v8,v9,rfl,o,c,f,bnd,h1,h2⟩:=bS (bnd:=aj 6) (b:=cj) (fun i ρ=>∃ (n x:Int) (ps:List Pt) (v6 v7 v8 v9:Option (L3.D × Fl)),ρ=cz n most many kd x ps v6 v7 v8 v9/\ps.length=i/\Rising ps/\NoLine ps/\(∀ q ∈ ps,q.1<=x/\-5<=q.1/\-17000<=q.2/\q.2<=17000)/\-4<=x/\x<=4+3 * (i:Int))
  (ds:=bg 0 many.toNat) (ρ:=cz n most many kd x [] none none none none) (k:=0) ⟨n,x,[],none,none,none,none,rfl,rfl,fun _ _ _ _ _ e _=>by simp at e,fun _ _ _ _ _ _ _ _ e _ _=>by simp at e,fun _ e=>by simp at e,by lia,by lia⟩ (by
   rintro i d ρ hd ⟨n,x,ps,v6,v7,v8,v9,rfl,o,c,f,bnd,h1,h2⟩
   obtain ⟨hi,rfl⟩:=dn hd
   have j:∀ q ∈ ps,Small q:=fun q a=>by
    obtain ⟨a1,a2,m,p⟩:=bnd q a
    exact ⟨by lia,by lia,by lia,by lia⟩
   obtain ⟨h,g,y,w,t,u,e,C,d1,fr,y0,A⟩:=wU (n:=n) (most:=most) (many:=many) (kd:=kd) (x:=x) (i:=i) (ps:=ps) (v7:=v7) (v8:=v8) (v9:=v9) c j (by lia) (by lia) s v
   refine ⟨cz n most many kd x ps (some (.int i,.z)) v7 v8 v9,_,by rw [Int.zero_add];rfl,.inl e,h,x+1+g,ps ++ [(x+1+g,y)],_,_,_,_,rfl,by simp;lia,c.snoc fun q a=>?_,f.snoc fr,fun q a=>?_,by lia,by lia⟩
   ·show q.1 < x+1+g
    have:=(bnd q a).1
    lia
   ·rcases Ff.mp a with a | a
    ·obtain ⟨a1,a2,m,p⟩:=bnd q a
     exact ⟨by lia,by lia,by lia,by lia⟩
    ·have e:q=(x+1+g,y):=by simpa using a
     subst e
     exact ⟨Int.le_refl _,by show -5<=x+1+g;lia,by show -17000<=y;lia,by show y<=17000;lia⟩)
 rw [cO] at o h2
 have r:d8 [.int many]=some (bg 0 many.toNat):=hE (by lia) rfl
 refine ⟨h,l,ps,v6,v7,v8,v9,?_,by lia,c,f,fun q a=>?_⟩
 ·apply fM
  ·(repeat' (first | with_reducible apply dN (h3:=r) | infer_instance | eq_refl))
  ·rfl
  ·exact e
 ·obtain ⟨a1,a2,m,p⟩:=bnd q a
  exact ⟨by lia,by lia,by lia,by lia⟩
abbrev scJ (p:Pt):Pt:=iA 1000000000000 1000000000 7 p
theorem pow12:xL (.int 10) (.int 12)=some (.int 1000000000000,.z):=rfl
theorem pow9:xL (.int 10) (.int 9)=some (.int 1000000000,.z):=rfl
theorem uO (ps:List Pt) (g:ps.length<=24) {n most many kd x:Int} {v6 v7 v8 v9:Option (L3.D × Fl)}:aR 5 c9 (cz n most many kd x ps v6 v7 v8 v9)=some (.ok .nx,cz n most many kd x (ps.map scJ) v6 v7 v8 v9):=by
 obtain ⟨τ',e,a,b,rfl⟩:=bI (bnd:=ig 2 (bH (aj 0) (bH (aj 1) ik))) (c:=fB) (elt:=fk) (fun τ=>∃ a b,τ=[a,b]) Pd (fun _=>true) (fun p=>Pd (scJ p)) (xs:=ps) (τ:=[none,none]) ⟨none,none,rfl⟩ (by
  rintro p f τ ⟨a,b,rfl⟩
  exact ⟨[some (.int p.1,.z),some (.int p.2,.z)],_,rfl,rfl,(fun h=>by cases h),fun _=>⟨.val (Pd (scJ p)) .z,[some (.int p.1,.z),some (.int p.2,.z)],(Pd (scJ p),.z),_,by unfold fk;(exists pow12,pow9,fJ (by decide)),rfl,rfl,_,_,rfl⟩⟩)
 rw [FO.mpr (fun _ _=>rfl)] at e
 have d:c9 (cz n most many kd x ps v6 v7 v8 v9)=some (.ok (.val (.lst (ps.map fun p=>Pd (scJ p))) .u),cz n most many kd x ps v6 v7 v8 v9):=bp (rs:=[.pl 5]) (ρ1:=cz n most many kd x ps v6 v7 v8 v9) (ρ2:=[some (.lst [.int n],.u),some (.int most,.z),some (.int many,.z),some (.int kd,.z),some (.int x,.z),some (.lst (ps.map Pd),.l),v6,v7,v8,v9]) rfl e (by simp;lia) rfl
 rw [show (ps.map fun p=>Pd (scJ p))=(ps.map scJ).map Pd by simp] at d
 exact m4 d rfl (Nat.le_of_ble_eq_true rfl) rfl
theorem uN (n most:Int) (h1:1<=most) (h2:most<=12):∃ (b:Int) (ps:List Pt),eJ [(.lst [.int n],.u),(.int most,.z)]=some (.ok (.tup (ps.map Pd),.z),[(.lst [.int b],.u),(.int most,.z)])/\GoodSh ps/\(ps.length:Int)<=most:=by
 have t:=o5
 have o:=dQ n most (by lia)
 have h:=dQ (n / most) 6 (by decide)
 have m:=dQ (n / most / 6) 9 (by decide)
 obtain ⟨b,k,ps,v6,v7,v8,v9,e,p,c,d,bnd⟩:=wY (n:=n / most / 6 / 9) (most:=most) (many:=1+n % most) (kd:=n / most % 6) (x:=n / most / 6 % 9 - 4) ⟨by lia,by lia⟩ h.1 h.2 (by lia) (by lia)
 have good:GoodSh ps:=⟨by lia,by lia,fun q g=>by
  obtain ⟨a1,a2,l,j⟩:=bnd q g
  exact ⟨by lia,by lia,by lia,by lia⟩,c,d⟩
 have a:GoodSh (ps.map scJ):=⟨by simpa using good.pos,by simpa using good.most,fun q g=>by
  obtain ⟨r,f,rfl⟩:=Fo.mp g
  obtain ⟨a1,a2,l,j⟩:=bnd r f
  exact ⟨by show -(2 ^ 62) < (1000000000000:Int) * r.1+7;lia,by show (1000000000000:Int) * r.1+7 < 2 ^ 62;lia,by show -(2 ^ 62) < (1000000000:Int) * r.2;lia,by show (1000000000:Int) * r.2 < 2 ^ 62;lia⟩,c.scale (by decide),d.scale (by decide) (by decide)⟩
 have pre:∀ {r:Option (Except L3.D Flw × Sto)},aA (sIf (cB (ah eqX (am bT (ac (ae 0) (ac (mC (.int 6)) ai))) (mC (.int 5)))) (aR 5 c9) dC) (aU 2 (al zP (ac (ae 5) ai))) (cz b most (1+n % most) (n / most % 6) k ps v6 v7 v8 v9)=r->mS [some (.lst [.int n],.u),some (.int most,.z),none,none,none,none,none,none,none,none]=r:=by
  intro r f
  apply ak (ρ1:=[some (.lst [.int (n / most)],.u),some (.int most,.z),some (.int (1+n % most),.z),none,none,none,none,none,none,none])
  ·nomatch [(t n most (by lia))]
  apply ak (ρ1:=[some (.lst [.int (n / most / 6)],.u),some (.int most,.z),some (.int (1+n % most),.z),some (.int (n / most % 6),.z),none,none,none,none,none,none])
  ·nomatch [(t _ _ (by decide))]
  apply ak (ρ1:=[some (.lst [.int (n / most / 6 / 9)],.u),some (.int most,.z),some (.int (1+n % most),.z),some (.int (n / most % 6),.z),some (.int (n / most / 6 % 9 - 4),.z),none,none,none,none,none])
  ·nomatch [(t _ _ (by decide))]
  apply ak (ρ1:=cz (n / most / 6 / 9) most (1+n % most) (n / most % 6) (n / most / 6 % 9 - 4) [] none none none none)
  ·nofun
  exact ak e f
 by_cases i:b % 6=5
 ·refine ⟨b / 6,ps.map scJ,?_,a,by rw [Fh];lia⟩
  apply aW (ρ:=[some (.lst [.int n],.u),some (.int most,.z),none,none,none,none,none,none,none,none]) rfl rfl
  ·apply pre
   apply ak
   ·apply j7
    ·nomatch [(t _ _ (by decide))]
    ·exact Fv i
    ·exact uO ps (by lia)
   ·nofun
  ·rfl
 ·refine ⟨b / 6,ps,?_,good,by lia⟩
  apply aW (ρ:=[some (.lst [.int n],.u),some (.int most,.z),none,none,none,none,none,none,none,none]) rfl rfl
  ·apply pre
   apply ak
   ·apply dO
    ·nomatch [(t _ _ (by decide))]
    ·exact Fw i
    ·rfl
   ·nofun
  ·rfl
def bC (ps:List Pt) (i:Nat):Pt:=ps.getD i (0,0)
theorem pB {ps:List Pt} {i:Nat} (h:i < ps.length):ps[i]?=some (bC ps i):=by
 simp [bC,List.getD,Fd h]
theorem fg {ps:List Pt} {i:Nat} (a:∀ p ∈ ps,Small p) (h:i < ps.length):Small (bC ps i):=a _ (Fj (pB h))
theorem jm {ps:List Pt} {i:Nat} (h:i < ps.length):aB (Shd ps) (.int i)=some (Pd (bC ps i),.z):=eR (wb (pB h))
def tq (ps:List Pt) (t:Tri):Int:=oP (bC ps t.1) (bC ps t.2.1) (bC ps t.2.2)
abbrev tk (t:Tri):List Key:=[.inl (t.1:Int),.inl (t.2.1:Int),.inl (t.2.2:Int)]
theorem wu {t u:Tri} (h:tk t=tk u):t=u:=by
 simp only [tk,List.cons.injEq,Sum.inl.injEq,and_true] at h
 exact Prod.ext (by lia) (Prod.ext (by lia) (by lia))
def tb (ps:List Pt) (l:List Tri):List (List Key × L3.D):=l.map fun t=>(tk t,.int (tq ps t))
theorem DB {ps:List Pt} {l:List Tri} {t:Tri} (h:t ∉ l):fP (tb ps l) (tk t) (.int (tq ps t))=tb ps (l ++ [t]):=by
 have d:¬ ((tb ps l).any fun a=>decide (a.1=tk t))=true:=by
  intro b
  obtain ⟨x,c,e⟩:=List.any_eq_true.mp b
  obtain ⟨u,hu,rfl⟩:=Fo.mp c
  exact h (wu (of_decide_eq_true e) ▸ hu)
 unfold fP
 rw [if_neg d]
 unfold tb
 rw [List.map_append]
 rfl
theorem yU {ps:List Pt} {t:Tri}:∀ {l:List Tri},t ∈ l->dD (tb ps l) (tk t)=some (.int (tq ps t))
 | u :: l,h=>by
  unfold dD tb
  rw [Fu,List.find?_cons]
  by_cases e:tk u=tk t
  ·rw [wu e];simp
  ·have:t ∈ l:=by
    rcases Fc.mp h with rfl | h
    ·exact absurd rfl e
    ·exact h
   have a:=yU (ps:=ps) this
   unfold dD tb at a
   simp only [e,decide_false]
   exact a
theorem C6 {ps:List Pt} {l:List Tri} {t:Tri} (h:t ∉ l) (a:l.length < 16777216):uJ (.dt (tb ps l)) [Td t,.int (tq ps t)]=some (.dt (tb ps (l ++ [t])),.non):=by
 show (if (tb ps l).length < 16777216 then some (L3.D.dt (fP (tb ps l) (tk t) (.int (tq ps t))),L3.D.non) else none)=_
 rw [if_pos (by unfold tb;rw [Fh];exact a),DB h]
theorem qG:∀ n:Nat,n<=9->(eP n).Nodup
 | 0,_=>by decide +kernel
 | 1,_=>by decide +kernel
 | 2,_=>by decide +kernel
 | 3,_=>by decide +kernel
 | 4,_=>by decide +kernel
 | 5,_=>by decide +kernel
 | 6,_=>by decide +kernel
 | 7,_=>by decide +kernel
 | 8,_=>by decide +kernel
 | 9,_=>by decide +kernel
 | n+10,h=>absurd h (by lia)
theorem wr:∀ n:Nat,n<=9->(eP n).length<=84
 | 0,_=>by decide +kernel
 | 1,_=>by decide +kernel
 | 2,_=>by decide +kernel
 | 3,_=>by decide +kernel
 | 4,_=>by decide +kernel
 | 5,_=>by decide +kernel
 | 6,_=>by decide +kernel
 | 7,_=>by decide +kernel
 | 8,_=>by decide +kernel
 | 9,_=>by decide +kernel
 | n+10,h=>absurd h (by lia)
theorem uD {α:Type} {l:List α} {m:Nat} {t:α} (h:l[m]?=some t):l.take (m+1)=l.take m ++ [t]:=by
 rw [List.take_add_one,h];rfl
theorem rA {α:Type} {l:List α} {m:Nat} {t:α} (nd:l.Nodup) (h:l[m]?=some t):t ∉ l.take m:=by
 rw [<- List.take_append_drop m l] at nd
 intro hm
 refine (List.nodup_append.mp nd).2.2 t hm t ?_ rfl
 refine Fj (i:=0) ?_
 rw [List.getElem?_drop]
 exact h
theorem wg {ps:List Pt} (g:GoodSh ps) {t:Tri} (h1:t.1 < t.2.1) (h2:t.2.1 < t.2.2) (h3:t.2.2 < ps.length) {l:List Tri} (c:t ∉ l) (b:l.length < 16777216):cq [some (Shd ps,.z),some (.dt (tb ps l),.u),some (Td t,.z)]=some (.ok .nx,[some (Shd ps,.z),some (.dt (tb ps (l ++ [t])),.u),some (Td t,.z)]):=by
 obtain ⟨i,j,k⟩:=t
 dsimp only at h1 h2 h3
 have f:dj [(Shd ps,.z),(Td (i,j,k),.z)]=some (.ok (.int (tq ps (i,j,k)),.z),[(Shd ps,.z),(Td (i,j,k),.z)]):=qP (jm (ps:=ps) (i:=i) (by lia)) (jm (ps:=ps) (i:=j) (by lia)) (jm (ps:=ps) (i:=k) (by lia)) (fg g.small (show i < ps.length by lia)) (fg g.small (show j < ps.length by lia))
 have e:=C6 (ps:=ps) c b
 unfold cq
 have a:am dj (ac (ae 0) (ac (ae 2) ai)) [some (Shd ps,.z),some (.dt (tb ps l),.u),some (Td (i,j,k),.z)]=some (.ok (.val (.int (tq ps (i,j,k))) .z),[some (Shd ps,.z),some (.dt (tb ps l),.u),some (Td (i,j,k),.z)]):=by (nomatch [f])
 exact yQ (i:=1) (ρ2:=[some (Shd ps,.z),some (.dt (tb ps l),.u),some (Td (i,j,k),.z)]) (ρ3:=[some (Shd ps,.z),some (.dt (tb ps l),.u),some (Td (i,j,k),.z)]) a rfl (bd (i:=2) rfl) rfl rfl e
theorem pc {ps:List Pt} (g:GoodSh ps) (f:ps.length<=9):b7 [(Shd ps,.z)]=some (.ok (.dt (tb ps (eP ps.length)),.u),[(Shd ps,.z)]):=by
 have nd:=qG ps.length f
 have l:=wr ps.length f
 obtain ⟨ρ',e,v2,rfl⟩:=bS (bnd:=aj 2) (b:=cq) (fun m ρ=>∃ v2,ρ=[some (Shd ps,.z),some (.dt (tb ps ((eP ps.length).take m)),.u),v2]) (ds:=(eP ps.length).map Td) (ρ:=[some (Shd ps,.z),some (.dt [],.u),none]) (k:=0) ⟨none,rfl⟩ (by
  rintro m d ρ hd ⟨v2,rfl⟩
  rw [Fz]
  rw [Fp] at hd
  obtain ⟨t,a,rfl⟩:=E9.mp hd
  obtain ⟨j,h,i⟩:=pQ (Fj a)
  rw [uD a]
  exact ⟨_,_,rfl,.inl (wg g j h i (rA nd a) (by rw [FD];lia)),_,rfl⟩)
 rw [Fz,Fh,List.take_length] at e
 have c:=uT g
 have th:=kR ps.length (by lia)
 have hlen:dz [Shd ps]=some (.int (ps.length:Nat),.z):=by simp [l5,c1]
 apply aW (ρ:=[some (Shd ps,.z),none,none]) rfl rfl
 ·apply ak (ρ1:=[some (Shd ps,.z),none,none])
  ·exact yR (aq c (av (bd rfl) a8) rfl rfl rfl)
  ·apply ak (ρ1:=[some (Shd ps,.z),some (.dt [],.u),none])
   ·rfl
   ·apply ak
    ·apply fM
     ·nomatch [th],[hlen]
     ·rfl
     ·exact e
    ·nofun
 ·rfl
abbrev k3 (i j k:Nat):List Key:=[.inl (i:Int),.inl (j:Int),.inl (k:Int)]
structure Sg where
 length:Nat
 f:Nat->Nat->Nat->Int
def trn (ps:Sg) (i j k:Nat):Int:=ps.f i j k
def lL (ps:Sg) (T:List (List Key × L3.D)):Prop:=∀ i j k,i < j->j < k->k < ps.length->dD T (k3 i j k)=some (.int (trn ps i j k))
theorem vg {n i j k:Nat} (h1:i < j) (h2:j < k) (h3:k < n):(i,j,k) ∈ eP n:=by
 refine FP.mpr ⟨i,List.mem_range.mpr (by lia),FP.mpr ⟨j - (i+1),List.mem_range.mpr (by lia),Fo.mpr ⟨k - (j+1),List.mem_range.mpr (by lia),?_⟩⟩⟩
 refine Prod.ext rfl (Prod.ext ?_ ?_) <;> simp <;> lia
theorem sub3 {kvs:List (List Key × L3.D)} {i j k:Nat} {d:L3.D} (h:dD kvs (k3 i j k)=some d):aB (.dt kvs) (.tup [.int i,.int j,.int k])=some (d,.z):=by
 show (dD kvs (k3 i j k)).map (fun d=>(d,Fl.z))=_
 rw [h];rfl
def sgn (ps:List Pt):Sg:=⟨ps.length,fun i j k=>oP (bC ps i) (bC ps j) (bC ps k)⟩
theorem wo (ps:List Pt):lL (sgn ps) (tb ps (eP ps.length)):=fun i j k h1 h2 h3=>yU (t:=(i,j,k)) (vg h1 h2 h3)
abbrev Nd (l:List Nat):List L3.D:=l.map fun (i:Nat)=>L3.D.int (i:Int)
def el (L:List Nat) (i:Nat):Nat:=L.getD i 0
theorem fA {L:List Nat} {i:Nat} (h:i < L.length):L[i]?=some (el L i):=by simp [el,List.getD,h]
theorem og {L:List Nat} {i:Nat} (h:i < L.length):el L i ∈ L:=Fj (fA h)
theorem uq {α:Type} (b:α->Bool):∀ xs:List α,iw (xs.map fun x=>L3.D.bl (b x))=some (xs.map b)
 | []=>rfl
 | x :: xs=>by simp [iw,uq b xs]
theorem EY {α:Type} (b:α->Bool) (xs:List α):zB [.lst (xs.map fun x=>L3.D.bl (b x))]=some (.bl (xs.all b),.z):=by
 show (iw _).map _=_
 rw [uq]
 simp [List.all_map]
theorem EV {xs:List L3.D} {i:Nat} {d:L3.D} (h:xs[i]?=some d):L2.atI xs (i:Int)=some d:=by
 have lt:=(Fi.mp h).1
 unfold L2.atI L2.ixN
 rw [if_pos (by lia),if_pos (by lia)]
 simpa using h
theorem E2 {r:List Nat} {i:Nat} (h:i < r.length):(Nd r)[i]?=some (.int (el r i)):=by rw [Fp,fA h];rfl
theorem qJ {r:List Nat} {i:Nat} (h:i < r.length):aB (.tup (Nd r)) (.int (i:Int))=some (.int (el r i),.z):=eR (EV (E2 h))
structure Ris (n:Nat) (r:List Nat):Prop where
 up:r.Pairwise (· < ·)
 lt:∀ x ∈ r,x < n
theorem Ris.at {n:Nat} {r:List Nat} (h:Ris n r) {i j:Nat} (b:i < j) (c:j < r.length):el r i < el r j:=by
 have:=List.pairwise_iff_getElem.mp h.up i j (by lia) c b
 have e1:=fA (L:=r) (i:=i) (by lia)
 have a:=fA (L:=r) (i:=j) c
 rw [Fd (by lia)] at e1 a
 injection e1 with e1
 injection a with a
 lia
theorem sQ {n:Nat}:∀ (r:List Nat) (a:Nat),r.Pairwise (· < ·)->(∀ x ∈ r,a<=x/\x < n)->r.length<=n - a
 | [],a,_,_=>Nat.zero_le _
 | x :: r,a,hp,hb=>by
  rw [List.pairwise_cons] at hp
  have h0:=hb x E6
  have:=sQ r (x+1) hp.2 fun y b=>⟨hp.1 y b,(hb y (E7 _ b)).2⟩
  rw [FC]
  lia
theorem Ris.len {n:Nat} {r:List Nat} (h:Ris n r):r.length<=n:=sQ r 0 h.up fun x a=>⟨Nat.zero_le _,h.lt x a⟩
def rb (s:Sg) (row:List Nat) (way:Int):Bool:=(List.range (row.length - 2)).all fun a=>decide (s.f (el row a) (el row (a+1)) (el row (a+2))=way)
theorem yZ {bnd:L3.D->Sto->Option Sto} {b:SM} {d:L3.D} {ds:List L3.D} {ρ ρ1 ρ2:Sto} {x:Option (Except L3.D Flw × Sto)} (h1:bnd d ρ=some ρ1) (h2:b ρ1=some (.ok .nx,ρ2)) (h3:cF bnd b ds ρ2=x):cF bnd b (d :: ds) ρ=x:=by
 simp only [cF,h1,af,h2,h3]
theorem fl_rt {bnd:L3.D->Sto->Option Sto} {b:SM} {d:L3.D} {ds:List L3.D} {ρ ρ1 ρ2:Sto} {y:L3.D} {g:Fl} (h1:bnd d ρ=some ρ1) (h2:b ρ1=some (.ok (.rt y g),ρ2)):cF bnd b (d :: ds) ρ=some (.ok (.rt y g),ρ2):=by
 simp only [cF,h1,af,h2];rfl
theorem Cg {α:Type} (f:α->Int):∀ l:List α,∃ qs,d9 (l.map fun x=>L3.D.int (f x))=some qs/\PyData.canLayAll0 qs=true/\PyData.depthAll qs<=10/\qs.length=l.length
 | []=>⟨[],rfl,rfl,by decide,rfl⟩
 | x :: l=>by
  obtain ⟨qs,e1,a,c,b⟩:=Cg f l
  refine ⟨.int (f x) :: qs,?_,?_,?_,?_⟩
  ·show (match pyD (.int (f x)),d9 (l.map fun x=>L3.D.int (f x)) with | some p,some ps=>some (p :: ps) | _,_=>none)=_
   rw [e1];rfl
  ·simp [PyData.canLayAll0,PyData.canLay0,a]
  ·simp [PyData.depthAll,PyData.depth];lia
  ·simp [b]
theorem vE {d:L3.D} {p:PyData} (b:eqS d d=none) (h:pyD d=some p) (a:p.canLay0=true) (hd:p.depth<=30):eqX d d=some (.bl true,.z):=by
 have h1:eqA d d=some true:=by
  unfold eqA
  rw [b]
  exact y9 h a hd
 show (eqA d d).map _=_
 rw [h1];rfl
theorem tL:∀ (l ns:List Int),l.Nodup->(∀ x ∈ l,x ∉ ns)->l.foldl met ns=ns ++ l
 | [],ns,_,_=>by simp
 | x :: l,ns,hd,hx=>by
  rw [List.nodup_cons] at hd
  rw [List.foldl_cons,show met ns x=ns ++ [x] from if_neg (hx x E6),tL l (ns ++ [x]) hd.2 fun y a h=>?_]
  ·simp
  ·rcases Ff.mp h with h | h
   ·exact hx y (E7 _ a) h
   ·exact hd.1 (FH.mp h ▸ a)
theorem ss_is {n:Nat} {r:List Nat} (h:Ris n r) (d:n<=24):ssD [.tup (Nd r)]=some (.lst (Nd r),.u):=by
 have b:=h.len
 have c:aF (Nd r)=some (r.map fun x:Nat=>(x:Int)):=by
  clear h b
  induction r with
  | nil=>rfl
  | cons x r ih=>simp [aF,ih]
 have up:(r.map fun x:Nat=>(x:Int)).Pairwise (· < ·):=List.pairwise_map.mpr (h.up.imp fun a=>by lia)
 have m:=tL (r.map fun x:Nat=>(x:Int)) [] (up.imp fun a=>by lia) (fun _ _=>List.not_mem_nil)
 rw [List.nil_append] at m
 have st:srt (r.map fun x:Nat=>(x:Int))=r.map fun x:Nat=>(x:Int):=fS (kJ _) (iz _) (up.imp fun a=>by lia)
 show (aF (Nd r)).bind _=_
 rw [c]
 show (if (r.map fun x:Nat=>(x:Int)).length < 64 then some ((.lst ((srt ((r.map fun x:Nat=>(x:Int)).foldl met [])).map .int),.u):L3.D × Fl) else none)=_
 rw [if_pos (by rw [Fh];lia),m,st,FQ]
 rfl
theorem BM (r:List Nat):eqX (.lst (Nd r)) (.lst (Nd r))=some (.bl true,.z):=by
 obtain ⟨qs,e1,b,c,d⟩:=Cg (fun i:Nat=>(i:Int)) r
 have a:pyD (.lst (Nd r))=some (.list qs):=by unfold pyD;rw [e1];rfl
 exact vE rfl a (by simp [PyData.canLay0,b]) (by simp [PyData.depth];lia)
theorem qd {α:Type} {bnd:L3.D->Sto->Option Sto} {b:SM} (D:α->L3.D) (t:α->Bool) (P:Sto->Prop) {r:L3.D} {f:Fl}:∀ {xs:List α} {ρ:Sto},P ρ->(∀ x ∈ xs,∀ ρ,P ρ->∃ ρ1 ρ2,bnd (D x) ρ=some ρ1/\b ρ1=some (.ok (if t x=true then .nx else .rt r f),ρ2)/\P ρ2)->∃ ρ',cF bnd b (xs.map D) ρ=some (.ok (if xs.all t=true then .nx else .rt r f),ρ')/\P ρ'
 | [],ρ,h0,_=>⟨ρ,rfl,h0⟩
 | x :: xs,ρ,h0,hs=>by
  obtain ⟨ρ1,ρ2,e1,a,h1⟩:=hs x E6 ρ h0
  rw [Fu,List.all_cons]
  cases c:t x with
  | true =>
   rw [c] at a
   obtain ⟨ρ',d,h3⟩:=qd D t P (xs:=xs) (ρ:=ρ2) h1 fun y e=>hs y (E7 _ e)
   exact ⟨ρ',yZ e1 a (by rw [Bool.true_and];exact d),h3⟩
  | false =>
   rw [c] at a
   exact ⟨ρ2,fl_rt e1 a,h1⟩
theorem qR (i:Int):ib [(.int i,.z)]=some (.ok (.bl true,.z),[(.int i,.z)]):=by kernel_rfl
theorem o6 {n:Nat} {r:List Nat} (h:Ris n r) (m:n<=24):fF [(.tup (Nd r),.z),(.int (n:Int),.z)]=some (.ok (.bl true,.z),[(.tup (Nd r),.z),(.int (n:Int),.z)]):=by
 have o:=h.len
 obtain ⟨τ',e,a,rfl⟩:=bI (bnd:=aj 0) (c:=fB) (elt:=dU) (fun τ=>∃ a,τ=[a]) (fun i:Nat=>L3.D.int (i:Int)) (fun _=>true) (fun _=>.bl true) (xs:=r) (τ:=[none]) ⟨none,rfl⟩ (by
  rintro k g τ ⟨a,rfl⟩
  have w:=qR (k:Int)
  exact ⟨[some (.int (k:Int),.z)],_,rfl,rfl,(fun h=>by cases h),fun _=>⟨.val (.bl true) .z,[some (.int (k:Int),.z)],(.bl true,.z),_,by unfold dU;(nomatch [w]),rfl,rfl,_,rfl⟩⟩)
 rw [FO.mpr (fun _ _=>rfl)] at e
 have a1:=EY (fun _:Nat=>true) r
 rw [List.all_eq_true.mpr (fun _ _=>rfl)] at a1
 have e1:iq [some (.tup (Nd r),.z),some (.int (n:Int),.z)]=some (.ok (.val (.lst (r.map fun _=>.bl true)) .u),[some (.tup (Nd r),.z),some (.int (n:Int),.z)]):=bp (rs:=[.pl 0]) (ρ1:=[some (.tup (Nd r),.z),some (.int (n:Int),.z)]) (ρ2:=[some (.tup (Nd r),.z),some (.int (n:Int),.z)]) rfl e (by rw [Fh];lia) rfl
 obtain ⟨τ2,f,v,rfl⟩:=bI (bnd:=aj 0) (c:=dW) (elt:=ir) (fun τ=>∃ a,τ=[a,some (.int (n:Int),.z)]) (fun i:Nat=>L3.D.int (i:Int)) (fun _=>false) (fun _=>.non) (xs:=r) (τ:=[none,some (.int (n:Int),.z)]) ⟨none,rfl⟩ (by
  rintro k g τ ⟨a,rfl⟩
  have lt:=h.lt k g
  have j:ltI (.int (k:Int)) (.int 0)=some (.bl false,.z):=by simp [cT]
  have c1:geI (.int (k:Int)) (.int (n:Int))=some (.bl false,.z):=by simp [cT];lia
  refine ⟨[some (.int (k:Int),.z),some (.int (n:Int),.z)],[some (.int (k:Int),.z),some (.int (n:Int),.z)],rfl,?_,fun _=>⟨_,rfl⟩,fun h=>by cases h⟩
  unfold dW
  refine p9 (b:=false) (ρ1:=[some (.int (k:Int),.z),some (.int (n:Int),.z)]) ?_ rfl ?_
  ·exists j
  ·(exists c1))
 rw [List.filter_eq_nil_iff.mpr (fun _ _=>by decide)] at f
 have l:ip [some (.tup (Nd r),.z),some (.int (n:Int),.z)]=some (.ok (.val (.lst []) .u),[some (.tup (Nd r),.z),some (.int (n:Int),.z)]):=bp (rs:=[.pl 0]) (ρ1:=[some (.tup (Nd r),.z),some (.int (n:Int),.z)]) (ρ2:=[some (.tup (Nd r),.z),some (.int (n:Int),.z)]) rfl f (by rw [Fh];lia) rfl
 have ss:=ss_is h m
 have li:Ep [.tup (Nd r)]=some (.lst (Nd r),.u):=rfl
 have eq:=BM r
 have z:neX (.lst []) (.lst [])=some (.bl false,.z):=by kernel_rfl
 have d:jB "tuple" (.tup (Nd r))=some (.bl true,.z):=rfl
 generalize L3.D.lst (Nd r)=RL at *
 generalize L3.D.tup (Nd r)=R at *
 generalize L3.D.int (n:Int)=N at *
 apply aW (ρ:=[some (R,.z),some (N,.z)]) (ρ1:=[some (R,.z),some (N,.z)]) rfl rfl
 ·unfold lg
  apply ak (ρ1:=[some (R,.z),some (N,.z)])
  ·refine dO (b:=false) (p9 (b:=false) (ρ1:=[some (R,.z),some (N,.z)]) ?_ rfl ?_) rfl rfl
   ·exact lu (l6 (i_un (bd rfl) rfl d) rfl)
   ·exact lu (l6 (bh (av e1 a8) rfl a1) rfl)
  apply ak (ρ1:=[some (R,.z),some (N,.z)])
  ·exact dO (b:=false) (l6 (jf l rfl rfl rfl z) rfl) rfl rfl
  ·apply dA
   ·exists ss,li,eq
   ·rfl
 ·rfl
theorem Db {ps:List Pt} (g:GoodSh ps) {i j k:Nat} (h1:i < ps.length) (h2:j < ps.length) (h3:k < ps.length):oI [(Shd ps,.z),(.int i,.z),(.int j,.z),(.int k,.z)]=some (.ok (.bl (decide (aS (bC ps i) (bC ps j) (bC ps k) > 0)),.z),[(Shd ps,.z),(.int i,.z),(.int j,.z),(.int k,.z)]):=by
 have s:=Small.sub (fg g.small h1) (fg g.small h2)
 have b:=o9 (bC ps i) (bC ps j) (bC ps k) s.1 s.2
 have a1:=jm h1
 have a2:=jm h2
 have a:=jm h3
 generalize bC ps i=p at *
 generalize bC ps j=q at *
 generalize bC ps k=r at *
 have z:gtI (.int (aS p q r)) (.int 0)=some (.bl (decide (aS p q r > 0)),.z):=rfl
 generalize Shd ps=H at *
 generalize decide (aS p q r > 0)=B at *
 generalize aS p q r=M at *
 generalize Pd p=p at *
 generalize Pd q=q at *
 generalize Pd r=r at *
 apply aW (ρ:=[some (H,.z),some (.int i,.z),some (.int j,.z),some (.int k,.z)]) (ρ1:=[some (H,.z),some (.int i,.z),some (.int j,.z),some (.int k,.z)]) rfl rfl
 ·apply dA
  ·nomatch [b],[a1,a2,a,z]
  ·rfl
 ·rfl
def way (b:Bool):Int:=if b then 1 else -1
theorem f_way (ps:List Pt) (i j k:Nat) (b:Bool):decide (decide (aS (bC ps i) (bC ps j) (bC ps k) > 0)=b)=decide ((sgn ps).f i j k=way b):=by
 show _=decide ((if 0 < aS (bC ps i) (bC ps j) (bC ps k) then (1:Int) else -1)=way b)
 by_cases h:0 < aS (bC ps i) (bC ps j) (bC ps k)
 ·rw [if_pos h,Fv (show aS (bC ps i) (bC ps j) (bC ps k) > 0 from h)]
  cases b <;> rfl
 ·rw [if_neg h,Fw (show ¬ aS (bC ps i) (bC ps j) (bC ps k) > 0 from h)]
  cases b <;> rfl
theorem lj (ps:List Pt):dz [Shd ps]=some (.int (ps.length:Int),.z):=by simp [l5,c1]
theorem sA {ps:List Pt} (g:GoodSh ps) {row:List Nat} (h:Ris ps.length row) {k:Nat} (c:k+2 < row.length) {b:Bool}:cn [some (Shd ps,.z),some (.tup (Nd row),.z),some (.bl b,.z),some (.int (k:Int),.z)]=some (.ok (if decide ((sgn ps).f (el row k) (el row (k+1)) (el row (k+2))=way b)=true then .nx else .rt (.bl false) .z),[some (Shd ps,.z),some (.tup (Nd row),.z),some (.bl b,.z),some (.int (k:Int),.z)]):=by
 have f:=Db g (h.lt _ (og (L:=row) (i:=k) (by lia))) (h.lt _ (og (L:=row) (i:=k+1) (by lia))) (h.lt _ (og (L:=row) (i:=k+2) (by lia)))
 have s0:=qJ (r:=row) (i:=k) (by lia)
 have s1:aB (.tup (Nd row)) (.int ((k:Int)+1))=some (.int (el row (k+1)),.z):=qJ (r:=row) (i:=k+1) (by lia)
 have s2:aB (.tup (Nd row)) (.int ((k:Int)+2))=some (.int (el row (k+2)),.z):=qJ (r:=row) (i:=k+2) (by lia)
 have a:=f_way ps (el row k) (el row (k+1)) (el row (k+2)) b
 rw [<- a]
 generalize decide (aS (bC ps (el row k)) (bC ps (el row (k+1))) (bC ps (el row (k+2))) > 0)=u at *
 have ne:neX (.bl u) (.bl b)=some (.bl (!decide (u=b)),.z):=rfl
 generalize Shd ps=H at *
 generalize L3.D.tup (Nd row)=R at *
 unfold cn
 cases hd:decide (u=b) with
 | true =>
  rw [hd] at ne
  refine dO (b:=false) ?_ rfl rfl
  nomatch [f],[s0,s1,s2,ne]
 | false =>
  rw [hd] at ne
  refine j7 (b:=true) ?_ rfl (dA i_c rfl)
  nomatch [f],[s0,s1,s2,ne]
set_option tactic.hygienic true in
theorem qS {ps:List Pt} (g:GoodSh ps) {row:List Nat} (h:Ris ps.length row) (h2:2<=row.length) {b:Bool}:eO [(Shd ps,.z),(.tup (Nd row),.z),(.bl b,.z)]=some (.ok (.bl (rb (sgn ps) row (way b)),.z),[(Shd ps,.z),(.tup (Nd row),.z),(.bl b,.z)]):=by
 have n:=g.most
 have o:=h.len
 have l:=o6 h (by lia)
 have ln:=lj ps
 have c:dz [.tup (Nd row)]=some (.int (row.length:Int),.z):=by simp [l5,c1]
 have c2:ltI (.int (row.length:Int)) (.int 2)=some (.bl false,.z):=by simp [cT];lia
 have j:d8 [.int ((row.length:Int) - 2)]=some (bg 0 (row.length - 2)):=hE (by lia) (by lia)
 obtain ⟨ρ',e,v,rfl⟩:=qd (bnd:=aj 3) (b:=cn) (fun i:Nat=>L3.D.int (0+(i:Int))) (fun k=>decide ((sgn ps).f (el row k) (el row (k+1)) (el row (k+2))=way b)) (fun ρ=>∃ v,ρ=[some (Shd ps,.z),some (.tup (Nd row),.z),some (.bl b,.z),v]) (r:=.bl false) (f:=.z) (xs:=List.range (row.length - 2)) (ρ:=[some (Shd ps,.z),some (.tup (Nd row),.z),some (.bl b,.z),none]) ⟨none,rfl⟩ (by
  rintro k m ρ ⟨v,rfl⟩
  rw [List.mem_range] at m
  rw [Int.zero_add]
  exact ⟨_,_,rfl,sA g h (k:=k) (by lia),_,rfl⟩)
 have a:(List.range (row.length - 2)).all (fun k=>decide ((sgn ps).f (el row k) (el row (k+1)) (el row (k+2))=way b))=rb (sgn ps) row (way b):=rfl
 rw [a] at e
 have d:cF (aj 3) cn (bg 0 (row.length - 2)) [some (Shd ps,.z),some (.tup (Nd row),.z),some (.bl b,.z),none]=some (.ok (if rb (sgn ps) row (way b)=true then .nx else .rt (.bl false) .z),[some (Shd ps,.z),some (.tup (Nd row),.z),some (.bl b,.z),v]):=e
 generalize rb (sgn ps) row (way b)=B at *
 generalize Shd ps=H at *
 generalize L3.D.tup (Nd row)=R at *
 generalize L3.D.int (ps.length:Int)=N at *
 generalize (row.length:Int)=M at *
 apply aW (ρ:=[some (H,.z),some (R,.z),some (.bl b,.z),none]) (ρ1:=[some (H,.z),some (R,.z),some (.bl b,.z),v]) rfl rfl
 ·unfold js
  apply ak (ρ1:=[some (H,.z),some (R,.z),some (.bl b,.z),none])
  ·refine dO (b:=false) (p9 (b:=false) (ρ1:=[some (H,.z),some (R,.z),some (.bl b,.z),none]) ?_ rfl ?_) rfl rfl
   ·exact lu (l6 (aq l (av (bd rfl) (av (bh (av (bd rfl) a8) rfl ln) a8)) rfl rfl rfl) rfl)
   ·exists c,c2
  cases B with
  | true =>
   apply ak (ρ1:=[some (H,.z),some (R,.z),some (.bl b,.z),v])
   ·apply fM
    ·(repeat' (first | with_reducible apply dN (h3:=j) | infer_instance | exact c | eq_refl))
    ·rfl
    ·exact d
   ·exact dA i_c rfl
  | false =>
   apply kO
   apply fM
   ·(repeat' (first | with_reducible apply dN (h3:=j) | infer_instance | exact c | eq_refl))
   ·rfl
   ·exact d
 ·rfl
abbrev k2 (i j:Nat):List Key:=[.inl (i:Int),.inl (j:Int)]
theorem Ev {i j a b:Nat} (h:k2 i j=k2 a b):i=a/\j=b:=by
 simp only [k2,List.cons.injEq,Sum.inl.injEq,and_true] at h
 lia
theorem yV (kvs:List (List Key × L3.D)) (k b:List Key) (v:L3.D):dD (fP kvs k v) b=if b=k then some v else dD kvs b:=by
 unfold fP
 by_cases c:(kvs.any fun a=>decide (a.1=k))=true
 ·rw [if_pos c]
  induction kvs with
  | nil=>simp at c
  | cons p r ih =>
   unfold dD at *
   rw [Fu,List.find?_cons,List.find?_cons]
   by_cases h1:p.1=k
   ·by_cases h2:b=k
    ·simp [h1,h2]
    ·have h3:¬ (k=b):=fun e=>h2 e.symm
     simp only [h1,if_pos,decide_eq_true_eq,h3,decide_false,if_neg h2]
     by_cases f:(r.any fun a=>decide (a.1=k))=true
     ·have:=ih f
      simpa [h2] using this
     ·have h:r.map (fun a=>if a.1=k then (a.1,v) else a)=r:=by
       conv=>rhs;rw [<- List.map_id r]
       refine FR fun x d=>?_
       have:¬ x.1=k:=fun e=>f (List.any_eq_true.mpr ⟨x,d,Fv e⟩)
       simp [this]
      rw [h]
   ·have f:(r.any fun a=>decide (a.1=k))=true:=by simpa [h1] using c
    have:=ih f
    simp only [h1,if_false]
    by_cases g:p.1=b
    ·have i:¬ (b=k):=fun e=>h1 (g.trans e)
     simp [g,i]
    ·simp only [g,decide_false]
     exact this
 ·rw [if_neg c]
  have j:∀ x ∈ kvs,¬ x.1=k:=fun x d e=>c (List.any_eq_true.mpr ⟨x,d,Fv e⟩)
  unfold dD
  rw [List.find?_append]
  by_cases h2:b=k
  ·subst h2
   have:kvs.find? (fun a=>decide (a.1=b))=none:=List.find?_eq_none.mpr fun x d=>by simpa using j x d
   simp [this]
  ·have h3:¬ (k=b):=fun e=>h2 e.symm
   simp [h2,h3]
theorem AG (kvs:List (List Key × L3.D)) (k:List Key) (v:L3.D):(fP kvs k v).length<=kvs.length+1:=by
 unfold fP
 split <;> simp
theorem AF {kvs:List (List Key × L3.D)} {k:List Key} {v:L3.D} {x:List Key × L3.D} (h:x ∈ fP kvs k v):x ∈ kvs\/x=(k,v):=by
 unfold fP at h
 split at h
 ·obtain ⟨y,a,rfl⟩:=Fo.mp h
  by_cases e:y.1=k
  ·rw [if_pos e,<- e];exact .inr rfl
  ·rw [if_neg e];exact .inl a
 ·rcases Ff.mp h with h | h
  ·exact .inl h
  ·exact .inr (FH.mp h)
theorem n9 {kvs:List (List Key × L3.D)} {k:List Key} {d:L3.D} (h:dD kvs k=some d):(k,d) ∈ kvs:=by
 unfold dD at h
 obtain ⟨p,h1,rfl⟩:=E9.mp h
 have h2:=List.find?_some h1
 have h3:p.1=k:=by simpa using h2
 rw [<- h3]
 exact List.mem_of_find?_eq_some h1
theorem C0 {kvs:List (List Key × L3.D)} {i j:Nat} {d:L3.D} (h:dD kvs (k2 i j)=some d):aB (.dt kvs) (.tup [.int i,.int j])=some (d,.z):=by
 show j8 (.dt kvs) (.tup [.int i,.int j])=_
 show (dD kvs (k2 i j)).map (fun d=>(d,Fl.z))=_
 rw [h];rfl
theorem set2 {kvs:List (List Key × L3.D)} {i j:Nat} {d:L3.D} (h:kvs.length < 16777216):uJ (.dt kvs) [.tup [.int i,.int j],d]=some (.dt (fP kvs (k2 i j) d),.non):=by
 show (if kvs.length < 16777216 then some (L3.D.dt (fP kvs (k2 i j) d),L3.D.non) else none)=_
 rw [if_pos h]
theorem fy (a b:Int):eqX (.int a) (.int b)=some (.bl (decide (a=b)),.z):=rfl
structure TbP (kvs:List (List Key × L3.D)) (n:Nat) (f:Nat->Nat->Int) (S:Nat->Nat->Prop) (c:Nat):Prop where
 all:∀ kv ∈ kvs,∃ i j,i < j/\j < n/\kv=(k2 i j,.int (f i j))
 get:∀ i j,S i j->dD kvs (k2 i j)=some (.int (f i j))
 len:kvs.length<=c
theorem TbP.put {kvs:List (List Key × L3.D)} {n:Nat} {f:Nat->Nat->Int} {S g:Nat->Nat->Prop} {c:Nat} (h:TbP kvs n f S c) {i j:Nat} (h1:i < j) (h2:j < n) (m:∀ a b,g a b->S a b\/(a=i/\b=j)):TbP (fP kvs (k2 i j) (.int (f i j))) n f g (c+1) where
 all:=fun k d=>by
  rcases AF d with d | rfl
  ·exact h.all k d
  ·exact ⟨i,j,h1,h2,rfl⟩
 get:=fun a b l=>by
  rw [yV]
  by_cases e:k2 a b=k2 i j
  ·obtain ⟨rfl,rfl⟩:=Ev e
   rw [if_pos rfl]
  ·rw [if_neg e]
   rcases m a b l with h' | ⟨rfl,rfl⟩
   ·exact h.get a b h'
   ·exact absurd rfl e
 len:=by have:=AG kvs (k2 i j) (.int (f i j));have:=h.len;lia
theorem TbP.mono {kvs:List (List Key × L3.D)} {n:Nat} {f:Nat->Nat->Int} {S d:Nat->Nat->Prop} {c e:Nat} (h:TbP kvs n f S c) (j:∀ a b,d a b->S a b) (i:c<=e):TbP kvs n f d e:=⟨h.all,fun a b g=>h.get a b (j a b g),FN h.len i⟩
def mx1 (l:List Int):Int:=(fK l).getD 1
theorem Bi:mx1 []=1:=rfl
theorem i5 {l:List Int} (h:l ≠ []):mx1 l ∈ l:=by
 cases l with
 | nil=>exact absurd rfl h
 | cons x xs=>exact (ft xs x).1
theorem rC {l:List Int} {n:Int} (h:n ∈ l):n<=mx1 l:=by
 cases l with
 | nil=>cases h
 | cons x xs=>exact (ft xs x).2 n h
theorem pK {l:List Int} (h:l ≠ []):fK l=some (mx1 l):=by
 cases l with
 | nil=>exact absurd rfl h
 | cons x xs=>rfl
theorem x5 {l:List Int} (h:∀ n ∈ l,1<=n):1<=mx1 l:=by
 cases l with
 | nil=>exact Int.le_refl 1
 | cons x xs=>exact h _ (i5 (by simp))
section
variable (w:Nat->Nat->Nat->Bool)
def EJ:Nat->Nat->Nat->Int
 | 0,_,_=>2
 | f+1,i,j=>1+mx1 (((List.range i).filter fun h=>w h i j).map fun h=>EJ f h i)
theorem zf:∀ (f i j:Nat),2<=EJ w f i j
 | 0,_,_=>Int.le_refl 2
 | f+1,i,j=>by
  show 2<=1+mx1 _
  have:=x5 (l:=((List.range i).filter fun h=>w h i j).map fun h=>EJ w f h i) fun n a=>by
   obtain ⟨k,_,rfl⟩:=Fo.mp a
   have:=zf f k i
   lia
  lia
def ks (n j:Nat):List Nat:=(List.range (n - (j+1))).map fun d=>j+1+d
theorem mem_ks {n j k:Nat}:k ∈ ks n j ↔ j < k/\k < n:=by
 unfold ks
 constructor
 ·intro h
  obtain ⟨d,hd,rfl⟩:=Fo.mp h
  have:=List.mem_range.mp hd
  lia
 ·intro h
  exact Fo.mpr ⟨k - (j+1),List.mem_range.mpr (by lia),by lia⟩
def onF (n:Nat):Nat->Nat->Nat->Int
 | 0,_,_=>2
 | f+1,i,j=>1+mx1 (((ks n j).filter fun k=>w i j k).map fun k=>onF n f j k)
def onE (n i j:Nat):Int:=onF w n (n - (j+1)) i j
theorem nQ (n:Nat):∀ (f a i j:Nat),n - (j+1)<=f->n - (j+1)<=a->onF w n f i j=onF w n a i j
 | 0,0,_,_,_,_=>rfl
 | 0,a+1,i,j,h,_=>by
  have e:ks n j=[]:=by unfold ks;rw [show n - (j+1)=0 by lia];rfl
  unfold onF
  rw [e]
  rfl
 | f+1,0,i,j,_,h=>by
  have e:ks n j=[]:=by unfold ks;rw [show n - (j+1)=0 by lia];rfl
  unfold onF
  rw [e]
  rfl
 | f+1,a+1,i,j,h,h'=>by
  unfold onF
  congr 2
  refine FR fun k b=>?_
  have b:=mem_ks.mp (FJ.mp b).1
  exact nQ n f a j k (by lia) (by lia)
theorem rj (n i j:Nat):onE w n i j=1+mx1 (((ks n j).filter fun k=>w i j k).map fun k=>onE w n j k):=by
 have h:onE w n i j=onF w n (n - (j+1)+1) i j:=nQ w n _ _ i j (Fq _) (Nat.le_succ _)
 rw [h]
 show 1+mx1 (((ks n j).filter fun k=>w i j k).map fun k=>onF w n (n - (j+1)) j k)=_
 congr 2
 refine FR fun k a=>?_
 have a:=mem_ks.mp (FJ.mp a).1
 exact nQ w n _ _ j k (by lia) (Fq _)
theorem tz (n:Nat):∀ (f i j:Nat),2<=onF w n f i j
 | 0,_,_=>Int.le_refl 2
 | f+1,i,j=>by
  show 2<=1+mx1 _
  have:=x5 (l:=((ks n j).filter fun k=>w i j k).map fun k=>onF w n f j k) fun b a=>by
   obtain ⟨k,_,rfl⟩:=Fo.mp a
   have:=tz n f j k
   lia
  lia
theorem tD (n i j:Nat):2<=onE w n i j:=tz w n _ i j
theorem pD {n i j k:Nat} (hw:w i j k=true) (b:j < k) (a:k < n):onE w n j k+1<=onE w n i j:=by
 rw [rj w n i j]
 have:=rC (l:=((ks n j).filter fun k=>w i j k).map fun k=>onE w n j k) (n:=onE w n j k) (Fo.mpr ⟨k,FJ.mpr ⟨mem_ks.mpr ⟨b,a⟩,hw⟩,rfl⟩)
 lia
inductive Pth (n:Nat):Nat->Nat->Nat->Nat->Nat->Prop
 | nil {i j:Nat}:i < j->j < n->Pth n 0 i j i j
 | cons {m i j k i' j':Nat}:i < j->w i j k=true->Pth n m j k i' j'->Pth n (m+1) i j i' j'
variable {w}
theorem Pth.lt {n m i j d c:Nat} (h:Pth w n m i j d c):i < j/\j < n/\d < c/\c < n:=by
 induction h with
 | nil a b=>exact ⟨a,b,a,b⟩
 | cons a _ _ ih=>exact ⟨a,by lia,ih.2.2⟩
end
theorem gi {α:Type} (f:α->Int):∀ xs:List α,aF (xs.map fun x=>L3.D.int (f x))=some (xs.map f)
 | []=>rfl
 | x :: xs=>by simp only [Fu,aF,gi f xs,FE]
def wv (ps:Sg) (way:Int) (h i j:Nat):Bool:=decide (trn ps h i j=way)
theorem Br {α:Type} (xs:List α) (f:α->Int):Bs (.lst (xs.map fun x=>L3.D.int (f x))) (.int 1)=some (.int (mx1 (xs.map f)),.z):=by
 show (aF (xs.map fun x=>L3.D.int (f x))).map _=_
 rw [gi]
 show some _=_
 unfold mx1
 cases h:fK (xs.map f) <;> simp [h]
theorem At {a:Int} (c:-1000<=a/\a<=1000) {n:Nat} (d:(a+1).toNat=n):qW [.int a,.int (-1),.int (-1)]=some (iU a n):=by
 have lm:bY a=true:=Fv (by lia)
 have b:bY (-1)=true:=Fv (by lia)
 show (if (bY a && bY (-1) && ((-1:Int) == -1))=true then some (iU a (a - (-1)).toNat) else none)=_
 rw [lm,b,show (a - (-1)).toNat=n by lia]
 rfl
theorem xq {hi:Int} {n i:Nat} {d:L3.D} (h:(iU hi n)[i]?=some d):i < n/\d=.int (hi - i):=by
 unfold iU at h
 rw [Fp] at h
 obtain ⟨k,a,b⟩:=E9.mp h
 obtain ⟨c,e⟩:=Fi.mp a
 rw [List.getElem_range] at e
 subst e
 rw [List.length_range] at c
 exact ⟨c,b.symm⟩
theorem xp {hi:Int} {n:Nat}:(iU hi n).length=n:=by unfold iU;simp
theorem yG (n j:Nat):bg ((j:Int)+1) (n - (j+1))=(ks n j).map fun k:Nat=>L3.D.int (k:Int):=by
 unfold bg ks
 rw [FQ]
 refine FR fun d _=>?_
 show L3.D.int _=L3.D.int _
 congr 1
section
variable {ps:Sg} {way:Int} {T kvs:List (List Key × L3.D)} {i j n:Nat}
abbrev owS (n:Nat) (way:Int) (T kvs:List (List Key × L3.D)) (a b:Option (L3.D × Fl)):Sto:=[some (.dt T,.u),some (.int (n:Int),.z),some (.int way,.z),some (.dt kvs,.u),a,b]
set_option tactic.hygienic true in
theorem A0 (m:n=ps.length) (g:lL ps T) (l:j < n) (hi:i < j) (h:n<=24) (f:∀ k,j < k->k < n->dD kvs (k2 j k)=some (.int (onE (wv ps way) n j k))) :
  cg (owS n way T kvs (some (.int i,.z)) (some (.int j,.z)))=some (.ok (.val (.lst (((ks n j).filter fun k=>wv ps way i j k).map fun k=>L3.D.int (onE (wv ps way) n j k))) .u),owS n way T kvs (some (.int i,.z)) (some (.int j,.z))):=by
 obtain ⟨τ',e,a,rfl⟩:=bI (bnd:=aj 0) (c:=bE) (elt:=bD) (fun τ=>∃ a,τ=[a,some (.dt kvs,.u),some (.int j,.z),some (.int way,.z),some (.dt T,.u),some (.int i,.z)]) (fun k:Nat=>L3.D.int (k:Int)) (fun k=>wv ps way i j k) (fun k=>L3.D.int (onE (wv ps way) n j k)) (xs:=ks n j) (τ:=[none,some (.dt kvs,.u),some (.int j,.z),some (.int way,.z),some (.dt T,.u),some (.int i,.z)]) ⟨none,rfl⟩ (by
  rintro k b τ ⟨a,rfl⟩
  have b:=mem_ks.mp b
  have s3:=sub3 (g i j k hi b.1 (by lia))
  have s2:=C0 (f k b.1 b.2)
  have c:bE [some (.int k,.z),some (.dt kvs,.u),some (.int j,.z),some (.int way,.z),some (.dt T,.u),some (.int i,.z)]=some (.ok (wv ps way i j k),[some (.int k,.z),some (.dt kvs,.u),some (.int j,.z),some (.int way,.z),some (.dt T,.u),some (.int i,.z)]):=by
   unfold bE
   exists s3,fy _ _
  have el:bD [some (.int k,.z),some (.dt kvs,.u),some (.int j,.z),some (.int way,.z),some (.dt T,.u),some (.int i,.z)]=some (.ok (.val (.int (onE (wv ps way) n j k)) .z),[some (.int k,.z),some (.dt kvs,.u),some (.int j,.z),some (.int way,.z),some (.dt T,.u),some (.int i,.z)]):=by
   unfold bD
   exists s2
  exact ⟨_,_,rfl,c,fun _=>⟨_,rfl⟩,fun _=>⟨_,_,_,_,el,rfl,rfl,_,rfl⟩⟩)
 rw [<- yG] at e
 have d:eZ [.int ((j:Int)+1),.int (n:Nat)]=some (bg ((j:Int)+1) (n - (j+1))):=iV (by lia) (by lia) (by lia)
 have im:aZ eZ (ac (ah bM (ae 5) (mC (.int 1))) (ac (ae 1) ai)) (owS n way T kvs (some (.int i,.z)) (some (.int j,.z)))=some (.ok ([],bg ((j:Int)+1) (n - (j+1))),owS n way T kvs (some (.int i,.z)) (some (.int j,.z))):=by (repeat' (first | with_reducible apply dN (h3:=d) | infer_instance | eq_refl))
 exact bp (rs:=[]) im e (by rw [cO];lia) rfl
theorem A1 (f:n=ps.length) (a:lL ps T) (e:j < n) (hi:i < j) (b:n<=24) (g:∀ k,j < k->k < n->dD kvs (k2 j k)=some (.int (onE (wv ps way) n j k))) (d:kvs.length < 16777216) :
  bG (owS n way T kvs (some (.int i,.z)) (some (.int j,.z)))=some (.ok .nx,owS n way T (fP kvs (k2 i j) (.int (onE (wv ps way) n i j))) (some (.int i,.z)) (some (.int j,.z))):=by
 have c:=A0 f a e hi b g
 have v:ah bM (mC (.int 1)) (ah Bs cg (mC (.int 1))) (owS n way T kvs (some (.int i,.z)) (some (.int j,.z)))=some (.ok (.val (.int (onE (wv ps way) n i j)) .z),owS n way T kvs (some (.int i,.z)) (some (.int j,.z))):=by
  rw [rj]
  exact jf i_c (jf c i_c rfl rfl (Br _ _)) rfl rfl rfl
 unfold bG
 exact yQ (i:=3) (ρ1:=owS n way T kvs (some (.int i,.z)) (some (.int j,.z))) (ρ2:=owS n way T kvs (some (.int i,.z)) (some (.int j,.z))) (ρ3:=owS n way T kvs (some (.int i,.z)) (some (.int j,.z))) v rfl (by (nofun)) rfl rfl (set2 d)
set_option tactic.hygienic true in
theorem Dc (q:n=ps.length) (o:lL ps T) (p:n<=24) (h2:2<=n):∃ kvs,cw [(.dt T,.u),(.int (n:Int),.z),(.int way,.z)]=some (.ok (.dt kvs,.u),[(.dt T,.u),(.int (n:Int),.z),(.int way,.z)])/\TbP kvs n (onE (wv ps way) n) (fun a b=>a < b/\b < n) 1000:=by
 have inner:∀ (i:Nat) (kvs:List (List Key × L3.D)) (v5:Option (L3.D × Fl)),i+1 < n->TbP kvs n (onE (wv ps way) n) (fun a b=>a < b/\b < n/\i < a) (25 * (n - i)) ->
   ∃ c g,bF (owS n way T kvs (some (.int i,.z)) v5)=some (.ok .nx,owS n way T c (some (.int i,.z)) g)/\TbP c n (onE (wv ps way) n) (fun a b=>a < b/\b < n/\i<=a) (25 * (n - i+1)):=by
  intro i kvs v5 hi tb
  obtain ⟨ρ',e,c,g,rfl,f⟩:=bS (bnd:=aj 5) (b:=bG) (fun m ρ=>∃ kvs v5,ρ=owS n way T kvs (some (.int i,.z)) v5/\TbP kvs n (onE (wv ps way) n) (fun a b=>a < b/\b < n/\(i < a\/(a=i/\b < i+1+m))) (25 * (n - i)+m)) (ds:=bg ((i:Int)+1) (n - (i+1))) (ρ:=owS n way T kvs (some (.int i,.z)) v5) (k:=0) ⟨kvs,v5,rfl,tb.mono (fun a b h=>by lia) (by lia)⟩ (by
   rintro m d ρ hd ⟨kvs,v5,rfl,tb⟩
   obtain ⟨hm,rfl⟩:=dn hd
   rw [Fz] at tb ⊢
   have b:=A1 (way:=way) (kvs:=kvs) (i:=i) (j:=i+1+m) q o (by lia) (by lia) p (fun k h1 h2=>tb.get (i+1+m) k ⟨by lia,by lia,.inl (by lia)⟩) (by have:=tb.len;lia)
   rw [show ((i+1+m:Nat):Int)=(i:Int)+1+m by lia] at b
   refine ⟨_,_,rfl,.inl b,_,_,rfl,?_⟩
   exact (tb.put (i:=i) (j:=i+1+m) (by lia) (by lia) (fun a b h=>by lia)).mono (fun a b h=>h) (by lia))
  rw [cO,Fz] at f
  have l:eZ [.int ((i:Int)+1),.int (n:Nat)]=some (bg ((i:Int)+1) (n - (i+1))):=iV (by lia) (by lia) (by lia)
  refine ⟨c,g,?_,f.mono (fun a b h=>by lia) (by lia)⟩
  unfold bF
  apply fM
  ·(repeat' (first | with_reducible apply dN (h3:=l) | infer_instance | eq_refl))
  ·rfl
  ·exact e
 obtain ⟨ρ',e,c,v4,v5,rfl,f⟩:=bS (bnd:=aj 4) (b:=bF) (fun m ρ=>∃ kvs v4 v5,ρ=owS n way T kvs v4 v5/\TbP kvs n (onE (wv ps way) n) (fun a b=>a < b/\b < n/\n - 1<=a+m) (25 * (m+2))) (ds:=iU ((n:Int) - 2) (n - 1)) (ρ:=owS n way T [] none none) (k:=0) ⟨[],none,none,rfl,⟨fun _ h=>(by cases h),fun a b h=>by lia,by simp⟩⟩ (by
  rintro m d ρ hd ⟨kvs,v4,v5,rfl,tb⟩
  obtain ⟨hm,rfl⟩:=xq hd
  rw [Fz] at tb ⊢
  obtain ⟨c,g,e,f⟩:=inner (n - 2 - m) kvs v5 (by lia) (tb.mono (fun a b h=>by lia) (by lia))
  rw [show ((n - 2 - m:Nat):Int)=(n:Int) - 2 - m by lia] at e
  exact ⟨_,_,rfl,.inl e,_,_,_,rfl,f.mono (fun a b h=>by lia) (by lia)⟩)
 rw [xp,Fz] at f
 have l:qW [.int ((n:Int) - 2),.int (-1),.int (-1)]=some (iU ((n:Int) - 2) (n - 1)):=At (by lia) (by lia)
 refine ⟨c,?_,f.mono (fun a b h=>by lia) (by lia)⟩
 apply aW (ρ:=[some (.dt T,.u),some (.int (n:Int),.z),some (.int way,.z),none,none,none]) rfl rfl
 ·apply ak (ρ1:=owS n way T [] none none)
  ·rfl
  ·apply ak
   ·apply fM
    ·(repeat' (first | with_reducible apply dN (h3:=l) | infer_instance | eq_refl))
    ·rfl
    ·exact e
   ·nofun
 ·rfl
end
theorem eG {P t:List Nat} {a:Nat} (h:a < P.length):el (P ++ t) a=el P a:=by
 simp [el,List.getD,List.getElem?_append,h]
theorem t6 {P t:List Nat} {a:Nat} (h:P.length<=a):el (P ++ t) a=el t (a - P.length):=by
 have:¬ a < P.length:=by lia
 simp [el,List.getD,List.getElem?_append,this]
theorem hV {L:List Nat} {m i:Nat} (h:i < m):el (L.take m) i=el L i:=by
 simp [el,List.getD,List.getElem?_take,h]
theorem EG {P r:List Nat} (c:P.length=r.length) (h:∀ a,a < P.length->el P a=el r a):P=r:=by
 refine List.ext_getElem? fun a=>?_
 by_cases b:a < P.length
 ·rw [fA b,fA (by lia),h a b]
 ·rw [List.getElem?_eq_none (by lia),List.getElem?_eq_none (by lia)]
structure Rw (w:Nat->Nat->Nat->Bool) (n:Nat) (r:List Nat):Prop where
 two:2<=r.length
 up:∀ a,a+1 < r.length->el r a < el r (a+1)
 lt:∀ a,a < r.length->el r a < n
 ok:∀ a,a+2 < r.length->w (el r a) (el r (a+1)) (el r (a+2))=true
section
variable {w:Nat->Nat->Nat->Bool} {n:Nat}
theorem Rw.pair {i j:Nat} (h1:i < j) (h2:j < n):Rw w n [i,j] where
 two:=Fq _
 up:=fun a b=>by
  have:a=0:=by simp at b;lia
  subst this;exact h1
 lt:=fun a b=>by
  have:a=0\/a=1:=by simp at b;lia
  rcases this with rfl | rfl
  ·show i < n;lia
  ·exact h2
 ok:=fun a b=>by simp at b;lia
theorem Rw.snoc {r:List Nat} {k:Nat} (h:Rw w n r) (h1:el r (r.length - 1) < k) (h2:k < n) (h3:w (el r (r.length - 2)) (el r (r.length - 1)) k=true):Rw w n (r ++ [k]):=by
 have h0:=h.two
 have c:el (r ++ [k]) r.length=k:=by rw [t6 (Fq _),Nat.sub_self];rfl
 refine ⟨by simp;lia,fun a b=>?_,fun a b=>?_,fun a b=>?_⟩
 ·simp at b
  by_cases e:a+1 < r.length
  ·rw [eG (by lia),eG e];exact h.up a e
  ·rw [eG (by lia),show a+1=r.length by lia,c,show a=r.length - 1 by lia];exact h1
 ·simp at b
  by_cases e:a < r.length
  ·rw [eG e];exact h.lt a e
  ·rw [show a=r.length by lia,c];exact h2
 ·simp at b
  by_cases e:a+2 < r.length
  ·rw [eG (by lia),eG (by lia),eG e];exact h.ok a e
  ·rw [eG (by lia),eG (by lia),show a+2=r.length by lia,c,show a=r.length - 2 by lia,show r.length - 2+1=r.length - 1 by lia];exact h3
theorem Rw.take {r:List Nat} {m:Nat} (h:Rw w n r) (h1:2<=m) (h2:m<=r.length):Rw w n (r.take m):=by
 have c:(r.take m).length=m:=by rw [FD];lia
 refine ⟨by lia,fun a b=>?_,fun a b=>?_,fun a b=>?_⟩
 ·rw [hV (by lia),hV (by lia)];exact h.up a (by lia)
 ·rw [hV (by lia)];exact h.lt a (by lia)
 ·rw [hV (by lia),hV (by lia),hV (by lia)];exact h.ok a (by lia)
theorem Rw.on {r:List Nat} (h:Rw w n r):∀ d a,a+2+d=r.length->2+(d:Int)<=onE w n (el r a) (el r (a+1))
 | 0,a,_=>tD w n _ _
 | d+1,a,e=>by
  have h1:=h.on d (a+1) (by lia)
  have h2:=pD (w:=w) (n:=n) (h.ok a (by lia)) (h.up (a+1) (by lia)) (h.lt (a+2) (by lia))
  rw [show a+1+1=a+2 from rfl] at h1
  lia
theorem Rw.short {r:List Nat} (h:Rw w n r):r.length<=n:=by
 have key:∀ a,a < r.length->a<=el r a:=fun a=>by
  induction a with
  | zero=>exact fun _=>Nat.zero_le _
  | succ a ih=>exact fun b=>by have:=ih (by lia);have:=h.up a b;lia
 have:=key (r.length - 1) (by have:=h.two;lia)
 have:=h.lt (r.length - 1) (by have:=h.two;lia)
 have:=h.two
 lia
def Bt (P r:List Nat):Prop:=(∀ a,a < P.length->el P a=el r a)\/∃ a,a < P.length/\a < r.length/\(∀ b,b < a->el P b=el r b)/\el P a < el r a
abbrev Zs (l:List Nat):List Int:=l.map fun x:Nat=>(x:Int)
theorem tN:∀ (a:Nat) (P r:List Nat),a < P.length->a < r.length->(∀ b,b < a->el P b=el r b)->el P a < el r a->HT.lexLt (Zs r) (Zs P)=false
 | _,[],_,h,_,_,_=>by cases h
 | _,_ :: _,[],_,h,_,_=>by cases h
 | 0,p :: P,x :: r,_,_,_,h=>by
  have h:p < x:=h
  show HT.lexLt ((x:Int) :: Zs r) ((p:Int) :: Zs P)=false
  rw [HT.lexLt_cons,if_neg (by lia)]
  exact Fw (by lia)
 | a+1,p :: P,x :: r,h1,h2,h3,h4=>by
  have e:p=x:=h3 0 (by lia)
  show HT.lexLt ((x:Int) :: Zs r) ((p:Int) :: Zs P)=false
  rw [HT.lexLt_cons,if_pos (by lia)]
  exact tN a P r (by simpa using h1) (by simpa using h2) (fun b c=>h3 (b+1) (by lia)) h4
theorem Bt.fin {P r:List Nat} (h:Bt P r) (b:P.length=r.length):HT.lexLt (Zs r) (Zs P)=false:=by
 rcases h with h | ⟨a,h1,h2,h3,c⟩
 ·rw [EG b h];exact eD _
 ·exact tN a P r h1 h2 h3 c
theorem Bt.step {P r:List Nat} {k:Nat} (h:Bt P r) (i:P.length < r.length) (l:(∀ a,a < P.length->el P a=el r a)->k<=el r P.length):Bt (P ++ [k]) r:=by
 have f:el (P ++ [k]) P.length=k:=by rw [t6 (Fq _),Nat.sub_self];rfl
 rcases h with h | ⟨a,h1,h2,h3,j⟩
 ·have:=l h
  by_cases e:k=el r P.length
  ·refine .inl fun a g=>?_
   simp at g
   by_cases d:a < P.length
   ·rw [eG d];exact h a d
   ·rw [show a=P.length by lia,f];exact e
  ·refine .inr ⟨P.length,by simp,i,fun b c=>by rw [eG c];exact h b c,by rw [f];lia⟩
 ·exact .inr ⟨a,by simp;lia,h2,fun b c=>by rw [eG (by lia)];exact h3 b c,by rw [eG h1];exact j⟩
theorem zF:∀ a b:List Nat,Zs a=Zs b->a=b
 | [],[],_=>rfl
 | [],_ :: _,h=>by cases h
 | _ :: _,[],h=>by cases h
 | x :: a,y :: b,h=>by
  simp only [Zs,Fu,List.cons.injEq] at h
  rw [zF a b h.2,show x=y by lia]
theorem zu {P Q:List Nat} {L m:Nat} (b:Rw w n P) (g:P.length=L) (j:∀ r,Rw w n r->r.length<=L) (c:∀ r,Rw w n r->r.length=L->HT.lexLt (Zs r) (Zs P)=false)
  (a:Rw w n Q) (d:Q.length=m) (f:∀ r,Rw w n r->r.length ≠ m+1) (i:∀ r,Rw w n r->r.length=m->HT.lexLt (Zs r) (Zs Q)=false):P=Q:=by
 have h1:=j Q a
 have h2:L=m:=by
  by_cases h:m < L
  ·have:=b.two
   have:=a.two
   exact absurd (by rw [FD];lia) (f (P.take (m+1)) (b.take (by lia) (by lia)))
  ·lia
 subst h2
 have e:=kE (i P b g) (c Q a d)
 exact zF _ _ e
end
theorem zx {xs:List L3.D} {a b:L3.D}:aB (.tup (xs ++ [a,b])) (.int (-2))=some (a,.z)/\aB (.tup (xs ++ [a,b])) (.int (-1))=some (b,.z):=by
 constructor
 ·refine eR ?_
  unfold L2.atI ixN
  rw [if_neg (by decide),if_pos (by simp;lia)]
  rw [show (-2+((xs ++ [a,b]).length:Int)).toNat=xs.length by simp;lia]
  simp
 ·refine eR ?_
  unfold L2.atI ixN
  rw [if_neg (by decide),if_pos (by simp;lia)]
  rw [show (-1+((xs ++ [a,b]).length:Int)).toNat=xs.length+1 by simp;lia]
  simp
theorem Ek {l:List Int} {b:Int} (h:∀ n ∈ l,n<=b) (a:1<=b):mx1 l<=b:=by
 cases l with
 | nil=>exact a
 | cons x xs=>exact h _ (i5 (by simp))
theorem xX (w:Nat->Nat->Nat->Bool) (n:Nat):∀ (f i j:Nat),onF w n f i j<=2+f
 | 0,_,_=>by simp [onF]
 | f+1,i,j=>by
  show 1+mx1 _<=_
  have:=Ek (l:=((ks n j).filter fun k=>w i j k).map fun k=>onF w n f j k) (b:=2+f) (fun c a=>by
   obtain ⟨k,_,rfl⟩:=Fo.mp a
   exact xX w n f j k) (by lia)
  lia
theorem Eb (w:Nat->Nat->Nat->Bool) (n i j:Nat):onE w n i j<=2+n:=by
 have:=xX w n (n - (j+1)) i j
 unfold onE
 lia
theorem Bm {α:Type} (xs:List α) (f:α->Int) (h:xs ≠ []):∃ x ∈ xs,tJ [.lst (xs.map fun x=>L3.D.int (f x))]=some (.int (f x),.z)/\∀ y ∈ xs,f x<=f y:=by
 have e:tJ [.lst (xs.map fun x=>L3.D.int (f x))]=((aF (xs.map fun x=>L3.D.int (f x))).bind fun ns=>(rP ns).map fun m=>((.int m,.z):L3.D × Fl)):=rfl
 rw [e,gi]
 cases xs with
 | nil=>exact absurd rfl h
 | cons y ys =>
  have hm:=(dP (ys.map f) (f y)).1
  obtain ⟨x,d,c⟩:=Fo.mp (show ((ys.map f).foldl (fun a b=>if b < a then b else a) (f y)) ∈ (y :: ys).map f from hm)
  refine ⟨x,d,by rw [c];rfl,fun z hz=>?_⟩
  rw [c]
  exact (dP (ys.map f) (f y)).2 _ (List.mem_map_of_mem (f:=f) hz)
section
variable {ps:Sg} {way:Int} {T kvs:List (List Key × L3.D)} {n:Nat} {L:Int}
def vl (a:List Key × L3.D):Int:=match a.2 with | .int v=>v | _=>0
def pk (a:List Key × L3.D):Int × Int:=match a.1 with | [.inl i,.inl j]=>(i,j) | _=>(0,0)
theorem zQ {f:Nat->Nat->Int} {c:Nat} (h2:2<=n) (tb:TbP kvs n f (fun a b=>a < b/\b < n) c):∃ L,pR [.dt kvs]=some (.int L,.z)/\(∀ i j,i < j->j < n->f i j<=L)/\∃ i j,i < j/\j < n/\f i j=L:=by
 have e1:kvs.map (·.2)=kvs.map fun g=>L3.D.int (vl g):=by
  refine FR fun g h=>?_
  obtain ⟨i,j,_,_,rfl⟩:=tb.all g h
  rfl
 have mem:∀ i j,i < j->j < n->f i j ∈ kvs.map vl:=fun i j h1 h2=>by
  have:=n9 (tb.get i j ⟨h1,h2⟩)
  exact Fo.mpr ⟨_,this,rfl⟩
 have d:kvs.map vl ≠ []:=fun e=>by
  have:=mem 0 1 (by lia) (by lia)
  rw [e] at this
  cases this
 refine ⟨mx1 (kvs.map vl),?_,fun i j h1 h2=>rC (mem i j h1 h2),?_⟩
 ·show ((aF (kvs.map (·.2))).bind fun ns=>(fK ns).map fun m=>((.int m,.z):L3.D × Fl))=_
  rw [e1,gi]
  show (fK (kvs.map vl)).map _=_
  rw [pK d]
  rfl
 ·obtain ⟨g,h,e⟩:=Fo.mp (i5 d)
  obtain ⟨i,j,h3,k,rfl⟩:=tb.all g h
  exact ⟨i,j,h3,k,e⟩
abbrev lrS (T:List (List Key × L3.D)) (n:Nat) (way:Int) (kvs:List (List Key × L3.D)) (L:Int) (a b c d:Option (L3.D × Fl)):Sto:=[some (.dt T,.u),some (.int (n:Int),.z),some (.int way,.z),some (.dt kvs,.u),some (.int L,.z),a,b,c,d]
theorem Bz {f:Nat->Nat->Int} {c:Nat} (B:c < 16777216) (tb:TbP kvs n f (fun a b=>a < b/\b < n) c) (w:∃ i j,i < j/\j < n/\f i j=L):∃ i j:Nat,i < j/\j < n/\f i j=L/\al tH (ac cD ai) (lrS T n way kvs L none none none none)=some (.ok (.val (.tup [.int i,.int j]) .z),lrS T n way kvs L none none none none)/\∀ a b,a < b->b < n->f a b=L->¬ (a < i\/(a=i/\b < j)):=by
 obtain ⟨τ',e,a,rfl⟩:=bI (bnd:=aj 0) (c:=bK) (elt:=eC) (fun τ=>∃ a,τ=[a,some (.int L,.z),some (.dt kvs,.l)]) (fun d:List Key × L3.D=>p6 d.1) (fun d=>decide (vl d=L)) (fun d=>p6 d.1) (xs:=kvs) (τ:=[none,some (.int L,.z),some (.dt kvs,.l)]) ⟨none,rfl⟩ (by
  rintro d g τ ⟨a,rfl⟩
  obtain ⟨i,j,h1,h2,rfl⟩:=tb.all d g
  have s2:=C0 (tb.get i j ⟨h1,h2⟩)
  have c:bK [some (.tup [.int i,.int j],.z),some (.int L,.z),some (.dt kvs,.l)]=some (.ok (decide (f i j=L)),[some (.tup [.int i,.int j],.z),some (.int L,.z),some (.dt kvs,.l)]):=by
   unfold bK
   exists s2,fy _ _
  exact ⟨_,_,rfl,c,fun _=>⟨_,rfl⟩,fun _=>⟨_,_,_,_,bd rfl,rfl,rfl,_,rfl⟩⟩)
 have im:n5 (ae 3) (lrS T n way kvs L none none none none)=some (.ok ([.pl 3],kvs.map fun d=>p6 d.1),lrS T n way kvs L none none none none):=rfl
 have t:cD (lrS T n way kvs L none none none none)=some (.ok (.val (.lst ((kvs.filter fun d=>decide (vl d=L)).map fun d=>p6 d.1)) .u),lrS T n way kvs L none none none none):=bp (rs:=[.pl 3]) (ρ2:=[some (.dt T,.u),some (.int (n:Int),.z),some (.int way,.z),some (.dt kvs,.l),some (.int L,.z),none,none,none,none]) im e (by rw [Fh];have:=tb.len;lia) rfl
 have y:(kvs.filter fun d=>decide (vl d=L)).map (fun d=>p6 d.1)=((kvs.filter fun d=>decide (vl d=L)).map pk).map iY:=by
  rw [FQ]
  refine FR fun d g=>?_
  obtain ⟨i,j,h1,h2,rfl⟩:=tb.all d (FJ.mp g).1
  rfl
 obtain ⟨o,p,h1,h2,h3⟩:=w
 have k:(k2 o p,L3.D.int (f o p)) ∈ kvs.filter fun d=>decide (vl d=L):=FJ.mpr ⟨n9 (tb.get o p ⟨h1,h2⟩),Fv h3⟩
 obtain ⟨m,hm⟩:∃ m,jy ((kvs.filter fun d=>decide (vl d=L)).map pk)=some m:=by
  cases h:(kvs.filter fun d=>decide (vl d=L)).map pk with
  | nil =>
   have:=List.mem_map_of_mem (f:=pk) k
   rw [h] at this
   cases this
  | cons x xs=>exact ⟨_,rfl⟩
 have low:=(jx hm).2
 obtain ⟨d,g,rfl⟩:=Fo.mp (jx hm).1
 obtain ⟨g,A⟩:=FJ.mp g
 obtain ⟨i,j,g1,g2,rfl⟩:=tb.all d g
 refine ⟨i,j,g1,g2,of_decide_eq_true A,?_,fun a b v r hf s=>?_⟩
 rotate_left
 ·have q:=low _ (List.mem_map_of_mem (f:=pk) (FJ.mpr ⟨n9 (tb.get a b ⟨v,r⟩),Fv hf⟩))
  have q:ltP ((a:Int),(b:Int)) ((i:Int),(j:Int))=false:=q
  unfold ltP at q
  have q:=of_decide_eq_false q
  simp only at q
  lia
 have ev:tH [.lst ((kvs.filter fun d=>decide (vl d=L)).map fun d=>p6 d.1)]=some (.tup [.int i,.int j],.z):=by
  rw [y]
  show ((dJ _).bind fun ns=>(jy ns).map fun n=>((iY n,.z):L3.D × Fl))=_
  rw [jT]
  show (jy _).map _=_
  rw [hm]
  rfl
 exact bh (av t a8) rfl ev
set_option tactic.hygienic true in
theorem BB {i j:Nat} {left:Int} {row:L3.D} (m:n=ps.length) (g:lL ps T) (l:j < n) (hi:i < j) (h:n<=24) {c:Nat} (tb:TbP kvs n (onE (wv ps way) n) (fun a b=>a < b/\b < n) c) :
  eA (lrS T n way kvs L (some (row,.z)) (some (.int i,.z)) (some (.int j,.z)) (some (.int left,.z)))=some (.ok (.val (.lst (((ks n j).filter fun k=>wv ps way i j k && decide (onE (wv ps way) n j k=left)).map fun k:Nat=>L3.D.int (k:Int))) .u),lrS T n way kvs L (some (row,.z)) (some (.int i,.z)) (some (.int j,.z)) (some (.int left,.z))):=by
 obtain ⟨τ',e,a,rfl⟩:=bI (bnd:=aj 0) (c:=bJ) (elt:=eB) (fun τ=>∃ a,τ=[a,some (.int way,.z),some (.int left,.z),some (.dt T,.u),some (.dt kvs,.u),some (.int i,.z),some (.int j,.z)]) (fun k:Nat=>L3.D.int (k:Int)) (fun k=>wv ps way i j k && decide (onE (wv ps way) n j k=left)) (fun k:Nat=>L3.D.int (k:Int)) (xs:=ks n j) (τ:=[none,some (.int way,.z),some (.int left,.z),some (.dt T,.u),some (.dt kvs,.u),some (.int i,.z),some (.int j,.z)]) ⟨none,rfl⟩ (by
  rintro k d τ ⟨a,rfl⟩
  have d:=mem_ks.mp d
  have s3:=sub3 (g i j k hi d.1 (by lia))
  have s2:=C0 (tb.get j k ⟨d.1,d.2⟩)
  have c1:cB (ah eqX (ah aB (ae 3) (fQ (ac (ae 5) (ac (ae 6) (ac (ae 0) ai))))) (ae 1)) [some (.int k,.z),some (.int way,.z),some (.int left,.z),some (.dt T,.u),some (.dt kvs,.u),some (.int i,.z),some (.int j,.z)]=some (.ok (wv ps way i j k),[some (.int k,.z),some (.int way,.z),some (.int left,.z),some (.dt T,.u),some (.dt kvs,.u),some (.int i,.z),some (.int j,.z)]):=by
   exists s3,fy _ _
  have c2:cB (ah eqX (ah aB (ae 4) (fQ (ac (ae 6) (ac (ae 0) ai)))) (ae 2)) [some (.int k,.z),some (.int way,.z),some (.int left,.z),some (.dt T,.u),some (.dt kvs,.u),some (.int i,.z),some (.int j,.z)]=some (.ok (decide (onE (wv ps way) n j k=left)),[some (.int k,.z),some (.int way,.z),some (.int left,.z),some (.dt T,.u),some (.dt kvs,.u),some (.int i,.z),some (.int j,.z)]):=by
   exists s2,fy _ _
  have cc:bJ [some (.int k,.z),some (.int way,.z),some (.int left,.z),some (.dt T,.u),some (.dt kvs,.u),some (.int i,.z),some (.int j,.z)]=some (.ok (wv ps way i j k && decide (onE (wv ps way) n j k=left)),[some (.int k,.z),some (.int way,.z),some (.int left,.z),some (.dt T,.u),some (.dt kvs,.u),some (.int i,.z),some (.int j,.z)]):=by
   unfold bJ
   cases hw:wv ps way i j k with
   | true =>
    rw [hw] at c1
    exact EA c1 rfl c2
   | false =>
    rw [hw] at c1
    exact EB c1 rfl
  exact ⟨_,_,rfl,cc,fun _=>⟨_,rfl⟩,fun _=>⟨_,_,_,_,bd rfl,rfl,rfl,_,rfl⟩⟩)
 rw [<- yG] at e
 have f:eZ [.int ((j:Int)+1),.int (n:Nat)]=some (bg ((j:Int)+1) (n - (j+1))):=iV (by lia) (by lia) (by lia)
 have im:aZ eZ (ac (ah bM (ae 7) (mC (.int 1))) (ac (ae 1) ai)) (lrS T n way kvs L (some (row,.z)) (some (.int i,.z)) (some (.int j,.z)) (some (.int left,.z)))=some (.ok ([],bg ((j:Int)+1) (n - (j+1))),lrS T n way kvs L (some (row,.z)) (some (.int i,.z)) (some (.int j,.z)) (some (.int left,.z))):=by (repeat' (first | with_reducible apply dN (h3:=f) | infer_instance | eq_refl))
 exact bp (rs:=[]) im e (by rw [cO];lia) rfl
theorem BA {i j:Nat} {A:Int} (w:Nat->Nat->Nat->Bool) (h:onE w n i j=A+1) (c:2<=A):∃ k,k ∈ (ks n j).filter fun k=>w i j k && decide (onE w n j k=A):=by
 rw [rj] at h
 have a:((ks n j).filter fun k=>w i j k).map (fun k=>onE w n j k) ≠ []:=fun e=>by rw [e,Bi] at h;lia
 obtain ⟨k,b,e⟩:=Fo.mp (i5 a)
 obtain ⟨b,hw⟩:=FJ.mp b
 refine ⟨k,FJ.mpr ⟨b,?_⟩⟩
 rw [hw,Bool.true_and]
 exact Fv (by lia)
theorem yA (N:n=ps.length) (K:lL ps T) (M:n<=24) {c:Nat} (tb:TbP kvs n (onE (wv ps way) n) (fun a b=>a < b/\b < n) c) {i j:Nat} (hi:i < j) (u:j < n) (h0:onE (wv ps way) n i j=L) (y:∀ r,Rw (wv ps way) n r->(r.length:Int)=L->Bt [i,j] r) :
  ∃ (P:List Nat) (a b c:Option (L3.D × Fl)),dR bo bL (lrS T n way kvs L (some (.tup [.int i,.int j],.z)) none none none)=some (.ok .nx,lrS T n way kvs L (some (.tup (Nd P),.z)) a b c)/\(P.length:Int)=L/\Rw (wv ps way) n P/\∀ r,Rw (wv ps way) n r->(r.length:Int)=L->HT.lexLt (Zs r) (Zs P)=false:=by
 have W:L<=26:=by have:=Eb (wv ps way) n i j;lia
 have v:2<=L:=by have:=tD (wv ps way) n i j;lia
 have nd:∀ (pre:List Nat) (i j:Nat),Nd (pre ++ [i,j])=Nd pre ++ [.int i,.int j]:=fun pre i j=>by simp [Nd]
 obtain ⟨ρ',e,P,a,b,Q,rfl,J,s,q⟩:=mf (c:=bo) (b:=bL) (fun m ρ=>∃ (pre:List Nat) (i j:Nat) (a b c:Option (L3.D × Fl)),ρ=lrS T n way kvs L (some (.tup (Nd (pre ++ [i,j])),.z)) a b c/\i < j/\j < n/\onE (wv ps way) n i j=L - pre.length/\m=(L - pre.length).toNat/\(pre.length:Int)+2<=L/\Rw (wv ps way) n (pre ++ [i,j])/\∀ r,Rw (wv ps way) n r->(r.length:Int)=L->Bt (pre ++ [i,j]) r)
  (fun ρ=>∃ (P:List Nat) (a b c:Option (L3.D × Fl)),ρ=lrS T n way kvs L (some (.tup (Nd P),.z)) a b c/\(P.length:Int)=L/\Rw (wv ps way) n P/\∀ r,Rw (wv ps way) n r->(r.length:Int)=L->HT.lexLt (Zs r) (Zs P)=false) (n:=L.toNat) (ρ:=lrS T n way kvs L (some (.tup [.int i,.int j],.z)) none none none) ⟨[],i,j,none,none,none,rfl,hi,u,by simpa using h0,by simp,by simpa using v,Rw.pair hi u,y⟩ (by
   rintro m ρ ⟨pre,i,j,a,b,c,rfl,hi,u,Y,rfl,X,s,q⟩
   have S:(Nd pre).length=pre.length:=by simp [Nd]
   have hlen:dz [.tup (Nd pre ++ [.int i,.int j])]=some (.int ((pre.length:Int)+2),.z):=by simp [l5,c1,S]
   have d:(pre ++ [i,j]).length=pre.length+2:=by simp
   rw [nd]
   have t:bo (lrS T n way kvs L (some (.tup (Nd pre ++ [.int i,.int j]),.z)) a b c)=some (.ok (decide ((pre.length:Int)+2 < L)),lrS T n way kvs L (some (.tup (Nd pre ++ [.int i,.int j]),.z)) a b c):=by
    unfold bo
    exists hlen
   by_cases h:(pre.length:Int)+2 < L
   ·rw [Fv h] at t
    refine .inr ⟨lrS T n way kvs L (some (.tup (Nd pre ++ [.int i,.int j]),.z)) a b c,?_⟩
    obtain ⟨a2,a1⟩:=zx (xs:=Nd pre) (a:=L3.D.int (i:Int)) (b:=L3.D.int (j:Int))
    have I:=BB (L:=L) (left:=L - ((pre.length:Int)+2)+1) (row:=.tup (Nd pre ++ [.int i,.int j])) N K u hi M tb
    obtain ⟨U,x⟩:=BA (n:=n) (i:=i) (j:=j) (A:=L - ((pre.length:Int)+2)+1) (wv ps way) (by lia) (by lia)
    obtain ⟨k,f,em,p⟩:=Bm ((ks n j).filter fun k=>wv ps way i j k && decide (onE (wv ps way) n j k=L - ((pre.length:Int)+2)+1)) (fun k:Nat=>(k:Int)) (List.ne_nil_of_mem x)
    obtain ⟨f,hw⟩:=FJ.mp f
    have f:=mem_ks.mp f
    simp only [Bool.and_eq_true,decide_eq_true_eq] at hw
    obtain ⟨C,hw⟩:=hw
    have ct:bM (.tup (Nd pre ++ [.int i,.int j])) (.tup [.int (k:Int)])=some (.tup (Nd pre ++ [.int i,.int j] ++ [.int (k:Int)]),.z):=BV (by simp;lia)
    have G:el (pre ++ [i,j]) pre.length=i:=by rw [t6 (Fq _),Nat.sub_self];rfl
    have E:el (pre ++ [i,j]) (pre.length+1)=j:=by rw [t6 (by lia),show pre.length+1 - pre.length=1 by lia];rfl
    have rs:Rw (wv ps way) n ((pre ++ [i,j]) ++ [k]):=s.snoc (by rw [d,show pre.length+2 - 1=pre.length+1 by lia,E];exact f.1) f.2 (by rw [d,show pre.length+2 - 2=pre.length by lia,show pre.length+2 - 1=pre.length+1 by lia,G,E];exact C)
    have bs:∀ r,Rw (wv ps way) n r->(r.length:Int)=L->Bt ((pre ++ [i,j]) ++ [k]) r:=fun r g l=>(q r g l).step (by rw [d];lia) fun same=>by
     have s1:=same pre.length (by rw [d];lia)
     have s2:=same (pre.length+1) (by rw [d];lia)
     rw [G] at s1
     rw [E] at s2
     rw [d]
     have F:=g.ok pre.length (by lia)
     have o:=g.up (pre.length+1) (by lia)
     have H:=g.lt (pre.length+2) (by lia)
     rw [<- s1,<- s2] at F
     rw [<- s2] at o
     have o:j < el r (pre.length+2):=o
     have B:=g.on (r.length - (pre.length+3)) (pre.length+1) (by lia)
     rw [<- s2] at B
     have B:2+((r.length - (pre.length+3):Nat):Int)<=onE (wv ps way) n j (el r (pre.length+2)):=B
     have V:=pD (w:=wv ps way) (n:=n) F o H
     have:=p (el r (pre.length+2)) (FJ.mpr ⟨mem_ks.mpr ⟨o,H⟩,by rw [F,Bool.true_and];exact Fv (by lia)⟩)
     lia
    have O:pre ++ [i,j] ++ [k]=(pre ++ [i]) ++ [j,k]:=by simp
    rw [O] at rs bs
    have R:Nd pre ++ [L3.D.int (i:Int),.int j] ++ [.int (k:Int)]=Nd ((pre ++ [i]) ++ [j,k]):=by simp [Nd]
    rw [R] at ct
    refine ⟨lrS T n way kvs L (some (.tup (Nd ((pre ++ [i]) ++ [j,k])),.z)) (some (.int i,.z)) (some (.int j,.z)) (some (.int (L - ((pre.length:Int)+2)+1),.z)),(L - (pre.length+1:Nat)).toNat,t,.inl ?_,by lia,pre ++ [i],j,k,_,_,_,rfl,f.1,f.2,by simp;lia,by simp,by simp;lia,rs,bs⟩
    unfold bL
    apply ak (ρ1:=lrS T n way kvs L (some (.tup (Nd pre ++ [.int i,.int j]),.z)) (some (.int i,.z)) b c)
    ·exists a2
    ·apply ak (ρ1:=lrS T n way kvs L (some (.tup (Nd pre ++ [.int i,.int j]),.z)) (some (.int i,.z)) (some (.int j,.z)) c)
     ·exists a1
     ·apply ak (ρ1:=lrS T n way kvs L (some (.tup (Nd pre ++ [.int i,.int j]),.z)) (some (.int i,.z)) (some (.int j,.z)) (some (.int (L - ((pre.length:Int)+2)+1),.z)))
      ·exists hlen
      ·exact m4 (jf (bd rfl) (iF (av (bh (av I a8) rfl em) a8) rfl (show 1<=16777216 by decide)) rfl rfl ct) rfl (show 5 < 9 by decide) rfl
   ·rw [Fw h] at t
    refine .inl ⟨_,t,pre ++ [i,j],a,b,c,by rw [nd],by rw [d];lia,s,fun r g l=>(q r g l).fin (by rw [d];lia)⟩)
 exact ⟨P,a,b,Q,e,J,s,q⟩
theorem Dd (k:n=ps.length) (g:lL ps T) (h:n<=24) (h0:0 < n):(n=1/\aK [(.dt T,.u),(.int (n:Int),.z),(.int way,.z)]=some (.ok (.non,.z),[(.dt T,.u),(.int (n:Int),.z),(.int way,.z)])) \/
  ∃ (P:List Nat) (L:Nat),aK [(.dt T,.u),(.int (n:Int),.z),(.int way,.z)]=some (.ok (.tup (Nd P),.z),[(.dt T,.u),(.int (n:Int),.z),(.int way,.z)])/\Rw (wv ps way) n P/\P.length=L/\(∀ r,Rw (wv ps way) n r->r.length<=L)/\∀ r,Rw (wv ps way) n r->r.length=L->HT.lexLt (Zs r) (Zs P)=false:=by
 by_cases h1:n=1
 ·refine .inl ⟨h1,?_⟩
  subst h1
  apply aW (ρ:=[some (.dt T,.u),some (.int (1:Nat),.z),some (.int way,.z),none,none,none,none,none,none]) rfl rfl
  ·apply kO
   apply j7 (b:=true)
   ·exists fy _ _
   ·rfl
   ·nofun
  ·rfl
 ·have h2:2<=n:=by lia
  obtain ⟨kvs,w,tb⟩:=Dc (way:=way) k g h h2
  obtain ⟨L,ev,l,p⟩:=zQ h2 tb
  obtain ⟨i,j,g1,g2,g3,x,low⟩:=Bz (T:=T) (way:=way) (by decide) tb p
  have up:∀ r,Rw (wv ps way) n r->(r.length:Int)<=L/\onE (wv ps way) n (el r 0) (el r 1) ≥ r.length:=fun r d=>by
   have:=d.two
   have o:=d.on (r.length - 2) 0 (by lia)
   have:=l (el r 0) (el r 1) (d.up 0 (by lia)) (d.lt 1 (by lia))
   have o:2+((r.length - 2:Nat):Int)<=onE (wv ps way) n (el r 0) (el r 1):=o
   lia
  obtain ⟨P,a,b,c,t,y,v,m⟩:=yA k g h tb g1 g2 g3 (fun r d e=>by
   have A:=d.two
   have B:=up r d
   have a1:=d.up 0 (by lia)
   have a2:=d.lt 1 (by lia)
   have:=l (el r 0) (el r 1) a1 a2
   have lw:=low (el r 0) (el r 1) a1 a2 (by lia)
   by_cases f:i=el r 0
   ·by_cases e1:j=el r 1
    ·refine .inl fun a s=>?_
     have:a=0\/a=1:=by simp at s;lia
     rcases this with rfl | rfl
     ·exact f
     ·exact e1
    ·refine .inr ⟨1,by simp,by lia,fun b q=>?_,?_⟩
     ·have:b=0:=by lia
      subst this;exact f
     ·show j < el r 1;lia
   ·exact .inr ⟨0,by simp,by lia,fun b q=>by lia,by show i < el r 0;lia⟩)
  refine .inr ⟨P,P.length,?_,v,rfl,fun r d=>by have:=(up r d).1;lia,fun r d e=>m r d (by lia)⟩
  have ne:decide ((n:Int)=1)=false:=Fw (by lia)
  apply aW (ρ:=[some (.dt T,.u),some (.int (n:Int),.z),some (.int way,.z),none,none,none,none,none,none]) rfl rfl
  ·apply ak (ρ1:=[some (.dt T,.u),some (.int (n:Int),.z),some (.int way,.z),none,none,none,none,none,none])
   ·apply dO
    ·exists fy _ _
    ·exact ne
    ·rfl
   ·apply ak (ρ1:=[some (.dt T,.u),some (.int (n:Int),.z),some (.int way,.z),some (.dt kvs,.u),none,none,none,none,none])
    ·nomatch [w]
    ·apply ak (ρ1:=lrS T n way kvs L none none none none)
     ·exists ev
     ·apply ak (ρ1:=lrS T n way kvs L (some (.tup [.int i,.int j],.z)) none none none)
      ·exact m4 x rfl (show 5 < 9 by decide) rfl
      ·apply ak
       ·exact t
       ·nofun
  ·rfl
end
def lx:Nat->Nat->List (List Nat)
 | 0,_=>[[]]
 | k+1,a=>[] :: ((lx k (a+1)).map (fun r=>a :: r) ++ (lx k (a+1)).tail)
abbrev Pl (l:List (List Nat)):List L3.D:=l.map fun p=>L3.D.tup (Nd p)
theorem yr:∀ (k a:Nat),∀ r ∈ lx k a,r.Pairwise (· < ·)/\∀ x ∈ r,a<=x/\x < a+k
 | 0,a,r,h=>by
  rcases FH.mp h with rfl
  exact ⟨.nil,fun x b=>by cases b⟩
 | k+1,a,r,h=>by
  rcases Fc.mp h with rfl | h
  ·exact ⟨.nil,fun x b=>by cases b⟩
  rcases Ff.mp h with h | h
  ·obtain ⟨q,c,rfl⟩:=Fo.mp h
   obtain ⟨h1,h2⟩:=yr k (a+1) q c
   refine ⟨List.pairwise_cons.mpr ⟨fun x b=>?_,h1⟩,fun x b=>?_⟩
   ·have:=h2 x b;lia
   ·rcases Fc.mp b with rfl | b
    ·lia
    ·have:=h2 x b;lia
  ·obtain ⟨h1,h2⟩:=yr k (a+1) r (List.mem_of_mem_tail h)
   exact ⟨h1,fun x b=>by have:=h2 x b;lia⟩
theorem yq {n:Nat} {r:List Nat} (h:r ∈ lx n 0):Ris n r:=by
 obtain ⟨h1,h2⟩:=yr n 0 r h
 exact ⟨h1,fun x a=>by have:=h2 x a;lia⟩
theorem mo:∀ ns:List (List Int),jN (ns.map ntD)=some ns
 | []=>rfl
 | n :: ns=>by
  have a:=mo ns
  have e:aF (n.map L3.D.int)=some n:=by
   clear a
   induction n with
   | nil=>rfl
   | cons x n a=>simp [aF,a]
  show (aF (n.map L3.D.int)).bind (fun n=>(jN (ns.map ntD)).map (n :: ·))=_
  rw [e,a];rfl
theorem jn {ns:List (List Int)} {is:List Nat} (h1:yM ns=true) (h2:ns.length<=16777216) (h3:ba ns=some is) (b:is.length<=16777216) (a:(is.all fun i=>decide (i < ns.length))=true):jo [.lst (ns.map ntD)]=some (.lst (is.map fun i=>ntD (ns.getD i [])),.u):=by
 show (jN (ns.map ntD)).bind _=_
 rw [mo]
 show (if (yM ns && decide (ns.length<=16777216))=true then _ else _)=_
 rw [h1,Fv h2,Bool.and_self,if_pos rfl,h3]
 show (if (decide (is.length<=16777216) && is.all fun i=>decide (i < ns.length))=true then _ else _)=_
 rw [a,Fv b,Bool.and_self,if_pos rfl]
theorem fp1:aY [(.int (1:Int),.z)]=some (.ok (.lst (Pl (lx 1 0)),.u),[(.int (1:Int),.z)]):=by kernel_rfl
theorem fp2:aY [(.int (2:Int),.z)]=some (.ok (.lst (Pl (lx 2 0)),.u),[(.int (2:Int),.z)]):=by kernel_rfl
theorem fp3:aY [(.int (3:Int),.z)]=some (.ok (.lst (Pl (lx 3 0)),.u),[(.int (3:Int),.z)]):=by kernel_rfl
theorem fp4:aY [(.int (4:Int),.z)]=some (.ok (.lst (Pl (lx 4 0)),.u),[(.int (4:Int),.z)]):=by kernel_rfl
theorem fp5:aY [(.int (5:Int),.z)]=some (.ok (.lst (Pl (lx 5 0)),.u),[(.int (5:Int),.z)]):=by kernel_rfl
theorem fq6:(cy (aZ d8 (ac (ae 0) ai)) (aj 2) df) [some (.int (6:Int),.z),some (.lst [.tup []],.u),none]=some (.ok .nx,[some (.int (6:Int),.z),some (.lst (U6.map ntD),.u),some (.int (5:Int),.z)]):=by kernel_rfl
theorem fr6:(L6_4.map fun i=>ntD (U6.getD i []))=Pl (lx 6 0):=by kernel_rfl
theorem fs6:jo [.lst (U6.map ntD)]=some (.lst (Pl (lx 6 0)),.u):=by
 rw [<- fr6]
 exact jn (by kernel_rfl) (by decide +kernel) sort6 (by decide +kernel) (by decide +kernel)
theorem fp6:aY [(.int (6:Int),.z)]=some (.ok (.lst (Pl (lx 6 0)),.u),[(.int (6:Int),.z)]):=by
 have s:=fs6
 have q:=fq6
 generalize L3.D.lst (U6.map ntD)=A at *
 generalize L3.D.lst (Pl (lx 6 0))=B at *
 apply aW (ρ:=[some (.int (6:Int),.z),none,none]) (ρ1:=[some (.int (6:Int),.z),some (A,.u),some (.int (5:Int),.z)]) rfl rfl
 ·unfold hJ
  refine ak (ρ1:=[some (.int (6:Int),.z),some (.lst [.tup []],.u),none]) rfl ?_
  refine ak q ?_
  exact dA (bh (av (bd rfl) a8) rfl s) rfl
 ·rfl
theorem fq7:(cy (aZ d8 (ac (ae 0) ai)) (aj 2) df) [some (.int (7:Int),.z),some (.lst [.tup []],.u),none]=some (.ok .nx,[some (.int (7:Int),.z),some (.lst (U7.map ntD),.u),some (.int (6:Int),.z)]):=by kernel_rfl
theorem fr7:(L7_10.map fun i=>ntD (U7.getD i []))=Pl (lx 7 0):=by kernel_rfl
theorem fs7:jo [.lst (U7.map ntD)]=some (.lst (Pl (lx 7 0)),.u):=by
 rw [<- fr7]
 exact jn (by kernel_rfl) (by decide +kernel) sort7 (by decide +kernel) (by decide +kernel)
theorem fp7:aY [(.int (7:Int),.z)]=some (.ok (.lst (Pl (lx 7 0)),.u),[(.int (7:Int),.z)]):=by
 have s:=fs7
 have q:=fq7
 generalize L3.D.lst (U7.map ntD)=A at *
 generalize L3.D.lst (Pl (lx 7 0))=B at *
 apply aW (ρ:=[some (.int (7:Int),.z),none,none]) (ρ1:=[some (.int (7:Int),.z),some (A,.u),some (.int (6:Int),.z)]) rfl rfl
 ·unfold hJ
  refine ak (ρ1:=[some (.int (7:Int),.z),some (.lst [.tup []],.u),none]) rfl ?_
  refine ak q ?_
  exact dA (bh (av (bd rfl) a8) rfl s) rfl
 ·rfl
theorem fq8:(cy (aZ d8 (ac (ae 0) ai)) (aj 2) df) [some (.int (8:Int),.z),some (.lst [.tup []],.u),none]=some (.ok .nx,[some (.int (8:Int),.z),some (.lst (U8.map ntD),.u),some (.int (7:Int),.z)]):=by kernel_rfl
theorem fr8:(L8_22.map fun i=>ntD (U8.getD i []))=Pl (lx 8 0):=by kernel_rfl
theorem fs8:jo [.lst (U8.map ntD)]=some (.lst (Pl (lx 8 0)),.u):=by
 rw [<- fr8]
 exact jn (by kernel_rfl) (by decide +kernel) sort8 (by decide +kernel) (by decide +kernel)
theorem fp8:aY [(.int (8:Int),.z)]=some (.ok (.lst (Pl (lx 8 0)),.u),[(.int (8:Int),.z)]):=by
 have s:=fs8
 have q:=fq8
 generalize L3.D.lst (U8.map ntD)=A at *
 generalize L3.D.lst (Pl (lx 8 0))=B at *
 apply aW (ρ:=[some (.int (8:Int),.z),none,none]) (ρ1:=[some (.int (8:Int),.z),some (A,.u),some (.int (7:Int),.z)]) rfl rfl
 ·unfold hJ
  refine ak (ρ1:=[some (.int (8:Int),.z),some (.lst [.tup []],.u),none]) rfl ?_
  refine ak q ?_
  exact dA (bh (av (bd rfl) a8) rfl s) rfl
 ·rfl
theorem uS:∀ n:Nat,1<=n->n<=8->aY [(.int (n:Int),.z)]=some (.ok (.lst (Pl (lx n 0)),.u),[(.int (n:Int),.z)])
 | 0,h,_=>absurd h (by decide)
 | 1,_,_=>fp1
 | 2,_,_=>fp2
 | 3,_,_=>fp3
 | 4,_,_=>fp4
 | 5,_,_=>fp5
 | 6,_,_=>fp6
 | 7,_,_=>fp7
 | 8,_,_=>fp8
 | n+9,_,h=>absurd h (by lia)
theorem Bk {X:List (List Nat)} (h:X ≠ []):∃ Q ∈ X,tG [.lst (Pl X)]=some (.tup (Nd Q),.z)/\∀ r ∈ X,HT.lexLt (Zs r) (Zs Q)=false:=by
 have e1:Pl X=(X.map Zs).map ntD:=by
  rw [FQ]
  refine FR fun r _=>?_
  show L3.D.tup (Nd r)=L3.D.tup ((Zs r).map L3.D.int)
  rw [FQ];rfl
 obtain ⟨q,a⟩:∃ q,jw (X.map Zs)=some q:=by
  cases X with
  | nil=>exact absurd rfl h
  | cons x xs=>exact ⟨_,rfl⟩
 obtain ⟨e,c⟩:=mV a
 obtain ⟨Q,d,rfl⟩:=Fo.mp e
 refine ⟨Q,d,?_,fun r b=>c _ (List.mem_map_of_mem b)⟩
 show ((jV (Pl X)).bind fun ns=>(jw ns).map fun n=>((ntD n,.z):L3.D × Fl))=_
 rw [e1,mQ]
 show (jw (X.map Zs)).map _=_
 rw [a]
 show some (L3.D.tup ((Zs Q).map L3.D.int),Fl.z)=_
 rw [FQ];rfl
theorem Cf:∀ l:List Nat,∃ qs,d9 (Nd l)=some qs/\PyData.canLayAll0 qs=true/\PyData.depthAll qs<=10/\qs.length=l.length
 | []=>⟨[],rfl,rfl,by decide,rfl⟩
 | x :: l=>by
  obtain ⟨qs,e1,a,c,b⟩:=Cf l
  refine ⟨.int x :: qs,?_,?_,?_,?_⟩
  ·show (match pyD (.int x),d9 (Nd l) with | some p,some ps=>some (p :: ps) | _,_=>none)=_
   rw [e1];rfl
  ·simp [PyData.canLayAll0,PyData.canLay0,a]
  ·simp [PyData.depthAll,PyData.depth];lia
  ·simp [b]
theorem Ce:∀ l:List (List Nat),∃ qs,d9 (Pl l)=some qs/\PyData.canLayAll0 qs=true/\PyData.depthAll qs<=20/\qs.length=l.length
 | []=>⟨[],rfl,rfl,by decide,rfl⟩
 | p :: l=>by
  obtain ⟨qs,e1,a,c,b⟩:=Ce l
  obtain ⟨rs,f1,f2,d,_⟩:=Cf p
  refine ⟨.tuple rs :: qs,?_,?_,?_,by simp [b]⟩
  ·show (match pyD (.tup (Nd p)),d9 (Pl l) with | some p,some ps=>some (p :: ps) | _,_=>none)=_
   have:pyD (.tup (Nd p))=some (.tuple rs):=by unfold pyD;rw [f1];rfl
   rw [e1,this]
  ·simp [PyData.canLayAll0,PyData.canLay0,a,f2]
  ·simp [PyData.depthAll,PyData.depth];lia
theorem Bh (L:List (List Nat)):neX (.lst (Pl L)) (.lst [])=some (.bl (!decide (L=[])),.z):=by
 obtain ⟨qs,e1,c,d,a⟩:=Ce L
 have b:pyD (.lst (Pl L))=some (.list qs):=by unfold pyD;rw [e1];rfl
 have h:eqP (.lst (Pl L)) (.lst [])=some (decide (L=[])):=by
  have p2:pyD (.lst [])=some (.list []):=rfl
  unfold eqP
  rw [b,p2]
  have:((PyData.list qs).canLay0 && (PyData.list []).canLay0 && decide (min (PyData.list qs).depth (PyData.list []).depth<=30))=true:=by
   simp [PyData.canLay0,c,PyData.depth,PyData.canLayAll0];lia
  show (if _ then _ else _)=_
  rw [if_pos this]
  cases L with
  | nil =>
   have:qs=[]:=FT.mp a
   subst this
   rfl
  | cons x L =>
   cases qs with
   | nil=>simp at a
   | cons y qs=>rfl
 show (eqA (.lst (Pl L)) (.lst [])).map _=_
 have h1:eqA (.lst (Pl L)) (.lst [])=some (decide (L=[])):=h
 rw [h1];rfl
theorem lx_hd:∀ (k a:Nat),∃ l,lx k a=[] :: l
 | 0,_=>⟨[],rfl⟩
 | _+1,_=>⟨_,rfl⟩
theorem rL:∀ (k a:Nat) (r:List Nat),r.Pairwise (· < ·)->(∀ x ∈ r,a<=x/\x < a+k)->r ∈ lx k a
 | 0,a,[],_,_=>FH.mpr rfl
 | 0,a,x :: r,_,h=>by have:=h x E6;lia
 | k+1,a,[],_,_=>E6
 | k+1,a,x :: r,hp,h=>by
  refine E7 _ (Ff.mpr ?_)
  have f:=h x E6
  obtain ⟨c,p2⟩:=List.pairwise_cons.mp hp
  by_cases e:x=a
  ·subst e
   exact .inl (Fo.mpr ⟨r,rL k (x+1) r p2 fun y b=>by have:=c y b;have:=h y (E7 _ b);lia,rfl⟩)
  ·have:=rL k (a+1) (x :: r) hp fun y b=>by
    have:=h y b
    rcases Fc.mp b with rfl | b
    ·lia
    ·have:=c y b;lia
   obtain ⟨l,d⟩:=lx_hd k (a+1)
   rw [d] at this ⊢
   rcases Fc.mp this with h | h
   ·cases h
   ·exact .inr h
theorem yt:∀ n:Nat,n<=8->(lx n 0).length<=256
 | 0,_=>by decide +kernel
 | 1,_=>by decide +kernel
 | 2,_=>by decide +kernel
 | 3,_=>by decide +kernel
 | 4,_=>by decide +kernel
 | 5,_=>by decide +kernel
 | 6,_=>by decide +kernel
 | 7,_=>by decide +kernel
 | 8,_=>by decide +kernel
 | n+9,h=>absurd h (by lia)
def rwB (s:Sg) (way:Int) (r:List Nat):Bool:=decide (2<=r.length) && rb s r way
theorem rw_iff {s:Sg} {way:Int} {r:List Nat}:Rw (wv s way) s.length r ↔ Ris s.length r/\rwB s way r=true:=by
 constructor
 ·intro h
  have up:r.Pairwise (· < ·):=by
   rw [List.pairwise_iff_getElem]
   intro i j hi g k
   have key:∀ d,i+d < r.length->0 < d->el r i < el r (i+d):=by
    intro d
    induction d with
    | zero=>intro _ h;cases h
    | succ d ih =>
     intro hd _
     have h1:=h.up (i+d) (by lia)
     by_cases f:d=0
     ·subst f;exact h1
     ·have:=ih (by lia) (by lia)
      rw [show i+(d+1)=i+d+1 by lia]
      lia
   have:=key (j - i) (by lia) (by lia)
   rw [show i+(j - i)=j by lia] at this
   have e1:=fA (L:=r) hi
   have e:=fA (L:=r) g
   rw [Fd hi] at e1
   rw [Fd g] at e
   injection e1 with e1
   injection e with e
   lia
  refine ⟨⟨up,fun x l=>?_⟩,?_⟩
  ·obtain ⟨i,hi,rfl⟩:=List.mem_iff_getElem.mp l
   have e1:=fA (L:=r) hi
   rw [Fd hi] at e1
   injection e1 with e1
   rw [e1]
   exact h.lt i hi
  ·unfold rwB rb
   rw [Fv h.two,Bool.true_and,List.all_eq_true]
   intro a b
   exact h.ok a (by have:=List.mem_range.mp b;lia)
 ·rintro ⟨h,c⟩
  unfold rwB at c
  rw [Bool.and_eq_true] at c
  refine ⟨of_decide_eq_true c.1,fun a b=>h.at (by lia) b,fun a b=>h.lt _ (og b),fun a b=>?_⟩
  exact List.all_eq_true.mp c.2 a (List.mem_range.mpr (by lia))
theorem rO (r:List Nat):dz [.tup (Nd r)]=some (.int (r.length:Int),.z):=by simp [l5,c1]
theorem De {ps:List Pt} (g:GoodSh ps) {r:List Nat} (h:Ris ps.length r) (b:Bool):eO [(Shd ps,.z),(.tup (Nd r),.z),(.bl b,.z)]=some (.ok (.bl (rwB (sgn ps) (way b) r),.z),[(Shd ps,.z),(.tup (Nd r),.z),(.bl b,.z)]):=by
 have pm:=g.most
 by_cases h2:2<=r.length
 ·have e:rwB (sgn ps) (way b) r=rb (sgn ps) r (way b):=by unfold rwB;rw [Fv h2,Bool.true_and]
  rw [e]
  exact qS g h h2
 ·have e:rwB (sgn ps) (way b) r=false:=by unfold rwB;rw [Fw h2,Bool.false_and]
  rw [e]
  have c:=o6 h pm
  have a:=lj ps
  have ln:=rO r
  have lt:ltI (.int (r.length:Int)) (.int 2)=some (.bl true,.z):=by simp [cT];lia
  generalize L3.D.int (ps.length:Int)=LN at *
  generalize L3.D.int (r.length:Int)=LR at *
  generalize L3.D.tup (Nd r)=R at *
  generalize Shd ps=H at *
  apply aW (ρ:=[some (H,.z),some (R,.z),some (.bl b,.z),none]) (ρ1:=[some (H,.z),some (R,.z),some (.bl b,.z),none]) rfl rfl
  ·unfold js
   refine kO (j7 (b:=true) (p9 (b:=false) (ρ1:=[some (H,.z),some (R,.z),some (.bl b,.z),none]) ?_ rfl ?_) rfl (dA i_c rfl))
   ·exact lu (l6 (aq c (av (bd rfl) (av (bh (av (bd rfl) a8) rfl a) a8)) rfl rfl rfl) rfl)
   ·exact l6 (jf (bh (av (bd rfl) a8) rfl ln) i_c rfl rfl lt) rfl
  ·rfl
abbrev rws (ps:List Pt) (b:Bool):List (List Nat):=(lx ps.length 0).filter (rwB (sgn ps) (way b))
theorem Bo {ps:List Pt} {b:Bool} {r:List Nat}:r ∈ rws ps b ↔ Rw (wv (sgn ps) (way b)) ps.length r:=by
 rw [FJ]
 constructor
 ·rintro ⟨h1,h2⟩
  exact rw_iff.mpr ⟨yq h1,h2⟩
 ·intro h
  obtain ⟨h1,h2⟩:=rw_iff.mp h
  exact ⟨rL _ _ _ h1.up fun x a=>⟨Nat.zero_le _,by have h3:x < ps.length:=h1.lt x a;lia⟩,h2⟩
theorem wV {ps:List Pt} (g:GoodSh ps) (a:ps.length<=8) (b:Bool):eK [(Shd ps,.z),(.bl b,.z)]=some (.ok (.lst (Pl (rws ps b)),.u),[(Shd ps,.z),(.bl b,.z)]):=by
 have pr:=uS ps.length g.pos a
 have i:=yt ps.length a
 have h:=lj ps
 obtain ⟨τ',e,v,rfl⟩:=bI (bnd:=aj 0) (c:=gb) (elt:=jZ) (fun τ=>∃ v,τ=[v,some (Shd ps,.z),some (.bl b,.z)]) (fun r:List Nat=>L3.D.tup (Nd r)) (rwB (sgn ps) (way b)) (fun r:List Nat=>L3.D.tup (Nd r)) (xs:=lx ps.length 0) (τ:=[none,some (Shd ps,.z),some (.bl b,.z)]) ⟨none,rfl⟩ (by
  rintro r d τ ⟨v,rfl⟩
  have q:=De g (yq d) b
  generalize rwB (sgn ps) (way b) r=bb at *
  generalize L3.D.tup (Nd r)=R at *
  generalize Shd ps=H at *
  exact ⟨[some (R,.z),some (H,.z),some (.bl b,.z)],[some (R,.z),some (H,.z),some (.bl b,.z)],rfl,by unfold gb;(nomatch [q]),fun _=>⟨_,rfl⟩,fun _=>⟨.pl 0,[some (R,.z),some (H,.z),some (.bl b,.z)],(R,.z),[some (R,.z),some (H,.z),some (.bl b,.z)],bd rfl,rfl,rfl,_,rfl⟩⟩)
 have el:((lx ps.length 0).map fun r:List Nat=>L3.D.tup (Nd r)).length < 16777216:=by rw [Fh];lia
 generalize L3.D.int (ps.length:Int)=LN at *
 change eK _=some (.ok (.lst ((rws ps b).map fun r:List Nat=>L3.D.tup (Nd r)),.u),_)
 generalize ((rws ps b).map fun r:List Nat=>L3.D.tup (Nd r))=X at *
 have pr:aY [(LN,.z)]=some (.ok (.lst ((lx ps.length 0).map fun r:List Nat=>L3.D.tup (Nd r)),.u),[(LN,.z)]):=pr
 generalize ((lx ps.length 0).map fun r:List Nat=>L3.D.tup (Nd r))=P at *
 generalize Shd ps=H at *
 have f:jY [some (H,.z),some (.bl b,.z)]=some (.ok (.val (.lst X) .u),[some (H,.z),some (.bl b,.z)]):=bp (rs:=[.val (.lst P) .u]) (ρ1:=[some (H,.z),some (.bl b,.z)]) (ρ2:=[some (H,.z),some (.bl b,.z)]) (by (nomatch [pr],[h])) e el rfl
 apply aW (ρ:=[some (H,.z),some (.bl b,.z)]) (ρ1:=[some (H,.z),some (.bl b,.z)]) rfl rfl
 ·unfold pX
  exact dA f rfl
 ·rfl
theorem pC {m:Nat}:∀ {ts:List Str},(∀ t ∈ ts,t.length<=m)->piled ts<=ts.length * (m+2)
 | [],_=>by simp [piled]
 | t :: ts,h=>by
  have h1:=h t E6
  have h2:=pC (ts:=ts) fun u hu=>h u (E7 _ hu)
  rw [piled_cons,FC,Nat.succ_mul]
  lia
theorem qE {m:Nat} {ts:List Str} (h:∀ t ∈ ts,t.length<=m):(tupleText ts).length<=ts.length * (m+2)+3:=by
 have a:=pC h
 have b:(Str.join ", " ts).length<=ts.length * (m+2):=by
  by_cases e:ts=[]
  ·subst e;exact Nat.zero_le _
  ·have:=join_length_add ts e
   lia
 unfold tupleText
 rw [strLen_append,strLen_append]
 have e1:(("(":String):Str).length=1:=rfl
 have c:((if ts.length == 1 then ",)" else ")":String):Str).length<=2:=by
  cases ts.length == 1 <;> decide
 lia
mutual
theorem xF:∀ (d:L3.D) (p:PyData),pyD d=some p->p.hasDict=false
 | .non,p,e=>by unfold pyD at e;cases e;rfl
 | .bl _,p,e=>by unfold pyD at e;cases e;rfl
 | .int _,p,e=>by unfold pyD at e;cases e;rfl
 | .str _,p,e=>by unfold pyD at e;cases e;rfl
 | .tup xs,p,e=>by
  unfold pyD at e
  obtain ⟨ps,e1,rfl⟩:=E9.mp e
  simpa [PyData.hasDict] using kB xs ps e1
 | .lst xs,p,e=>by
  unfold pyD at e
  obtain ⟨ps,e1,rfl⟩:=E9.mp e
  simpa [PyData.hasDict] using kB xs ps e1
 | .fls xs,p,e=>by
  unfold pyD at e
  obtain ⟨ps,e1,rfl⟩:=E9.mp e
  simpa [PyData.hasDict] using kB xs ps e1
 | .dk _,p,e=>by unfold pyD at e;cases e
 | .dt _,p,e=>by unfold pyD at e;cases e
 | .exc _ _,p,e=>by unfold pyD at e;cases e
theorem kB:∀ (ds:List L3.D) (ps:List PyData),d9 ds=some ps->PyData.hasDictAll ps=false
 | [],ps,e=>by unfold d9 at e;cases e;rfl
 | d :: ds,ps,e=>by
  unfold d9 at e
  cases h1:pyD d with
  | none=>rw [h1] at e;cases e
  | some p =>
   cases h2:d9 ds with
   | none=>rw [h1,h2] at e;cases e
   | some qs =>
    rw [h1,h2] at e
    cases e
    simp [PyData.hasDictAll,xF d p h1,kB ds qs h2]
end
def sm (f:L3.D->Option PyData) (k m:Nat) (d:L3.D):Bool:=match f d with
 | some p=>p.showable && decide (p.depth<=k) && decide (p.shown.length<=m)
 | none=>false
structure Sml (k m:Nat) (p:PyData):Prop where
 s:p.showable=true
 d:p.depth<=k
 l:p.shown.length<=m
theorem qO {f:L3.D->Option PyData} {k m:Nat} {d:L3.D} (h:sm f k m d=true):∃ p,f d=some p/\Sml k m p:=by
 unfold sm at h
 cases e:f d with
 | none=>rw [e] at h;cases h
 | some p =>
  rw [e] at h
  simp only [Bool.and_eq_true,decide_eq_true_eq] at h
  exact ⟨p,rfl,h.1.1,h.1.2,h.2⟩
theorem B7 {f:L3.D->Option PyData} {k m:Nat} {d:L3.D} {p:PyData} (e:f d=some p) (h:Sml k m p):sm f k m d=true:=by
 unfold sm
 rw [e]
 simp [h.s,h.d,h.l]
theorem z7 {f:L3.D->Option PyData} {k m b a:Nat} {d:L3.D} (h:sm f k m d=true) (c:k<=b) (hm:m<=a):sm f b a d=true:=by
 obtain ⟨p,e,q⟩:=qO h
 exact B7 e ⟨q.s,FN q.d c,FN q.l hm⟩
structure Rdg (f:L3.D->Option PyData) (fs:List L3.D->Option (List PyData)):Prop where
 n:fs []=some []
 c:∀ d ds p ps,f d=some p->fs ds=some ps->fs (d :: ds)=some (p :: ps)
 t:∀ xs ps,fs xs=some ps->f (.tup xs)=some (.tuple ps)
theorem rdD:Rdg pyD d9:=⟨rfl,fun d ds p ps h1 h2=>by unfold d9;rw [h1,h2],fun xs ps h=>by unfold pyD;rw [h];rfl⟩
theorem wG {f:L3.D->Option PyData} {fs:List L3.D->Option (List PyData)} (R:Rdg f fs) {k m:Nat}:∀ {xs:List L3.D},(∀ x ∈ xs,sm f k m x=true)->∃ ps,fs xs=some ps/\PyData.showableAll ps=true/\PyData.depthAll ps<=k/\(∀ t ∈ PyData.shownAll ps,t.length<=m)/\(PyData.shownAll ps).length=xs.length
 | [],_=>⟨[],R.n,rfl,Nat.zero_le _,(fun t a=>by cases a),rfl⟩
 | x :: xs,h=>by
  obtain ⟨p,a1,a2⟩:=qO (h x E6)
  obtain ⟨ps,b1,b2,i,g,b⟩:=wG R (xs:=xs) fun y e=>h y (E7 _ e)
  refine ⟨p :: ps,R.c _ _ _ _ a1 b1,by simp [PyData.showableAll,a2.s,b2],by have:=a2.d;simp only [PyData.depthAll];lia,fun t a=>?_,by simp [PyData.shownAll,b]⟩
  rcases Fc.mp (show t ∈ p.shown :: PyData.shownAll ps from a) with rfl | a
  ·exact a2.l
  ·exact g t a
theorem C2 {f:L3.D->Option PyData} {fs:List L3.D->Option (List PyData)} (R:Rdg f fs) {k m:Nat} {xs:List L3.D} (h:∀ x ∈ xs,sm f k m x=true):sm f (k+1) (xs.length * (m+2)+3) (.tup xs)=true:=by
 obtain ⟨ps,b1,b2,c,b,a⟩:=wG R h
 have:=qE b
 rw [a] at this
 exact B7 (R.t xs ps b1) ⟨by simpa [PyData.showable] using b2,by simp only [PyData.depth];lia,by simpa only [PyData.shown] using this⟩
def Sh' (d:L3.D):Prop:=∃ t,nE d=some (.str t,.z)
theorem sh_of {d:L3.D} {p:PyData} (e:nE d=shA d) (h:pyA d=some p) (q:Sml 16 16777216 p):Sh' d:=⟨p.shown,by
 have a:kM p=true:=by unfold kM;simp [q.s,q.d,q.l]
 rw [e]
 unfold shA
 rw [h]
 show (if kM p=true then _ else _)=_
 rw [if_pos a]⟩
theorem sh_D {d:L3.D} (e:nE d=shA d) (h:sm pyD 16 16777216 d=true):Sh' d:=by
 obtain ⟨p,h1,q⟩:=qO h
 refine sh_of e ?_ q
 unfold pyA
 rw [h1]
 show (if p.hasDict then none else some p)=_
 rw [xF d p h1]
 rfl
theorem Ej (s:Str):neX (.str s) (.str s)=some (.bl false,.z):=by
 simp [eqA,eqS]
theorem ints8:(List.range 9).map (fun i:Nat=>sm pyD 0 20 (.int (i:Int)))=(List.range 9).map fun _=>true:=by kernel_rfl
theorem sh_Nd {r:List Nat} {n:Nat} (c:n<=8) (h:Ris n r):Sh' (.tup (Nd r)):=by
 have b:=h.len
 refine sh_D rfl (z7 (C2 (k:=0) (m:=20) rdD fun d hd=>?_) (by decide) (by rw [Fh];lia))
 obtain ⟨x,a,rfl⟩:=Fo.mp hd
 have:=h.lt x a
 exact List.map_inj_left.mp ints8 x (List.mem_range.mpr (by lia))
theorem C5:Sh' .non:=⟨"None",by kernel_rfl⟩
def Fnd (ps:List Pt) (b:Bool) (R:L3.D):Prop:=(ps.length=1/\R=.non)\/∃ (P:List Nat) (L:Nat),R=.tup (Nd P)/\Rw (wv (sgn ps) (way b)) ps.length P/\P.length=L/\(∀ r,Rw (wv (sgn ps) (way b)) ps.length r->r.length<=L)/\∀ r,Rw (wv (sgn ps) (way b)) ps.length r->r.length=L->HT.lexLt (Zs r) (Zs P)=false
theorem Co {ps:List Pt} (g:GoodSh ps) (b:Bool):∃ R,aK [(.dt (tb ps (eP ps.length)),.u),(.int (ps.length:Int),.z),(.int (way b),.z)]=some (.ok (R,.z),[(.dt (tb ps (eP ps.length)),.u),(.int (ps.length:Int),.z),(.int (way b),.z)])/\Fnd ps b R:=by
 rcases Dd (ps:=sgn ps) (way:=way b) (n:=ps.length) rfl (wo ps) g.most g.pos with ⟨h1,h2⟩ | ⟨P,L,h1,h2⟩
 ·exact ⟨.non,h2,.inl ⟨h1,rfl⟩⟩
 ·exact ⟨_,h1,.inr ⟨P,L,rfl,h2⟩⟩
theorem Aj {ps:List Pt} (g:GoodSh ps) (b:ps.length<=8):∃ R,cL [(Shd ps,.z)]=some (.ok (R,.z),[(Shd ps,.z)])/\Fnd ps true R:=by
 obtain ⟨R,h,hf⟩:=Co g true
 have h:aK [(.dt (tb ps (eP ps.length)),.u),(.int (ps.length:Int),.z),(.int 1,.z)]=some (.ok (R,.z),[(.dt (tb ps (eP ps.length)),.u),(.int (ps.length:Int),.z),(.int 1,.z)]):=h
 refine ⟨R,?_,hf⟩
 have at':=pc g (by lia)
 have a:=lj ps
 generalize tb ps (eP ps.length)=T at *
 generalize L3.D.int (ps.length:Int)=N at *
 generalize Shd ps=H at *
 apply aW (ρ:=[some (H,.z)]) (ρ1:=[some (H,.z)]) rfl rfl
 ·unfold il
  apply dA
  ·exact aq h (av (aq at' (av (bd rfl) a8) rfl rfl rfl) (av (bh (av (bd rfl) a8) rfl a) (av i_c a8))) rfl rfl rfl
  ·rfl
 ·rfl
theorem Ak {ps:List Pt} (g:GoodSh ps) (b:ps.length<=8):∃ R,cM [(Shd ps,.z)]=some (.ok (R,.z),[(Shd ps,.z)])/\Fnd ps false R:=by
 obtain ⟨R,h,hf⟩:=Co g false
 have h:aK [(.dt (tb ps (eP ps.length)),.u),(.int (ps.length:Int),.z),(.int (-1),.z)]=some (.ok (R,.z),[(.dt (tb ps (eP ps.length)),.u),(.int (ps.length:Int),.z),(.int (-1),.z)]):=h
 refine ⟨R,?_,hf⟩
 have at':=pc g (by lia)
 have a:=lj ps
 generalize tb ps (eP ps.length)=T at *
 generalize L3.D.int (ps.length:Int)=N at *
 generalize Shd ps=H at *
 apply aW (ρ:=[some (H,.z)]) (ρ1:=[some (H,.z)]) rfl rfl
 ·unfold io
  apply dA
  ·exact aq h (av (aq at' (av (bd rfl) a8) rfl rfl rfl) (av (bh (av (bd rfl) a8) rfl a) (av i_c a8))) rfl rfl rfl
  ·rfl
 ·rfl
theorem Bu {α:Type} (xs:List α) (f:α->Int) (h:xs ≠ []):∃ x ∈ xs,tM [.lst (xs.map fun x=>L3.D.int (f x))]=some (.int (f x),.z)/\∀ y ∈ xs,f y<=f x:=by
 have hm:xs.map f ≠ []:=by simpa using h
 obtain ⟨x,b,e⟩:=Fo.mp (i5 hm)
 refine ⟨x,b,?_,fun y c=>by rw [e];exact rC (List.mem_map_of_mem c)⟩
 rw [e]
 have a:tM [.lst (xs.map fun x=>L3.D.int (f x))]=((aF (xs.map fun x=>L3.D.int (f x))).bind fun ns=>(fK ns).map fun m=>((.int m,.z):L3.D × Fl)):=rfl
 rw [a,gi f xs]
 change (fK (xs.map f)).map _=_
 rw [pK hm]
 rfl
theorem yF {ps:List Pt} (g:GoodSh ps) (p:ps.length<=8) {b:Bool} {R:L3.D} (hf:Fnd ps b R) {S L:L3.D} {v5 v6 v7:Option (L3.D × Fl)}:∃ U N w7,ja [some (S,.z),some (L,.z),some (Shd ps,.z),some (R,.z),some (.bl b,.z),v5,v6,v7]=some (.ok .nx,[some (S,.z),some (L,.z),some (Shd ps,.z),some (R,.z),some (.bl b,.z),U,N,w7]):=by
 have J:=wV g p b
 have fw:(rws ps b).length<=256:=FN (List.length_filter_le _ _) (yt _ p)
 have ne:=Bh (rws ps b)
 have mem:∀ r,r ∈ rws ps b ↔ Rw (wv (sgn ps) (way b)) ps.length r:=fun r=>Bo
 generalize rws ps b=X at *
 have I:Sh' R:=by
  rcases hf with ⟨_,rfl⟩ | ⟨P,_,rfl,k,_⟩
  ·exact C5
  ·exact sh_Nd p (rw_iff.mp k).1
 obtain ⟨t,K⟩:=I
 have C:jq [R]=some (.str t,.z):=K
 have O:=Ej t
 have last:∀ {v5 v7:Option (L3.D × Fl)},(sIf (cB (ah neX (al jq (ac (ae 3) ai)) (al jq (ac (ae 6) ai)))) (aU 1 (mC (.bl false))) dC) [some (S,.z),some (L,.z),some (Shd ps,.z),some (R,.z),some (.bl b,.z),v5,some (R,.z),v7]=some (.ok .nx,[some (S,.z),some (L,.z),some (Shd ps,.z),some (R,.z),some (.bl b,.z),v5,some (R,.z),v7]):=fun {v5 v7} =>
  dO (b:=false) (l6 (jf (bh (av (bd rfl) a8) rfl C) (bh (av (bd rfl) a8) rfl C) rfl rfl O) rfl) rfl rfl
 have first:∀ {cQ:SM} {o:Except L3.D Flw × Sto},cQ [some (S,.z),some (L,.z),some (Shd ps,.z),some (R,.z),some (.bl b,.z),some (.lst (Pl X),.u),some (.non,.z),v7]=some o->(aA (aR 5 (am eK (ac (ae 2) (ac (ae 4) ai)))) (aA (aR 6 (mC .non)) cQ)) [some (S,.z),some (L,.z),some (Shd ps,.z),some (R,.z),some (.bl b,.z),v5,v6,v7]=some o:=by
  intro cQ o d
  clear last ne
  generalize L3.D.lst (Pl X)=LX at *
  generalize Shd ps=H at *
  apply ak (ρ1:=[some (S,.z),some (L,.z),some (H,.z),some (R,.z),some (.bl b,.z),some (LX,.u),v6,v7])
  ·nomatch [J]
  apply ak (ρ1:=[some (S,.z),some (L,.z),some (H,.z),some (R,.z),some (.bl b,.z),some (LX,.u),some (.non,.z),v7])
  ·nofun
  exact d
 unfold ja
 rcases hf with ⟨h1,rfl⟩ | ⟨P,m,rfl,k,M,n,A⟩
 ·have h0:X=[]:=List.eq_nil_iff_forall_not_mem.mpr fun r d=>by
   have h:=(mem r).mp d
   have:=h.short
   have:=h.two
   lia
  rw [Fv h0] at ne
  refine ⟨some (.lst (Pl X),.u),some (.non,.z),v7,first ?_⟩
  apply ak
  ·exact dO (b:=false) (l6 (jf (bd rfl) (iF a8 rfl (Nat.le_of_ble_eq_true rfl)) rfl rfl ne) rfl) rfl rfl
  ·exact last
 ·have x:P ∈ X:=(mem P).mpr k
  have h0:X ≠ []:=fun z=>by rw [z] at x;cases x
  rw [Fw h0] at ne
  obtain ⟨q,B,E,i⟩:=Bu X (fun r:List Nat=>(r.length:Int)) h0
  have y:=(mem q).mp B
  have eL:q.length=m:=by
   have h1:=n q y
   have h2:(P.length:Int)<=(q.length:Int):=i P x
   lia
  obtain ⟨τ1,e1,a1,rfl⟩:=bI (bnd:=aj 0) (c:=fB) (elt:=i7) (fun τ=>∃ a,τ=[a]) (fun r:List Nat=>L3.D.tup (Nd r)) (fun _=>true) (fun r=>L3.D.int (r.length:Int)) (xs:=X) (τ:=[none]) ⟨none,rfl⟩ (by
   rintro r d τ ⟨a,rfl⟩
   have ln:=rO r
   generalize L3.D.int (r.length:Int)=LR at *
   generalize L3.D.tup (Nd r)=RR at *
   exact ⟨[some (RR,.z)],_,rfl,rfl,(fun h=>by cases h),fun _=>⟨.val LR .z,[some (RR,.z)],(LR,.z),[some (RR,.z)],by unfold i7;(exists ln),rfl,rfl,_,rfl⟩⟩)
  rw [FO.mpr (fun _ _=>rfl)] at e1
  obtain ⟨τ2,s,a2,rfl⟩:=bI (bnd:=aj 0) (c:=i8) (elt:=lf) (fun τ=>∃ a,τ=[a,some (.int (q.length:Int),.z)]) (fun r:List Nat=>L3.D.tup (Nd r)) (fun r=>decide ((r.length:Int)=(q.length:Int))) (fun r:List Nat=>L3.D.tup (Nd r)) (xs:=X) (τ:=[none,some (.int (q.length:Int),.z)]) ⟨none,rfl⟩ (by
   rintro r d τ ⟨a,rfl⟩
   have ln:=rO r
   have eq:=fy (r.length:Int) (q.length:Int)
   generalize decide ((r.length:Int)=(q.length:Int))=bb at *
   generalize L3.D.int (r.length:Int)=LR at *
   generalize L3.D.int (q.length:Int)=LQ at *
   generalize L3.D.tup (Nd r)=RR at *
   exact ⟨[some (RR,.z),some (LQ,.z)],[some (RR,.z),some (LQ,.z)],rfl,by unfold i8;(exists ln,eq),fun _=>⟨_,rfl⟩,fun _=>⟨.pl 0,[some (RR,.z),some (LQ,.z)],(RR,.z),[some (RR,.z),some (LQ,.z)],bd rfl,rfl,rfl,_,rfl⟩⟩)
  have G:X.filter (fun r=>decide ((r.length:Int)=(q.length:Int))) ≠ []:=fun z=>by
   have:q ∈ X.filter fun r=>decide ((r.length:Int)=(q.length:Int)):=FJ.mpr ⟨B,Fv rfl⟩
   rw [z] at this
   cases this
  obtain ⟨Q,T,w,f⟩:=Bk G
  obtain ⟨v,e⟩:=FJ.mp T
  have e:Q.length=m:=by have:=of_decide_eq_true e;lia
  have V:P=Q:=zu k M n A ((mem Q).mp v) e (fun r d z=>by have:=n r d;lia) fun r d hl=>f r (FJ.mpr ⟨(mem r).mpr d,Fv (by lia)⟩)
  subst V
  have j:(X.map fun r:List Nat=>L3.D.tup (Nd r)).length < 16777216:=by rw [Fh];lia
  have w:tG [.lst ((X.filter fun r=>decide ((r.length:Int)=(q.length:Int))).map fun r:List Nat=>L3.D.tup (Nd r))]=some (.tup (Nd P),.z):=w
  refine ⟨some (.lst (Pl X),.u),some (.tup (Nd P),.z),some (.int (q.length:Int),.z),first ?_⟩
  clear first f i mem n A
  generalize ((X.filter fun r=>decide ((r.length:Int)=(q.length:Int))).map fun r:List Nat=>L3.D.tup (Nd r))=Y at *
  have e1:bN (aj 0) fB i7 (Pl X) [none]=some (.ok (X.map fun r=>L3.D.int (r.length:Int)),[a1]):=e1
  generalize (X.map fun r:List Nat=>L3.D.int (r.length:Int))=Z at *
  have s:bN (aj 0) i8 lf (Pl X) [none,some (.int (q.length:Int),.z)]=some (.ok Y,[a2,some (.int (q.length:Int),.z)]):=s
  have j:(Pl X).length < 16777216:=j
  generalize Pl X=W at *
  generalize L3.D.int (q.length:Int)=LQ at *
  generalize L3.D.tup (Nd P)=RP at *
  generalize Shd ps=H at *
  have l1:pW [some (S,.z),some (L,.z),some (H,.z),some (RP,.z),some (.bl b,.z),some (.lst W,.u),some (.non,.z),v7]=some (.ok (.val (.lst Z) .u),[some (S,.z),some (L,.z),some (H,.z),some (RP,.z),some (.bl b,.z),some (.lst W,.u),some (.non,.z),v7]):=bp (rs:=[.pl 5]) (ρ1:=[some (S,.z),some (L,.z),some (H,.z),some (RP,.z),some (.bl b,.z),some (.lst W,.u),some (.non,.z),v7]) (ρ2:=[some (S,.z),some (L,.z),some (H,.z),some (RP,.z),some (.bl b,.z),some (.lst W,.l),some (.non,.z),v7]) rfl e1 j rfl
  have F:pV [some (S,.z),some (L,.z),some (H,.z),some (RP,.z),some (.bl b,.z),some (.lst W,.u),some (.non,.z),some (LQ,.z)]=some (.ok (.val (.lst Y) .u),[some (S,.z),some (L,.z),some (H,.z),some (RP,.z),some (.bl b,.z),some (.lst W,.u),some (.non,.z),some (LQ,.z)]):=bp (rs:=[.pl 5]) (ρ1:=[some (S,.z),some (L,.z),some (H,.z),some (RP,.z),some (.bl b,.z),some (.lst W,.u),some (.non,.z),some (LQ,.z)]) (ρ2:=[some (S,.z),some (L,.z),some (H,.z),some (RP,.z),some (.bl b,.z),some (.lst W,.l),some (.non,.z),some (LQ,.z)]) rfl s j rfl
  apply ak (ρ1:=[some (S,.z),some (L,.z),some (H,.z),some (RP,.z),some (.bl b,.z),some (.lst W,.u),some (RP,.z),some (LQ,.z)])
  ·refine j7 (b:=true) (l6 (jf (bd rfl) (iF a8 rfl (Nat.le_of_ble_eq_true rfl)) rfl rfl ne) rfl) rfl ?_
   apply ak (ρ1:=[some (S,.z),some (L,.z),some (H,.z),some (RP,.z),some (.bl b,.z),some (.lst W,.u),some (.non,.z),some (LQ,.z)])
   ·exact m4 (bh (av l1 a8) rfl E) rfl (Nat.le_of_ble_eq_true rfl) rfl
   ·exact m4 (bh (av F a8) rfl w) rfl (Nat.le_of_ble_eq_true rfl) rfl
  ·exact last
theorem yE {ns:List Int} (k:Nat) {v2 v3 v4 v5 v6 v7:Option (L3.D × Fl)}:∃ o q r e h s,i9 [some (.fls (ns.map .int),.z),some (.int k,.z),v2,v3,v4,v5,v6,v7]=some (.ok .nx,[some (.fls (ns.map .int),.z),some (.int k,.z),o,q,r,e,h,s]):=by
 obtain ⟨n,i⟩:=Al ns k
 obtain ⟨f,ps,es,g,t⟩:=uN n 8 (by decide) (by decide)
 have a:ps.length<=8:=by lia
 have es:eJ [(.lst [.int n],.u),(.int 8,.z)]=some (.ok (Shd ps,.z),[(.lst [.int f],.u),(.int 8,.z)]):=es
 obtain ⟨p,c1,f1⟩:=Aj g a
 obtain ⟨R2,c2,f2⟩:=Ak g a
 generalize L3.D.fls (ns.map .int)=S at *
 generalize L3.D.int (k:Int)=L at *
 obtain ⟨j,m,l,b1⟩:=yF g a f1 (S:=S) (L:=L) (v5:=v5) (v6:=v6) (v7:=v7)
 obtain ⟨b,d,c,b2⟩:=yF g a f2 (S:=S) (L:=L) (v5:=j) (v6:=m) (v7:=l)
 refine ⟨some (Shd ps,.z),some (R2,.z),some (.bl false,.z),b,d,c,?_⟩
 clear f1 f2 g
 unfold i9
 generalize Shd ps=H at *
 have lo:cF (ig 2 (bH (aj 3) (bH (aj 4) ik))) ja [.tup [p,.bl true],.tup [R2,.bl false]] [some (S,.z),some (L,.z),some (H,.z),v3,v4,v5,v6,v7]=some (.ok .nx,[some (S,.z),some (L,.z),some (H,.z),some (R2,.z),some (.bl false,.z),b,d,c]):=yZ rfl b1 (yZ rfl b2 rfl)
 apply ak (ρ1:=[some (S,.z),some (L,.z),some (H,.z),v3,v4,v5,v6,v7])
 ·nomatch [i,es]
 ·apply fM (ρ1:=[some (S,.z),some (L,.z),some (H,.z),v3,v4,v5,v6,v7])
  ·exact tW (iF (av (iF (av (aq c1 (av (bd rfl) a8) rfl rfl rfl) (av i_c a8)) rfl (Nat.le_of_ble_eq_true rfl)) (av (iF (av (aq c2 (av (bd rfl) a8) rfl rfl rfl) (av i_c a8)) rfl (Nat.le_of_ble_eq_true rfl)) a8)) rfl (Nat.le_of_ble_eq_true rfl)) rfl rfl
  ·rfl
  ·exact lo
set_option tactic.hygienic true in
theorem Ah (ns:List Int) (p:ns.length<=63):CA [(.fls (ns.map .int),.z)]=some (.ok (.bl true,.z),[(.fls (ns.map .int),.z)]):=by
 have c:∃ m:Nat,(if (if ((3:Int) < ((ns.map L3.D.int).length:Int)) then (3:Int) else ((ns.map L3.D.int).length:Int)) > 1 then (if ((3:Int) < ((ns.map L3.D.int).length:Int)) then (3:Int) else ((ns.map L3.D.int).length:Int)) else (1:Int))=(m:Int)/\m<=3:=by
  refine ⟨max 1 (min ns.length 3),?_,by lia⟩
  simp only [Fh]
  split <;> split <;> lia
 obtain ⟨m,hm,f⟩:=c
 obtain ⟨ρ',e,v1,v2,v3,v4,v5,v6,v7,rfl⟩:=bS (bnd:=aj 1) (b:=i9) (fun _ ρ=>∃ v1 v2 v3 v4 v5 v6 v7,ρ=[some (.fls (ns.map .int),.z),v1,v2,v3,v4,v5,v6,v7]) (ds:=bg 0 m) (ρ:=[some (.fls (ns.map .int),.z),none,none,none,none,none,none,none]) (k:=0) ⟨_,_,_,_,_,_,_,rfl⟩ (by
  rintro i d ρ hd ⟨v1,v2,v3,v4,v5,v6,v7,rfl⟩
  obtain ⟨hi,rfl⟩:=dn hd
  rw [Int.zero_add]
  obtain ⟨j,l,n,g,h,o,e⟩:=yE (ns:=ns) i (v2:=v2) (v3:=v3) (v4:=v4) (v5:=v5) (v6:=v6) (v7:=v7)
  exact ⟨_,_,rfl,.inl e,_,_,_,_,_,_,_,rfl⟩)
 have a:d8 [.int (if (if ((3:Int) < ((ns.map L3.D.int).length:Int)) then (3:Int) else ((ns.map L3.D.int).length:Int)) > 1 then (if ((3:Int) < ((ns.map L3.D.int).length:Int)) then (3:Int) else ((ns.map L3.D.int).length:Int)) else (1:Int))]=some (bg 0 m):=by
  rw [hm]
  exact hE (by lia) (by lia)
 apply aW (ρ:=[some (.fls (ns.map .int),.z),none,none,none,none,none,none,none]) rfl rfl
 ·apply ak
  ·apply fM
   ·(repeat' (first | with_reducible apply dN (h3:=a) | infer_instance | eq_refl))
   ·rfl
   ·exact e
  ·nofun
 ·rfl
end Bn
end
namespace Bn
open PySem L2 L3
theorem EX {l : PySem.W.OpenLaw} {w : World} {K : FG} {h : Heap} {mg : Str -> Option Value} {fa : Addr} (X : K.In h) (G : h.Ns mainGlobals mg) (ar : mg "law" = some (.ref fa)) (e : Ae K = tX) :
  ∃ fd : FuncData, (∀ (s : Shared) (v : Value), BindsTo s fd ⟨[v], []⟩ [("_law_script", v)]) /\ ∀ base : Heap, K.In base -> base.Ns mainGlobals mg -> FnOk l.prog w K mg base CX0 8 fa fd ["_law_script"] (wE K) := by
 have b : dsL.map (fun p => qe K p.1) = dsL.map (fun p => lA p.1 p.2) := congrArg (fun x => x.1) e
 have e1 : blL.map (PySem.W.nsIn K mainGlobals) = blL.map (fun _ => some none) := congrArg (fun x => x.2.1) e
 have Y : ciL.map (fun p => n4 K p.1) = ciL.map (fun p => some p.2) := congrArg (fun x => x.2.2.1) e
 have e3 : csL.map (fun p => wD K p.1) = csL.map (fun p => some p.2) := congrArg (fun x => x.2.2.2) e
 have B : Bl mg := ⟨bX X G e1 0 rfl, bX X G e1 1 rfl, bX X G e1 2 rfl, bX X G e1 3 rfl, bX X G e1 4 rfl, bX X G e1 5 rfl, bX X G e1 6 rfl, bX X G e1 7 rfl, bX X G e1 8 rfl, bX X G e1 9 rfl, bX X G e1 10 rfl, bX X G e1 11 rfl, bX X G e1 12 rfl, bX X G e1 13 rfl, bX X G e1 14 rfl, bX X G e1 15 rfl, bX X G e1 16 rfl, bX X G e1 17 rfl, bX X G e1 18 rfl, bX X G e1 19 rfl⟩
 have D0 : Def K mg "is_whole" eW := aM X G b 0 rfl
 have D1 : Def K mg "is_point" eY := aM X G b 1 rfl
 have D2 : Def K mg "are_points" c8 := aM X G b 2 rfl
 have D3 : Def K mg "has_rising_x" cf := aM X G b 3 rfl
 have D4 : Def K mg "bend" nC := aM X G b 4 rfl
 have D5 : Def K mg "threes" iO := aM X G b 5 rfl
 have D6 : Def K mg "first_on_line" bU := aM X G b 6 rfl
 have D7 : Def K mg "is_sheet" eX := aM X G b 7 rfl
 have D8 : Def K mg "check_sheet" cK := aM X G b 8 rfl
 have D9 : Def K mg "turn_at" gv := aM X G b 9 rfl
 have V : Def K mg "all_turns" dE := aM X G b 10 rfl
 have bP : Def K mg "onward_table" ce := aM X G b 11 rfl
 have Z : Def K mg "longest_row" cH := aM X G b 12 rfl
 have a6 : Def K mg "longest_cup" cI := aM X G b 13 rfl
 have bQ : Def K mg "longest_cap" cJ := aM X G b 14 rfl
 have b3 : Def K mg "_law_cell" iS := aM X G b 15 rfl
 have ax : Def K mg "_law_mix" ky := aM X G b 16 rfl
 have b4 : Def K mg "_law_box" kz := aM X G b 17 rfl
 have a4 : Def K mg "_law_take" iP := aM X G b 18 rfl
 have b5 : Def K mg "_law_whole" gw := aM X G b 19 rfl
 have a0 : Def K mg "_law_bend" iT := aM X G b 20 rfl
 have a3 : Def K mg "_law_free" iR := aM X G b 21 rfl
 have a5 : Def K mg "_law_sheet" gx := aM X G b 22 rfl
 have ab : Def K mg "_law_up" nB := aM X G b 23 rfl
 have be : Def K mg "_law_rising" eV := aM X G b 24 rfl
 have bb : Def K mg "_law_bends" gJ := aM X G b 25 rfl
 have a7 : Def K mg "_law_parts" gz := aM X G b 26 rfl
 have az : Def K mg "_law_rows" iQ := aM X G b 27 rfl
 obtain ⟨f, fd, F0, hf⟩ : Def K mg "law" fU := aM X G b 28 rfl
 cases ar.symm.trans hf
 have F := F0
 obtain ⟨oc, od, kV, doc, pm, an, b0, ct, b6, ef, lk, c3⟩ := F0.ex
 subst ef
 obtain ⟨c0, Q0⟩ := rR X G Y 0 (n := "MOST_POINTS") (v := 24) rfl
 obtain ⟨cm, Q1⟩ := rR X G Y 1 (n := "UP") (v := 1) rfl
 obtain ⟨ck, Q2⟩ := rR X G Y 2 (n := "DOWN") (v := -1) rfl
 refine ⟨PySem.W.fnOf "law" "law" (aQ fU) (aJ fU) (ag fU) .none kV doc pm an b0 ct, fun s v => .of_eq rfl, fun base _ _ => ?_⟩
 have N := oC (P := l.prog) (w := w) (base := base) B D0
 have R := oE (P := l.prog) (w := w) (base := base) B D1 N
 have z := lH (P := l.prog) (w := w) (base := base) B D2 R Q0
 have i := jK (P := l.prog) (w := w) (base := base) B D3
 have U := zt (P := l.prog) (w := w) (base := base) B D4
 have A := sg (P := l.prog) (w := w) (base := base) B D5
 have g := jg (P := l.prog) (w := w) (base := base) B D6 U A
 have M := oD (P := l.prog) (w := w) (base := base) B D7 z g i
 have q := ku (P := l.prog) (w := w) (base := base) B D8 M
 have T := qp (P := l.prog) (w := w) (base := base) B D9 U
 have c := me (P := l.prog) (w := w) (base := base) B V q A T
 have j := jJ (P := l.prog) (w := w) (base := base) B bP
 have a := km (P := l.prog) (w := w) (base := base) B Z j
 have m := ko (P := l.prog) (w := w) (base := base) B a6 c a Q1
 have o := kr (P := l.prog) (w := w) (base := base) B bQ c a Q2
 have C := so (P := l.prog) (w := w) (base := base) B b3
 have O := vZ (P := l.prog) (w := w) (base := base) B ax
 have L := wa (P := l.prog) (w := w) (base := base) B b4 C O
 have J := si (P := l.prog) (w := w) (base := base) B a4
 have y := qr (P := l.prog) (w := w) (base := base) B b5
 have d := su (P := l.prog) (w := w) (base := base) B a0
 have I := sk (P := l.prog) (w := w) (base := base) B a3 d
 have u := qt (P := l.prog) (w := w) (base := base) B a5 I J
 have S := zr (P := l.prog) (w := w) (base := base) B ab d
 have k := oB (P := l.prog) (w := w) (base := base) B be y
 have t := qv (P := l.prog) (w := w) (base := base) B bb k S
 have r := qu (P := l.prog) (w := w) (base := base) B a7
 have D := sj (P := l.prog) (w := w) (base := base) B az t r
 exact FnOk.imp (BK (P := l.prog) (w := w) (base := base) B F L D u o m) fun vs H Q E h => BD (fun ns hn => ⟨_, Ah ns hn⟩) h
theorem walkL : PySem.W.WalkO viL loL (fun _ _ => True) (fun _ h => ∃ K : FG, K.In h /\ Ae K = tX) PySem.Challenge.rw_bentrows_k10_the_longest_rows.row.toRowW ⟨"law", aQ fU, aJ fU, ag fU, stPos fU⟩ [] (fun f c => PySem.call f c) :=
 L2.walk_ofS (l := PySem.Challenge.rw_bentrows_k10_the_longest_rows) (n := 63) (k := 8) (x := "_law_script") (S := fun K => Ae K = tX) (CX := CX0) (sp := wE) rfl (by decide) rfl ⟨rfl, by decide, by decide, rfl⟩ (fun _ _ z => z) (fun _ _ _ _ _ e X G hm => EX X G hm e) (fun _ _ a ns d b g => ⟨a, ns, rfl, g, b, d, fun _ => rfl⟩) fun _ _ _ _ z => z
end Bn
set_option tactic.hygienic true
open PySem PySem.W PyProof.Rows
set_option maxRecDepth 100000 in
set_option maxHeartbeats 0 in
theorem PySem.Challenge.cw_bentrows_k10_the_longest_rows_holds : PySem.Challenge.rw_bentrows_k10_the_longest_rows.Holds :=
 holds_law Bn.okL fun said => holds_open (r := PySem.Challenge.rw_bentrows_k10_the_longest_rows.row) Bn.leftL (fun _ _ e => ⟨_, L2.fragAt_in _, e⟩) (fun _ _ _ ⟨K, X, e⟩ k => ⟨K, X.keeps k, e⟩) (fun _ _ => trivial) (fun _ _ _ _ _ => trivial) (by kernel_rfl) (by kernel_rfl) (by kernel_rfl) (fun s e => recFacts_of e) (by rfl) said (by kernel_rfl) ⟨rfl, rfl, rfl, rfl, rfl, by decide +kernel⟩ ⟨[.list []], by decide +kernel, by decide +kernel⟩ Bn.walkL
