import PyProof.Rows.All
import Wide.All
import OpenK.AllK
import Wide.FinOn
import Lean
import PyProof.EqAt
import PyProof.EqKinds
import PyProof.TupleCall
import PyProof.P3Eq
import PyProof.NeData
import PyProof.ListRange
import PyProof.Rows.CallKwBuiltin
import PyProof.Rows.Range3
import PyProof.DictWalks
import PyProof.MinMaxWalk
import PyProof.WalkInts
import PyProof.Walk
import PyProof.WalkLemmas
import PyProof.RulesTry
import PyProof.Rows.SortShell
import PyProof.Rows.SortWalk
import PyProof.Rows.SortRuns
import PyProof.Rows.SetFrom
import PyProof.SetKind
import PyProof.SetScanFacts
import PyProof.FactsAll.subtypes_4
import PyProof.FactsAll.set_1
import PyProof.DictDisplay
import OpenK.KOwn
import KE.KTryMore
import KE.RegKTryMore
import PyProof.Rows.Catch
import KE.KIsAll
import KE.RegKIsAll
import PyProof.ExcArgsOwn
import PySem.Challenge.RW_bentrows_k24_low_and_high_rows
set_option genSizeOf false
set_option Elab.async false
noncomputable section
set_option linter.all false
set_option maxRecDepth 100000
set_option maxHeartbeats 4000000
section
abbrev FG:=PySem.W.Frag
open PySem PySem.Spec PyProof.Rows
abbrev F7:=@wpAny_bind
abbrev F8:=@wpAny_pure
abbrev F9:=@wpAny_holding
abbrev Ga:=@List.mem_cons_self
abbrev Gb:=@List.mem_cons_of_mem
abbrev Gd:=@Heap.get?_push_of_some
abbrev Ge:=@Option.map_eq_some_iff
abbrev Gf:=@List.mem_append_left
abbrev Gg:=@List.mem_append_right
abbrev Gh:=@List.mem_cons
abbrev Gi:=@List.getElem?_eq_getElem
abbrev Gj:=@Heap.lt_size
abbrev Gk:=@List.mem_append
abbrev Gn:=@Heap.get?_push_size
abbrev Go:=@List.length_map
abbrev Gp:=@List.getElem?_eq_some_iff
abbrev Gq:=@List.mem_of_getElem?
abbrev Gr:=@List.sublist_append_right
abbrev Gs:=@List.mem_map
abbrev Gu:=@List.getElem?_map
abbrev Gv:=@Nat.le_refl
abbrev Gw:=@Bool.false_ne_true
abbrev Gx:=@Nat.ne_of_lt
abbrev Gy:=@List.size_toArray
abbrev Gz:=@List.map_cons
abbrev GA:=@decide_eq_true
abbrev GB:=@decide_eq_false
abbrev GC:=@Nat.lt_of_lt_of_le
abbrev GD:=@Nat.zero_add
abbrev GE:=@Heap.get?_update_self
abbrev GF:=@List.length_append
abbrev GG:=@List.length_cons
abbrev GH:=@List.length_take
abbrev GI:=@Option.map_some
abbrev GJ:=@Option.bind_eq_some_iff
abbrev GK:=@List.mem_singleton
abbrev GL:=@Bool.false_eq_true
abbrev GM:=@List.mem_filter
abbrev GN:=@Heap.get?_update_other
abbrev GO:=@Heap.size_push
abbrev GP:=@wpAny_truthy_bool
abbrev GQ:=@Nat.le_trans
abbrev GR:=@List.filter_eq_self
abbrev GS:=@List.mem_flatMap
abbrev GT:=@List.map_map
abbrev GU:=@Option.some.inj
abbrev GV:=@List.length_eq_zero_iff
end
section
namespace L2
open PySem
def aQ (s : Stmt) : Arguments := match s with
 | .FunctionDef _ a _ _ _ _ _ _ _ _ => a
 | _ => { posonlyargs := [], args := [], vararg := none, kwonlyargs := [], kw_defaults := [], kwarg := none, defaults := [] }
def aE (s : Stmt) : List Stmt := match s with
 | .FunctionDef _ _ b _ _ _ _ _ _ _ => b
 | _ => []
def ad (s : Stmt) : Scope := match s with
 | .FunctionDef _ _ _ _ _ _ sc _ _ _ => sc
 | _ => { kind := .function, names := [], isGenerator := false, isCoroutine := false }
def Am (h : Heap) : FG := (List.range h.objs.size).filterMap fun a => (h.get? a).map fun o => (a, o)
def ah (K : FG) (n : Str) : Addr := match PySem.W.nsIn K mainGlobals n with
 | some (some (.ref f)) => f
 | _ => 0
abbrev qt := Str × Str × Arguments × FuncBody × Scope × Addr × List (Str × Addr) × Value × Addr × Bool
def si (K : FG) (n : Str) : Option qt := match PySem.W.nsIn K mainGlobals n with
 | some (some (.ref f)) => (match K.lookup f with
  | some ⟨_, _, .func fd, _⟩ => some (fd.name, fd.qualname, fd.params, fd.body, fd.scope, fd.globals, fd.closure, fd.defaults, fd.builtins, PySem.W.codeIn K fd.code n)
  | _ => none)
 | _ => none
def mO (n : Str) (st : Stmt) : Option qt := some (n, n, aQ st, .stmts (aE st), ad st, mainGlobals, [], .none, builtinsNs, true)
def pV (K : FG) (n : Str) : Option Int := match PySem.W.nsIn K mainGlobals n with
 | some (some (.int v _)) => some v
 | _ => none
def yq (K : FG) (n : Str) : Option Str := match PySem.W.nsIn K mainGlobals n with
 | some (some (.str v _)) => some v
 | _ => none
open PySem.W PyProof.Rows in
theorem xg {p q : Program} {loose : List Str} {g : Shared → Bool} {α : Type} {c : Shared → α} {d : World → α} {N m : Nat} {ann : Option Value}
  (e : opening p = plainProg p.main.scope.names) (h : Nat.ble 600 N = true) (f : ∀ s, fenceModules? p s = some s)
  (sz : ∀ w : World, ((boot_heap w.params).isNs mainGlobals && (Array.mk [] : Array GenState).size == 0, (boot_heap w.params).objs.size, (boot_heap w.params).nsMap mainGlobals "__annotations__") = (true, m, ann))
  (go : ∀ (w : World) (os : OsState), (PySem.W.Fast.tw14082659384304107361 PySem.W.Fast.tw14364793385576792824 p w m ann N ⟨boot_heap w.params, Array.mk [], boot_drawn, boot_toks, os⟩ (topStub p)).map (fun s => ((staticsOk (importedModules p.main.body) (boot_heap w.params) s.heap && namesBound p s.heap && gensDone s && laidKept (boot_heap w.params) s.heap), PySem.W.Fast.tw4187177175401517315 q loose (importedModules p.main.body) g true s, c s)) = some (true, openGood q loose, d w)) : LeftO p q loose g c d N := fun w => by
 obtain ⟨⟨n, i, o, tk, os⟩, l, k⟩ := Ge.mp (boot_open e h f w)
 obtain ⟨rfl, rfl, rfl, rfl⟩ : n = boot_heap w.params ∧ i = Array.mk [] ∧ o = boot_drawn ∧ tk = boot_toks := by simpa using k
 have sw := sz w
 have a := go w os
 rw [← PySem.W.Fast.te14082659384304107361, ← PySem.W.Fast.te14364793385576792824, ← PySem.W.Fast.te4187177175401517315] at a
 simp only [Prod.mk.injEq] at sw
 obtain ⟨s, j, b⟩ := Ge.mp a
 simp only [Prod.mk.injEq] at b
 have tt : topFrom treeTable p w N ⟨boot_heap w.params, Array.mk [], boot_drawn, boot_toks, os⟩ = some s := by
  unfold topFrom
  dsimp only
  rw [sw.1, sw.2.1, sw.2.2, j]
  change (match staticsOk (importedModules p.main.body) (boot_heap w.params) s.heap && namesBound p s.heap && gensDone s && laidKept (boot_heap w.params) s.heap with | true => some s | false => none) = some s
  rw [b.1]
 unfold openEnds
 rw [l]
 change Option.map _ (topFrom treeTable p w N _) = _
 rw [tt]
 exact congrArg some (Prod.ext b.2.1 b.2.2)
theorem wz (h : PySem.W.Fast.tw9446332074065402090 l = true) : l.wellSaid = true := by rw [← PySem.W.Fast.te9446332074065402090] at h; exact h
abbrev mroV : List Value := [.type "ValueError", .type "Exception", .type "BaseException", .type "object"]
end L2
namespace L3
open PySem L2
def iZ (K : FG) (n : Str) : Bool := match PySem.W.nsIn K mainGlobals n with
 | some (some (.ref _)) => true
 | _ => false
abbrev qu := Bool × Option (Option Value) × Option (Option Value) × Bool × Option (Option Value) × Option Bool × Option Bool × Bool
def vX (K : FG) (r : Str) : qu := (iZ K r, PySem.W.findIn K (.ref (ah K r)) "__getattribute__", PySem.W.findIn K (.ref (ah K r)) "__getattr__", PySem.W.isClsIn K (ah K r), PySem.W.findIn K (.ref (ah K r)) "__class__", PySem.W.mroIn K (ah K r) (.type "object"), PySem.W.mroIn K (ah K r) (.type "BaseException"), PySem.W.excIn K (ah K r) mroV "ValueError.__new__")
def qb : qu := (true, some (some (.builtin "BaseException.__getattribute__")), some none, true, some (some (.builtin "object.__class__")), some true, some true, true)
def p9 (K : FG) : Option (Option Value) × Option Bool := (PySem.W.specialIn K (.builtin "object.__class__") "__get__", PySem.W.takesIn K (.builtin "object.__class__"))
def lE : Option (Option Value) × Option Bool := (some (some (.builtin "getset_descriptor.__get__")), some true)
end L3
namespace Bn
open PySem L2 L3
def top (i : Nat) : Stmt := PySem.Challenge.pw_bentrows_k24_low_and_high_rows.main.body.getD i (.Pass ⟨0, 0, 0, 0⟩)
abbrev fG : Stmt := top 13
abbrev fI : Stmt := top 14
abbrev fJ : Stmt := top 15
abbrev bo : Stmt := top 16
abbrev dB : Stmt := top 19
abbrev cC : Stmt := top 20
abbrev pq : Stmt := top 21
abbrev jz : Stmt := top 22
abbrev cb : Stmt := top 23
abbrev fH : Stmt := top 24
abbrev cX : Stmt := top 25
abbrev iP : Stmt := top 26
abbrev en : Stmt := top 27
abbrev eg : Stmt := top 31
abbrev fE : Stmt := top 34
abbrev dA : Stmt := top 35
abbrev bL : Stmt := top 36
abbrev iQ : Stmt := top 37
abbrev fK : Stmt := top 38
abbrev jE : Stmt := top 40
abbrev lu : Stmt := top 41
abbrev lw : Stmt := top 42
abbrev jA : Stmt := top 43
abbrev iR : Stmt := top 44
abbrev dz : Stmt := top 45
abbrev jF : Stmt := top 46
abbrev jD : Stmt := top 47
abbrev iS : Stmt := top 48
abbrev lq : Stmt := top 49
abbrev pj : Stmt := top 50
abbrev fF : Stmt := top 51
abbrev iW : Stmt := top 52
abbrev iU : Stmt := top 53
abbrev iV : Stmt := top 54
abbrev jB : Stmt := top 55
abbrev eh : Stmt := top 56
abbrev iT : Stmt := top 57
abbrev jC : Stmt := top 58
abbrev ic : Stmt := top 59
abbrev dsL : List (Str × Stmt) := [(("is_whole" : Str), fG), (("is_point" : Str), fI), (("is_place" : Str), fJ), (("are_rising_places" : Str), bo), (("are_points" : Str), dB), (("has_rising_x" : Str), cC), (("bend" : Str), pq), (("threes" : Str), jz), (("first_on_line" : Str), cb), (("is_sheet" : Str), fH), (("check_sheet" : Str), cX), (("turn_at" : Str), iP), (("all_turns" : Str), en), (("row_bends" : Str), eg), (("side_row" : Str), fE), (("is_ring_by" : Str), dA), (("turns_with_ring" : Str), bL), (("low_row" : Str), iQ), (("high_row" : Str), fK), (("_law_cell" : Str), jE), (("_law_mix" : Str), lu), (("_law_box" : Str), lw), (("_law_take" : Str), jA), (("_law_whole" : Str), iR), (("_law_mixed_up" : Str), dz), (("_law_bend" : Str), jF), (("_law_free" : Str), jD), (("_law_sheet" : Str), iS), (("_law_odd" : Str), lq), (("_law_up" : Str), pj), (("_law_rising" : Str), fF), (("_law_bends" : Str), iW), (("_law_parts" : Str), iU), (("_law_marks" : Str), iV), (("_law_side" : Str), jB), (("_law_is_ring" : Str), eh), (("_law_rings" : Str), iT), (("_law_said" : Str), jC), (("law" : Str), ic)]
abbrev blL : List Str := [("len" : Str), ("range" : Str), ("abs" : Str), ("divmod" : Str), ("enumerate" : Str), ("tuple" : Str), ("isinstance" : Str), ("int" : Str), ("bool" : Str), ("all" : Str), ("str" : Str), ("max" : Str), ("min" : Str), ("list" : Str), ("dict" : Str), ("repr" : Str), ("sorted" : Str), ("set" : Str), ("zip" : Str), ("reversed" : Str)]
abbrev ciL : List (Str × Int) := [(("MOST_POINTS" : Str), (24 : Int)), (("DOWN" : Str), (-1 : Int)), (("LEAST_CORNERS" : Str), (3 : Int)), (("UP" : Str), (1 : Int))]
abbrev csL : List (Str × Str) := []
abbrev xrL : List String := ["NoSheet", "NoRing"]
abbrev xcL : List Str := [("NoSheet" : Str), ("NoRing" : Str), ("Apart" : Str), ("Bare" : Str), ("BentError" : Str), ("NoNumber" : Str), ("NoPlace" : Str), ("NoRow" : Str), ("NoText" : Str), ("OnLine" : Str), ("TooMany" : Str)]
abbrev xbL : List Str := [("ValueError" : Str)]
def Bs (K : FG) : List (Option qt) × List (Option (Option Value)) × List (Option Int) × List (Option Str) × List qu × List Bool × List (Option (Option Value)) × (Option (Option Value) × Option Bool) × List (Option Bool) × List (Option Bool) := (dsL.map (fun p => si K p.1), blL.map (PySem.W.nsIn K mainGlobals), ciL.map (fun p => pV K p.1), csL.map (fun p => yq K p.1), xrL.map (fun r : String => vX K r), xcL.map (iZ K), xbL.map (PySem.W.nsIn K mainGlobals), p9 K, [PySem.W.kitOne K (.ref (ah K "NoSheet")) (.ref (ah K "Apart")), PySem.W.kitOne K (.ref (ah K "NoRing")) (.ref (ah K "Apart")), PySem.W.kitOne K (.ref (ah K "NoSheet")) (.ref (ah K "Bare")), PySem.W.kitOne K (.ref (ah K "NoRing")) (.ref (ah K "Bare")), PySem.W.kitOne K (.ref (ah K "NoSheet")) (.ref (ah K "BentError")), PySem.W.kitOne K (.ref (ah K "NoRing")) (.ref (ah K "BentError")), PySem.W.kitOne K (.ref (ah K "NoSheet")) (.ref (ah K "NoNumber")), PySem.W.kitOne K (.ref (ah K "NoRing")) (.ref (ah K "NoNumber")), PySem.W.kitOne K (.ref (ah K "NoSheet")) (.ref (ah K "NoPlace")), PySem.W.kitOne K (.ref (ah K "NoRing")) (.ref (ah K "NoPlace")), PySem.W.kitOne K (.ref (ah K "NoSheet")) (.ref (ah K "NoRing")), PySem.W.kitOne K (.ref (ah K "NoRing")) (.ref (ah K "NoRing")), PySem.W.kitOne K (.ref (ah K "NoSheet")) (.ref (ah K "NoRow")), PySem.W.kitOne K (.ref (ah K "NoRing")) (.ref (ah K "NoRow")), PySem.W.kitOne K (.ref (ah K "NoSheet")) (.ref (ah K "NoSheet")), PySem.W.kitOne K (.ref (ah K "NoRing")) (.ref (ah K "NoSheet")), PySem.W.kitOne K (.ref (ah K "NoSheet")) (.ref (ah K "NoText")), PySem.W.kitOne K (.ref (ah K "NoRing")) (.ref (ah K "NoText")), PySem.W.kitOne K (.ref (ah K "NoSheet")) (.ref (ah K "OnLine")), PySem.W.kitOne K (.ref (ah K "NoRing")) (.ref (ah K "OnLine")), PySem.W.kitOne K (.ref (ah K "NoSheet")) (.ref (ah K "TooMany")), PySem.W.kitOne K (.ref (ah K "NoRing")) (.ref (ah K "TooMany")), PySem.W.kitOne K (.ref (ah K "NoSheet")) (.type "ValueError"), PySem.W.kitOne K (.ref (ah K "NoRing")) (.type "ValueError")], [PySem.W.exmOne K (.ref (ah K "NoSheet")) (.ref (ah K "BentError")), PySem.W.exmOne K (.ref (ah K "NoRing")) (.ref (ah K "BentError"))])
def vL : List (Option qt) × List (Option (Option Value)) × List (Option Int) × List (Option Str) × List qu × List Bool × List (Option (Option Value)) × (Option (Option Value) × Option Bool) × List (Option Bool) × List (Option Bool) := (dsL.map (fun p => mO p.1 p.2), blL.map (fun _ => some none), ciL.map (fun p => some p.2), csL.map (fun p => some p.2), xrL.map (fun _ : String => qb), xcL.map (fun _ => true), xbL.map (fun _ => some none), lE, [some false, some false, some false, some false, some true, some true, some false, some false, some false, some false, some false, some true, some false, some false, some true, some false, some false, some false, some false, some false, some false, some false, some true, some true], [some true, some true])
theorem okL : PySem.Challenge.rw_bentrows_k24_low_and_high_rows.wellSaid = true := wz (by kernel_rfl)
abbrev loL : List Str := [("BentError" : Str), ("NoSheet" : Str), ("NoPlace" : Str), ("NoNumber" : Str), ("NoRow" : Str), ("Apart" : Str), ("NoRing" : Str), ("TooMany" : Str), ("Bare" : Str), ("OnLine" : Str), ("NoText" : Str), ("is_whole" : Str), ("is_point" : Str), ("is_place" : Str), ("are_rising_places" : Str), ("MOST_POINTS" : Str), ("are_points" : Str), ("has_rising_x" : Str), ("bend" : Str), ("threes" : Str), ("first_on_line" : Str), ("is_sheet" : Str), ("check_sheet" : Str), ("turn_at" : Str), ("all_turns" : Str), ("UP" : Str), ("DOWN" : Str), ("row_bends" : Str), ("LEAST_CORNERS" : Str), ("side_row" : Str), ("is_ring_by" : Str), ("turns_with_ring" : Str), ("low_row" : Str), ("high_row" : Str), ("_law_cell" : Str), ("_law_mix" : Str), ("_law_box" : Str), ("_law_take" : Str), ("_law_whole" : Str), ("_law_mixed_up" : Str), ("_law_bend" : Str), ("_law_free" : Str), ("_law_sheet" : Str), ("_law_odd" : Str), ("_law_up" : Str), ("_law_rising" : Str), ("_law_bends" : Str), ("_law_parts" : Str), ("_law_marks" : Str), ("_law_side" : Str), ("_law_is_ring" : Str), ("_law_rings" : Str), ("_law_said" : Str)]
abbrev viL : Program := PySem.W.view PySem.Challenge.rw_bentrows_k24_low_and_high_rows.row.prog [59]
theorem leftL : PySem.W.LeftO PySem.Challenge.rw_bentrows_k24_low_and_high_rows.row.prog viL loL (fun s => PySem.W.recOk (PySem.W.RowW.records PySem.Challenge.rw_bentrows_k24_low_and_high_rows.row.toRowW) s) (fun s => Bs (Am s.heap)) (fun _ => vL) 40000 :=
 xg (m := 11) (ann := some (.ref 6)) (by kernel_rfl) rfl (fun _ => rfl) (fun w => by kernel_rfl) (fun w os => by kernel_rfl)
end Bn
end
section
namespace L2
open PySem PySem.Spec PyProof.Rows
abbrev Key:=Sum Int Str
def oN:Key->Value->Bool
 | .inl k,v=>Value.isInt k v
 | .inr x,v=>Value.isStrOf x v
def keyH (w:World):Key->Int
 | .inl k=>hashInt k
 | .inr x=>hashStr w x
theorem bh:∀ {k:Key} {v:Value},oN k v=true->(∃ i t,k=Sum.inl i/\v=Value.int i t)\/(∃ x t,k=Sum.inr x/\v=Value.str x t)
 | .inl i,v,h=>by
  obtain ⟨t,e⟩:=Value.isInt_shape (k:=i) (v:=v) h
  exact .inl ⟨i,t,rfl,e⟩
 | .inr x,v,h=>by
  obtain ⟨t,e⟩:=Value.isStrOf_shape (x:=x) (v:=v) h
  exact .inr ⟨x,t,rfl,e⟩
theorem xk (i:Int) (t:Tok):oN (.inl i) (.int i t)=true:=by simp [oN,Value.isInt]
theorem xj (x:Str) (t:Tok):oN (.inr x) (.str x t)=true:=by simp [oN,Value.isStrOf]
theorem Fy (a b:Int):decide ((Sum.inl a:Key)=Sum.inl b)=(a == b):=by grind
theorem Fu (a b:Str):decide ((Sum.inr a:Key)=Sum.inr b)=decide (a=b):=by grind
theorem Fw (a:Int) (b:Str):decide ((Sum.inl a:Key)=Sum.inr b)=false:=GB (fun q=>nomatch q)
theorem Fv (a:Str) (b:Int):decide ((Sum.inr a:Key)=Sum.inl b)=false:=GB (fun q=>nomatch q)
def bM (prog:Program) (w:World):PySem.KeyKind prog w Key where
 is:=oN
 hash:=keyH w
 inj:=fun v a b f d=>by
  rcases bh f with ⟨i,t,rfl,rfl⟩ | ⟨x,t,rfl,rfl⟩
  ·rcases bh d with ⟨j,u,rfl,e⟩ | ⟨y,u,rfl,e⟩
   ·injection e with e1 _;rw [e1]
   ·exact nomatch e
  ·rcases bh d with ⟨j,u,rfl,e⟩ | ⟨y,u,rfl,e⟩
   ·exact nomatch e
   ·injection e with e1 _;rw [e1]
 byValue:=fun k v h=>by
  rcases bh h with ⟨i,t,rfl,rfl⟩ | ⟨x,t,rfl,rfl⟩ <;> rfl
 pyHash:=fun c h=>by
  rcases bh c with ⟨i,t,rfl,rfl⟩ | ⟨x,t,rfl,rfl⟩
  ·exact wpAny_pyHash_int h
  ·exact wpAny_pyHash_str h
 eqBool:=fun hu c h=>by
  rcases bh hu with ⟨i,t,rfl,rfl⟩ | ⟨x,t,rfl,rfl⟩
  ·rcases bh c with ⟨j,u,rfl,rfl⟩ | ⟨y,u,rfl,rfl⟩
   ·rw [Fy] at h;exact wpAny_eqBool_int h
   ·rw [Fw] at h;exact SeqAt.EqAt.int_str i t y u _ _ _ _ h
  ·rcases bh c with ⟨j,u,rfl,rfl⟩ | ⟨y,u,rfl,rfl⟩
   ·rw [Fv] at h;exact SeqAt.EqAt.str_int x t j u _ _ _ _ h
   ·rw [Fu] at h;exact wpAny_eqBool_str h
 «strs»:=fun k x t v h=>by
  rcases bh h with ⟨i,u,rfl,e⟩ | ⟨y,u,rfl,e⟩
  ·exact nomatch e
  ·injection e with e1 _
   subst e1
   cases v <;> rfl
theorem rF (prog:Program) (w:World) (i:Int) (t:Tok):(bM prog w).is (.inl i) (.int i t)=true:=xk i t
theorem rE (prog:Program) (w:World) (x:Str) (t:Tok):(bM prog w).is (.inr x) (.str x t)=true:=xj x t
end L2
namespace L2
open PySem PySem.Spec PyProof.Rows
inductive V where
 | non | bl (b:Bool) | int (i:Int) | str (x:Str) | byt (b:Array UInt8) | flt (b:UInt64) | ref (a:Addr) | ty (n:String)
 deriving DecidableEq
def RelV:V->Value->Prop
 | .non,u=>u=Value.none
 | .bl b,u=>u=Value.bool b
 | .int i,u=>∃ t,u=Value.int i t
 | .str x,u=>∃ t,u=Value.str x t
 | .byt b,u=>∃ t,u=Value.bytes b t
 | .flt b,u=>∃ t,u=Value.float b t
 | .ref a,u=>u=Value.ref a
 | .ty n,u=>u=Value.type n
abbrev Vals:List V->List Value->Prop:=Paired RelV
theorem Vals.length (r:Vals xs us):xs.length=us.length:=Paired.length r
theorem Vals.get:∀ {xs:List V} {us:List Value} {i:Nat} {x:V},Vals xs us->xs[i]?=some x->∃ u,us[i]?=some u/\RelV x u
 | _,_,_,_,.nil,e=>by simp at e
 | _,_,0,_,.cons r _,e=>by simp at e;subst e;exact ⟨_,rfl,r⟩
 | _,_,i+1,x,.cons _ t,e=>by
  obtain ⟨u,h1,h2⟩:=Vals.get (i:=i) (x:=x) t (by simpa using e)
  exact ⟨u,by simpa using h1,h2⟩
theorem Vals.set (r:RelV x u):∀ {xs:List V} {us:List Value} (i:Nat),Vals xs us->Vals (xs.set i x) (us.set i u)
 | _,_,_,.nil=>.nil
 | _,_,0,.cons _ t=>.cons r t
 | _,_,i+1,.cons q t=>.cons q (Vals.set r i t)
theorem Vals.append:∀ {xs ys:List V} {us ws:List Value},Vals xs us->Vals ys ws->Vals (xs ++ ys) (us ++ ws)
 | _,_,_,_,.nil,s=>s
 | _,_,_,_,.cons r t,s=>.cons r (Vals.append t s)
theorem Vals.take:∀ {xs:List V} {us:List Value} (n:Nat),Vals xs us->Vals (xs.take n) (us.take n)
 | _,_,0,_=>.nil
 | _,_,_+1,.nil=>.nil
 | _,_,n+1,.cons r t=>.cons r (Vals.take n t)
theorem Vals.drop:∀ {xs:List V} {us:List Value} (n:Nat),Vals xs us->Vals (xs.drop n) (us.drop n)
 | _,_,0,r=>r
 | _,_,_+1,.nil=>.nil
 | _,_,n+1,.cons _ t=>Vals.drop n t
def RelO:Option V->Option Value->Prop
 | some v,some u=>RelV v u
 | none,none=>True
 | _,_=>False
def KV {κ:Type}:List (κ × V)->List (κ × Value)->Prop:=Paired fun (p:κ × V) (q:κ × Value)=>p.1=q.1/\RelV p.2 q.2
def kV:Key->V
 | .inl i=>.int i
 | .inr x=>.str x
inductive HO where
 | lst (xs:List V)
 | tup (xs:List V)
 | dK (kvs:List (Key × V)) | dT (kvs:List (List Key × V))
 | set (S:Int->Bool) (n:Nat)
 | ins (C dx:Addr) (fs:List (Str × V))
 | own (x:Addr)
 | xd (fs:List (Str × V))
 | met (f x:Addr)
 | rng (lo hi:Int)
 | frz (o:Obj) (u:HO)
 | tbl (ps:Array Value)
 | ext (φ:Heap->Prop)
abbrev Hp:=Addr->Option HO
def upd (H:Hp) (a:Addr) (o:HO):Hp:=fun b=>if b=a then some o else H b
theorem aC:upd H a o a=some o:=by unfold upd;rw [if_pos rfl]
theorem ao (h:b ≠ a):upd H a o b=H b:=by unfold upd;rw [if_neg h]
theorem Dl {H:Hp} (h:H a=some o) (h':H b=some u) (d:o ≠ u):a ≠ b:=by
 intro e;subst e;rw [h] at h';exact d (GU h')
theorem aS {H:Hp} (h:H a=some o) (h':H b=none):a ≠ b:=by
 intro e;subst e;rw [h] at h';cases h'
def DictOfE {prog:Program} {w:World} {κ:Type} [DecidableEq κ] (knd:KeyKind prog w κ) (h:Heap) (a:Addr) (kvs:List (κ × Value)):Prop :=
 ∃ o es b,h.get? a=some o/\o.ExactDict/\o.data=.dict es b/\KeysOf knd es/\Pairs knd es.toList kvs/\(kvs.map (·.1)).Nodup/\b=es.size
theorem DictOfE.of [DecidableEq κ] {knd:KeyKind prog w κ} {kvs:List (κ × Value)} (x:DictOfE knd h a kvs):h.DictOf knd a kvs:=let ⟨o,es,c,h1,h2,h3,e,b,d,_⟩:=x;⟨o,es,c,h1,h2,h3,e,b,d⟩
def IsTupD (h:Heap) (a:Addr) (items:Array Value):Prop:=∃ o,h.get? a=some o/\o.cls=.type "tuple"/\∃ n,(o.data,o.dict)=(Data.seq items n,none)
theorem IsTupD.tup {h:Heap} {a:Addr} {items:Array Value} (x:IsTupD h a items):IsTup h a items:=let ⟨o,e,c,n,d⟩:=x;⟨o,e,c,n,congrArg Prod.fst d⟩
theorem IsTupD.lt (x:IsTupD h a items):a < h.objs.size:=x.tup.lt
theorem IsTupD.new (h:Heap) (items:Array Value):IsTupD (h.push { cls:=.type "tuple",data:=.seq items }) h.objs.size items:=⟨_,Gn h rfl,rfl,_,rfl⟩
section
variable (P:Program) (w:World)
def ObjOk (H:Hp) (h:Heap) (a:Addr):HO->Prop
 | .lst xs=>xs.length<=sizeLine/\∃ (its:List Value) (n:Nat),Vals xs its/\h.get? a=some { cls:=.type "list",data:=.seq its.toArray n }
 | .tup xs=>xs.length<=sizeLine/\∃ its:List Value,Vals xs its/\IsTupD h a its.toArray
 | .dK kvs=>kvs.length<=sizeLine/\(a == sysModules)=false/\∃ d,KV kvs d/\DictOfE (bM P w) h a d
 | .dT kvs=>kvs.length<=sizeLine/\(a == sysModules)=false/\∃ xs:List (List Key × Addr × Value),
   Paired (fun (p:List Key × V) (q:List Key × Addr × Value)=>p.1=q.1/\H q.2.1=some (.tup (p.1.map kV))/\RelV p.2 q.2.2) kvs xs /\
   ∃ o es c,h.get? a=some o/\o.ExactDict/\o.data=.dict es c/\es.toList=xs.map (entryOfKey (tupleKind (bM P w)))/\(xs.map (·.1)).Nodup/\c=es.size
 | .set S n=>h.SetOf (intKind P w) a S n
 | .ins C dx fs=>H dx=some (.own a)/\fs.length<=1000/\dx ≠ a/\h.get? a=some (PySem.W.instObj C dx) /\
   ∃ b,h.Ns1 dx b/\(∀ f,RelO (fs.lookup f) (b f))/\PySem.Within b (fs.map (·.1))
 | .own _=>∃ o,h.get? a=some o
 | .xd fs=>∃ b,h.Ns1 a b/\∀ f,RelO (fs.lookup f) (b f)
 | .rng lo hi=>∃ t u v,h.get? a=some { cls:=.type "range",data:=.fields #[.int lo t,.int hi u,.int 1 v] }
 | .frz o u=>h.get? a=some o/\ObjOk H h a u
 | .tbl ps=>h.get? a=some { cls:=.none,data:=.fields ps }
 | .met f x=>h.get? a=some (PySem.W.methodObj (.ref f) (.ref x))
 | .ext φ=>φ h/\(∃ o,h.get? a=some o)/\∀ h1 h2:Heap,φ h1->(∀ o,h1.get? a=some o->h2.get? a=some o)->φ h2
def HOk (H:Hp) (h:Heap):Prop:=∀ a o,H a=some o->ObjOk P w H h a o
end
section
variable {P:Program} {w:World} {H H':Hp} {h h':Heap} {a:Addr} {o:HO}
theorem ObjOk.lt (x:ObjOk P w H h a o):a < h.objs.size:=by
 cases o with
 | lst xs=>obtain ⟨_,_,_,_,e⟩:=x;exact Gj e
 | tup xs=>obtain ⟨_,_,_,p⟩:=x;exact p.lt
 | dK kvs=>obtain ⟨_,_,_,_,o,_,_,e,_⟩:=x;exact Gj e
 | dT kvs=>obtain ⟨_,_,_,_,o,_,_,e,_⟩:=x;exact Gj e
 | set S n=>obtain ⟨o,_,_,_,e,_⟩:=x;exact Gj e
 | ins C dx fs=>obtain ⟨_,_,_,e,_⟩:=x;exact Gj e
 | own y=>obtain ⟨_,e⟩:=x;exact Gj e
 | xd fs=>obtain ⟨_,⟨_,_,_,e,_⟩,_⟩:=x;exact Gj e
 | rng lo hi=>obtain ⟨_,_,_,e⟩:=x;exact Gj e
 | frz ob u=>obtain ⟨e,_⟩:=x;exact Gj e
 | tbl ps=>exact Gj (show h.get? a=some _ from x)
 | met f y=>exact Gj (show h.get? a=some _ from x)
 | ext φ=>obtain ⟨_,⟨_,e⟩,_⟩:=x;exact Gj e
theorem Paired.mapP:∀ {d:List α} {c:List β},Paired F d c->(∀ a b,F a b->G a b)->Paired G d c
 | _,_,.nil,_=>.nil
 | _,_,.cons r t,f=>.cons (f _ _ r) (Paired.mapP t f)
theorem ObjOk.stay (x:ObjOk P w H h a o) (k:∀ b u,(b=a\/H b=some (.own a))->h.get? b=some u->h'.get? b=some u)
  (s:∀ b,H b=some (.own a)->H' b=some (.own a)) (m:∀ b xs,H b=some (.tup xs)->H' b=some (.tup xs)):ObjOk P w H' h' a o:=by
 induction o with
 | lst xs=>obtain ⟨z,its,n,r,e⟩:=x;exact ⟨z,its,n,r,k _ _ (.inl rfl) e⟩
 | tup xs=>obtain ⟨z,its,r,ob,e,c⟩:=x;exact ⟨z,its,r,ob,k _ _ (.inl rfl) e,c⟩
 | dK kvs=>obtain ⟨z,y,A,r,ob,es,g,e,c⟩:=x;exact ⟨z,y,A,r,ob,es,g,k _ _ (.inl rfl) e,c⟩
 | dT kvs =>
  obtain ⟨z,y,xs,r,ob,es,g,e,c⟩:=x
  exact ⟨z,y,xs,Paired.mapP r fun p q z=>⟨z.1,m _ _ z.2.1,z.2.2⟩,ob,es,g,k _ _ (.inl rfl) e,c⟩
 | set S n=>obtain ⟨ob,es,g,t,e,c⟩:=x;exact ⟨ob,es,g,t,k _ _ (.inl rfl) e,c⟩
 | ins C dx fs =>
  obtain ⟨d,z,ne,e,i,⟨j,es,g,l,c⟩,r⟩:=x
  exact ⟨s _ d,z,ne,k _ _ (.inl rfl) e,i,⟨j,es,g,k _ _ (.inr d) l,c⟩,r⟩
 | own y=>obtain ⟨ob,e⟩:=x;exact ⟨ob,k _ _ (.inl rfl) e⟩
 | xd fs=>obtain ⟨i,⟨j,es,g,e,c⟩,r⟩:=x;exact ⟨i,⟨j,es,g,k _ _ (.inl rfl) e,c⟩,r⟩
 | rng lo hi=>obtain ⟨t,u,v,e⟩:=x;exact ⟨t,u,v,k _ _ (.inl rfl) e⟩
 | frz ob u ih=>obtain ⟨e,q⟩:=x;exact ⟨k _ _ (.inl rfl) e,ih q⟩
 | tbl ps =>
  have e:h.get? a=some { cls:=.none,data:=.fields ps }:=x
  show h'.get? a=some { cls:=.none,data:=.fields ps }
  exact k a _ (.inl rfl) e
 | met f y =>
  have e:h.get? a=some (PySem.W.methodObj (.ref f) (.ref y)):=x
  show h'.get? a=some (PySem.W.methodObj (.ref f) (.ref y))
  exact k a _ (.inl rfl) e
 | ext φ=>obtain ⟨p,⟨o,e⟩,st⟩:=x;exact ⟨st _ _ p fun o q=>k _ _ (.inl rfl) q,⟨o,k _ _ (.inl rfl) e⟩,st⟩
theorem HOk.lt (x:HOk P w H h) (e:H a=some o):a < h.objs.size:=(x a o e).lt
theorem HOk.fresh (x:HOk P w H h) (e:h.objs.size<=a):H a=none:=by
 cases q:H a with
 | none=>rfl
 | some u=>exact absurd (GC (x.lt q) e) (Nat.lt_irrefl _)
theorem HOk.kept (x:HOk P w H h) (k:∀ b u,h.get? b=some u->h'.get? b=some u):HOk P w H h':=fun a o e =>
 (x a o e).stay (fun b u _ q=>k b u q) (fun _ q=>q) fun _ _ q=>q
theorem HOk.laid (x:HOk P w H h) (k:∀ b u,h.get? b=some u->h'.get? b=some u) (g:h.objs.size<=a) (new:ObjOk P w (upd H a o) h' a o):HOk P w (upd H a o) h':=fun b u e=>by
 have d:=x.fresh g
 by_cases f:b=a
 ·subst f;rw [aC] at e;cases e;exact new
 ·rw [ao f] at e
  exact (x b u e).stay (fun c v _ q=>k c v q) (fun c q=>by rw [ao (aS q d)];exact q) fun c xs q=>by rw [ao (aS q d)];exact q
end
def Rd (H:Hp) (a:Addr) (u:HO):Prop:=H a=some u\/∃ o,H a=some (.frz o u)
theorem Rd.ok (r:Rd H a u) (x:HOk P w H h):ObjOk P w H h a u:=by
 rcases r with r | ⟨o,r⟩
 ·exact x a u r
 ·obtain ⟨_,q⟩:=x a _ r
  exact q
def Mut:Option HO->Prop
 | some (.lst _)=>True
 | some (.dK _)=>True
 | some (.dT _)=>True
 | some (.set _ _)=>True
 | some (.ins _ _ _)=>True
 | some (.ext _)=>True
 | _=>False
section
variable {P:Program} {w:World} {H:Hp} {h h':Heap} {x e:Addr} {o':HO}
theorem HOk.write (ok:HOk P w H h) (i:Mut (H x)) (he:e=x\/H e=some (.own x)) (k:∀ b u,b ≠ e->h.get? b=some u->h'.get? b=some u) (l:∃ u,h'.get? e=some u)
  (new:ObjOk P w (upd H x o') h' x o'):HOk P w (upd H x o') h':=fun b u q=>by
 have d:∀ c y,H c=some (.own y)->c ≠ x:=fun c y r z=>by subst z;rw [r] at i;exact i
 have f:∀ c xs,H c=some (.tup xs)->c ≠ x:=fun c xs r z=>by subst z;rw [r] at i;exact i
 by_cases g:b=x
 ·subst g;rw [aC] at q;cases q;exact new
 ·rw [ao g] at q
  by_cases a:b=e
  ·have m:H b=some (.own x):=by
    rcases he with z | z
    ·exact absurd (a.trans z) g
    ·rw [a];exact z
   rw [q] at m;cases m
   obtain ⟨v,n⟩:=l
   exact ⟨v,by rw [a];exact n⟩
  ·refine (ok b u q).stay (fun c v j r=>k c v ?_ r) (fun c r=>by rw [ao (d c b r)];exact r) fun c xs r=>by rw [ao (f c xs r)];exact r
   rcases j with rfl | j
   ·exact a
   ·rintro rfl
    rcases he with z | z
    ·exact d c b j z
    ·rw [j] at z;cases z;exact g rfl
end
structure Un (fs ex:List Addr) (H H':Hp) (h h':Heap):Prop where
 keep:∀ b o,h.get? b=some o->H b=none->b ∉ fs->b ∉ ex->h'.get? b=some o
 slot:∀ b o,h.get? b=some o->H b=none->b ∈ fs->b ∉ ex->∃ sl,h'.get? b=some { o with slots:=sl }
 free:∀ b o,h.get? b=some o->H b=none->b ∉ ex->H' b=none
 there:∀ b o,h.get? b=some o->b ∉ ex->∃ o',h'.get? b=some o'
 tups:∀ b xs,H b=some (.tup xs)->H' b=some (.tup xs)
 frzs:∀ b o u,H b=some (.frz o u)->H' b=some (.frz o u)
 tbls:∀ b ps,H b=some (.tbl ps)->∃ more,H' b=some (.tbl (ps ++ more))
section
variable {fs fs' ex ex':List Addr} {H H1 H2:Hp} {h h1 h2 h':Heap} {a x e:Addr} {o:HO}
theorem Un.any (u:Un fs ex H H1 h h1) (q:h.get? b=some ob) (n:H b=none) (c:b ∉ ex):∃ sl,h1.get? b=some { ob with slots:=sl }:=by
 by_cases a:b ∈ fs
 ·exact u.slot b ob q n a c
 ·exact ⟨ob.slots,u.keep b ob q n a c⟩
theorem Un.trans (a:Un fs ex H H1 h h1) (b:Un fs ex H1 H2 h1 h2):Un fs ex H H2 h h2 where
 keep:=fun c ob q n e d=>b.keep c ob (a.keep c ob q n e d) (a.free c ob q n d) e d
 slot:=fun c ob q n e d=>by
  obtain ⟨sl,e1⟩:=a.slot c ob q n e d
  obtain ⟨f,g⟩:=b.slot c _ e1 (a.free c ob q n d) e d
  exact ⟨f,g⟩
 free:=fun c ob q n d=>by
  obtain ⟨o',e1⟩:=a.there c ob q d
  exact b.free c o' e1 (a.free c ob q n d) d
 there:=fun c ob q d=>by
  obtain ⟨o',e1⟩:=a.there c ob q d
  exact b.there c o' e1 d
 tups:=fun c xs q=>b.tups c xs (a.tups c xs q)
 frzs:=fun c ob xs q=>b.frzs c ob xs (a.frzs c ob xs q)
 tbls:=fun c ps q=>by
  obtain ⟨j,e1⟩:=a.tbls c ps q
  obtain ⟨i,g⟩:=b.tbls c _ e1
  exact ⟨j ++ i,by rw [g,Array.append_assoc]⟩
theorem Un.kept (k:∀ b u,h.get? b=some u->h'.get? b=some u):Un fs ex H H h h' :=
 ⟨fun b ob q _ _ _=>k b ob q,fun b ob q _ _ _=>⟨ob.slots,k b ob q⟩,fun _ _ _ n _=>n,fun b ob q _=>⟨ob,k b ob q⟩,fun _ _ q=>q,fun _ _ _ q=>q,fun _ ps q=>⟨#[],by rw [q];simp⟩⟩
theorem Un.refl:Un fs ex H H h h:=Un.kept fun _ _ q=>q
theorem Un.laid (k:∀ b u,h.get? b=some u->h'.get? b=some u) (d:h.objs.size<=a) (c:H a=none):Un fs ex H (upd H a o) h h' where
 keep:=fun b u q _ _ _=>k b u q
 slot:=fun b u q _ _ _=>⟨u.slots,k b u q⟩
 free:=fun b u q n _=>by rw [ao (Gx (GC (Gj q) d))];exact n
 there:=fun b u q _=>⟨u,k b u q⟩
 tups:=fun b xs q=>by rw [ao (aS q c)];exact q
 frzs:=fun b u xs q=>by rw [ao (aS q c)];exact q
 tbls:=fun b ps q=>⟨#[],by rw [ao (aS q c),q];simp⟩
theorem Un.write (c:Mut (H x)) (he:e=x\/H e=some (.own x)) (k:∀ b u,b ≠ e->h.get? b=some u->h'.get? b=some u) (d:∃ u,h'.get? e=some u):Un fs ex H (upd H x o) h h':=by
 have g:∀ b,H b=none->b ≠ x:=fun b n z=>by subst z;rw [n] at c;exact c
 have f:∀ b,H b=none->b ≠ e:=fun b n z=>by
  grind
 have hm:∀ b u,H b=some u->¬ Mut (some u)->b ≠ x:=fun b u q nm z=>by subst z;rw [q] at c;exact nm c
 refine ⟨fun b u q n _ _=>k b u (f b n) q,fun b u q n _ _=>⟨u.slots,k b u (f b n) q⟩,fun b u q n _=>by rw [ao (g b n)];exact n,fun b u q _=>?_,
  fun b xs q=>by rw [ao (hm b _ q fun z=>z)];exact q,fun b u xs q=>by rw [ao (hm b _ q fun z=>z)];exact q,fun b ps q=>⟨#[],by rw [ao (hm b _ q fun z=>z),q];simp⟩⟩
 by_cases a:b=e
 ·subst a;exact d
 ·exact ⟨u,k b u a q⟩
end
def trk (h:Heap) (H:Hp):List Addr:=(List.range h.objs.size).filter fun a=>(H a).isSome
def pY (h:Heap) (H:Hp):Heap:=PySem.W.hideAll h (trk h H)
theorem xq (h:Heap) (H:Hp):(pY h H).objs.size=h.objs.size:=PySem.W.hideAll_size _ _
theorem Ah (e:h.get? b=some o) (n:H b=none):(pY h H).get? b=some o :=
 PySem.W.hideAll_get _ e fun hm=>by
  have q:(H b).isSome=true:=(GM.mp hm).2
  rw [n] at q;simp at q
theorem Ce (e:(pY h H).get? b=some o):h.get? b=some o/\H b=none:=by
 have a:h.get? b=some o:=PySem.W.of_hideAll (trk h H) e
 refine ⟨a,?_⟩
 cases q:H b with
 | none=>rfl
 | some x =>
  have hm:b ∈ trk h H:=GM.mpr ⟨List.mem_range.mpr (Gj a),by simp [q]⟩
  have z:(pY h H).get? b=none:=PySem.W.hideAll_none (trk h H) hm
  rw [z] at e;cases e
def C3 (g h:Heap) (L:Addr):List (Addr × Obj):=(List.range h.objs.size).filterMap fun a=>if a=L\/(g.get? a).isSome=true then none else (h.get? a).map fun o=>(a,o)
def gw (g h:Heap) (L d:Addr):List (Addr × Obj):=(C3 g h L).filter fun p=>decide (p.1 ≠ d)
end L2
namespace L2
open PySem PySem.Spec PyProof.Rows
structure Mod (K:FG) (mg:Str->Option Value) (base:Heap):Prop where
 kin:K.In base
 glob:base.Ns mainGlobals mg
 blt:∃ mb,base.Ns builtinsNs mb/\∀ x:Str,x ≠ "__name__"->mb x=bootBuiltins x
 nolimit:base.NoLimit
structure Cx where
 prog:Program
 w:World
 K:FG
 mg:Str->Option Value
 base:Heap
 A:Around
 N:List Str
 s₀:Shared
 H₀:Hp
 env:Env
 outer:List Env
 stack:List Env
 ex:List Addr
 fn:Str->Bool
 calm:Bool
 pn:List (Addr × Obj)
 xe:Value->Shared->Prop
def frs (l:List Env):List Addr:=l.filterMap (·.frame)
abbrev Cx.fs (X:Cx):List Addr:=frs X.outer
def Vis (sc:Scope) (x:Str):Prop:=sc.names.lookup x=some .local\/sc.names.lookup x=some .cell\/sc.names.lookup x=some .free
def Loc (sc:Scope) (x:Str):Prop:=sc.names.lookup x=some .local\/sc.names.lookup x=some .cell
def Look (env:Env) (h:Heap) (m:Str->Option Value) (x:Str) (u:Value):Prop :=
 (env.kindOf x=some .local/\m x=some u)\/((env.kindOf x=some .cell\/env.kindOf x=some .free)/\∃ c,env.cells.lookup x=some c/\h.IsCell c (some u))
structure Cx.Ok (X:Cx):Prop where
 mod:Mod X.K X.mg X.base
 kind:X.env.scope.kind=.function
 glob:X.env.globals=mainGlobals
 blt:X.env.builtins=builtinsNs
 above:X.s₀.heap.objs.size<=X.env.locals
 inj:∀ x y c,X.env.cells.lookup x=some c->X.env.cells.lookup y=some c->x=y
 has:∀ x,(X.env.kindOf x=some .cell\/X.env.kindOf x=some .free)->∃ c,X.env.cells.lookup x=some c
 cab:∀ x c,X.fn x=true->X.env.cells.lookup x=some c->X.s₀.heap.objs.size<=c
 hd:X.calm=true->X.A.handled=none
 frames:X.A.frames=some X.stack
 stk:X.stack=X.outer\/(X.stack=X.env :: X.outer/\X.env.frame=some X.env.locals)
 exf:∀ b ∈ X.ex,b ≠ X.env.locals/\∀ x c,X.env.cells.lookup x=some c->c ≠ b
 bs:∀ b o,X.base.get? b=some o->X.s₀.heap.get? b=some o/\X.H₀ b=none
 bsz:X.base.objs.size<=X.s₀.heap.objs.size
 noex:∀ b o,X.base.get? b=some o->b ∉ X.ex
 exfs:∀ b ∈ X.ex,b ∉ X.fs
 funs:X.s₀.heap.FunFrames X.base X.outer
 frf:∀ b ∈ X.fs,X.H₀ b=none
structure Inv (X:Cx) (pins:List (Addr × Obj)) (σ:List (Option V)) (H:Hp) (s:Shared):Prop where
 ok:X.Ok
 os:s.os=X.s₀.os
 bare:AllBare s.gens
 base:Un X.fs X.ex X.H₀ H X.s₀.heap s.heap
 loc:∃ m,s.heap.Ns X.env.locals m/\∀ (i:Nat) (x:Str) (v:V),X.N[i]?=some x->σ[i]?=some (some v)->Vis X.env.scope x->∃ u,RelV v u/\Look X.env s.heap m x u
 cell:∀ x c,X.env.cells.lookup x=some c->∃ v,s.heap.IsCell c v
 free:H X.env.locals=none
 freeC:∀ x c,X.env.cells.lookup x=some c->H c=none
 pin:∀ p ∈ X.pn ++ pins,s.heap.get? p.1=some p.2/\H p.1=none/\p.1 ≠ X.env.locals/\p.1 ∉ X.fs/\∀ v,p.2.data ≠ .cell v
 hok:HOk X.prog X.w H s.heap
 len:σ.length=X.N.length
section
variable {X:Cx} {pins:List (Addr × Obj)} {σ:List (Option V)} {H H':Hp} {s:Shared} {h':Heap}
theorem Cx.Ok.nofr (ok:X.Ok) (e:X.base.get? b=some o):b ∉ X.fs:=fun a=>by
 have:=(ok.funs.mem a).1
 rw [e] at this;cases this
theorem Inv.bs (I:Inv X pins σ H s):∀ b o,X.base.get? b=some o->s.heap.get? b=some o/\H b=none:=fun b o e =>
 ⟨I.base.keep b o (I.ok.bs b o e).1 (I.ok.bs b o e).2 (I.ok.nofr e) (I.ok.noex b o e),I.base.free b o (I.ok.bs b o e).1 (I.ok.bs b o e).2 (I.ok.noex b o e)⟩
theorem Inv.bk (I:Inv X pins σ H s):∀ b o,X.base.get? b=some o->s.heap.get? b=some o:=fun b o e=>(I.bs b o e).1
theorem Inv.mod (I:Inv X pins σ H s):Mod X.K X.mg X.base:=I.ok.mod
theorem Inv.kIn (I:Inv X pins σ H s):X.K.In s.heap:=I.ok.mod.kin.keeps I.bk
theorem Inv.lt (I:Inv X pins σ H s):X.env.locals < s.heap.objs.size:=let ⟨_,a,_⟩:=I.loc;a.lt
theorem Inv.sz (I:Inv X pins σ H s):X.s₀.heap.objs.size<=s.heap.objs.size:=GQ I.ok.above (Nat.le_of_lt I.lt)
theorem Inv.nofs (I:Inv X pins σ H s) (h:s.heap.objs.size<=a):a ∉ X.fs:=fun b=>by
 obtain ⟨_,o,c,_⟩:=I.ok.funs.mem b
 exact absurd (GC (Gj c) (GQ I.sz h)) (Nat.lt_irrefl _)
theorem Inv.cne (I:Inv X pins σ H s):∀ x c,X.env.cells.lookup x=some c->c ≠ X.env.locals:=fun x c e z=>by
 obtain ⟨v,o,d,hd⟩:=I.cell x c e
 obtain ⟨m,⟨o',es,f,a,b,_⟩,_⟩:=I.loc
 rw [z,a] at d;cases d;rw [b] at hd;cases hd
theorem Inv.funs (I:Inv X pins σ H s):s.heap.FunFrames X.base X.outer:=by
 have all:∀ (l:List Env),(∀ b ∈ frs l,b ∈ X.fs)->X.s₀.heap.FunFrames X.base l->s.heap.FunFrames X.base l:=by
  intro l
  induction l with
  | nil=>intro _ _;trivial
  | cons env r ih =>
   intro d f
   obtain ⟨g,⟨L,o,hf,h,j,hd⟩,i⟩:=f
   have a:L ∈ X.fs:=d L (by unfold frs;rw [List.filterMap_cons,hf];exact Ga)
   obtain ⟨sl,e⟩:=I.base.slot L o j (I.ok.frf L a) a fun z=>I.ok.exfs L z a
   exact ⟨g,⟨L,_,hf,h,e,hd⟩,ih (fun b c=>d b (by unfold frs;rw [List.filterMap_cons,hf];exact Gb _ c)) i⟩
 exact all X.outer (fun _ c=>c) I.ok.funs
theorem Inv.stack (I:Inv X pins σ H s):s.heap.FunFrames X.base X.stack:=by
 rcases I.ok.stk with e | ⟨e,hf⟩
 ·rw [e];exact I.funs
 ·rw [e]
  obtain ⟨m,a,_⟩:=I.loc
  refine .cons (by rw [I.ok.kind];decide) hf a ?_ I.funs
  exact Heap.get?_none_of_le (GQ I.ok.bsz I.ok.above)
theorem Inv.stkSub (I:Inv X pins σ H s):∀ b ∈ frs X.stack,b ∈ X.env.locals :: X.fs:=fun b a=>by
 rcases I.ok.stk with e | ⟨e,hf⟩
 ·rw [e] at a;exact Gb _ a
 ·rw [e] at a
  unfold frs at a
  rw [List.filterMap_cons,hf] at a
  exact a
theorem Inv.stkFree (I:Inv X pins σ H s):∀ b ∈ frs X.stack,H b=none:=fun b a=>by
 rcases Gh.mp (I.stkSub b a) with e | a
 ·rw [e];exact I.free
 ·obtain ⟨_,o,c,_⟩:=I.ok.funs.mem a
  exact I.base.free b o c (I.ok.frf b a) fun z=>I.ok.exfs b z a
theorem Inv.step {t':Nat} {ch:List Addr} (I:Inv X pins σ H s) (g:∀ b ∈ ch,(b ∈ X.ex\/X.s₀.heap.objs.size<=b)/\b ≠ X.env.locals/\(∀ x c,X.env.cells.lookup x=some c->c ≠ b)/\∀ p ∈ X.pn ++ pins,p.1 ≠ b) (keep:∀ b o,b ≠ X.env.locals->b ∉ X.fs->b ∉ ch->s.heap.get? b=some o->H b=none->h'.get? b=some o) (slot:∀ b o,b ≠ X.env.locals->b ∈ X.fs->b ∉ ch->s.heap.get? b=some o->H b=none->∃ sl,h'.get? b=some { o with slots:=sl }) (free:∀ b o,b ∉ ch->s.heap.get? b=some o->H b=none->H' b=none) (there:∀ b o,b ∉ ch->s.heap.get? b=some o->∃ o',h'.get? b=some o') (tups:∀ b xs,H b=some (.tup xs)->H' b=some (.tup xs)) (frzs:∀ b o u,H b=some (.frz o u)->H' b=some (.frz o u)) (tbls:∀ b ps,H b=some (.tbl ps)->∃ more,H' b=some (.tbl (ps ++ more))) (ns:∀ m,s.heap.Ns X.env.locals m->h'.Ns X.env.locals m) (hok:HOk X.prog X.w H' h') (D:AllBare g') :
  Inv X pins σ H' { s with heap:=h',gens:=g',drawn:=d',toks:=t' }:=by
 have t:∀ b o,X.s₀.heap.get? b=some o->b ≠ X.env.locals:=fun b o e=>Gx (GC (Gj e) I.ok.above)
 have f:∀ b o,X.s₀.heap.get? b=some o->b ∉ X.ex->b ∉ ch:=fun b o e a h=>by
  rcases (g b h).1 with z | z
  ·exact a z
  ·exact absurd (GC (Gj e) z) (Nat.lt_irrefl _)
 have cellK:∀ x c,X.env.cells.lookup x=some c->∀ v,s.heap.IsCell c v->h'.IsCell c v:=fun x c e v ⟨o,j,hd⟩=>by
  have y:c ∉ ch:=fun z=>(g c z).2.2.1 x c e rfl
  by_cases C:c ∈ X.fs
  ·obtain ⟨sl,q⟩:=slot c o (I.cne x c e) C y j (I.freeC x c e)
   exact ⟨_,q,hd⟩
  ·exact ⟨o,keep c o (I.cne x c e) C y j (I.freeC x c e),hd⟩
 refine ⟨I.ok,I.os,D,⟨fun b o e n h a=>?_,fun b o e n h a=>?_,fun b o e n a=>?_,fun b o e a=>?_,fun b xs e=>tups b xs (I.base.tups b xs e),fun b o xs e=>frzs b o xs (I.base.frzs b o xs e),fun b ps e=>?_⟩,?_,fun x c e=>?_,?_,fun x c e=>?_,fun p L=>?_,hok,I.len⟩
 ·exact keep b o (t b o e) h (f b o e a) (I.base.keep b o e n h a) (I.base.free b o e n a)
 ·obtain ⟨sl,e1⟩:=I.base.slot b o e n h a
  obtain ⟨B,A⟩:=slot b _ (t b o e) h (f b o e a) e1 (I.base.free b o e n a)
  exact ⟨B,A⟩
 ·obtain ⟨o',e1⟩:=I.base.there b o e a
  exact free b o' (f b o e a) e1 (I.base.free b o e n a)
 ·obtain ⟨o',e1⟩:=I.base.there b o e a
  exact there b o' (f b o e a) e1
 ·obtain ⟨G,e1⟩:=I.base.tbls b ps e
  obtain ⟨F,A⟩:=tbls b _ e1
  exact ⟨G ++ F,by rw [A,Array.append_assoc]⟩
 ·obtain ⟨m,E,K⟩:=I.loc
  refine ⟨m,ns m E,fun i x v e1 A J=>?_⟩
  obtain ⟨u,r,l⟩:=K i x v e1 A J
  refine ⟨u,r,?_⟩
  rcases l with l | ⟨k,c,e,z⟩
  ·exact .inl l
  ·exact .inr ⟨k,c,e,cellK x c e _ z⟩
 ·obtain ⟨v,z⟩:=I.cell x c e
  exact ⟨v,cellK x c e v z⟩
 ·obtain ⟨m,⟨o,_,_,j,_⟩,_⟩:=I.loc
  exact free _ o (fun z=>(g _ z).2.1 rfl) j I.free
 ·obtain ⟨v,o,j,hd⟩:=I.cell x c e
  exact free c o (fun z=>(g c z).2.2.1 x c e rfl) j (I.freeC x c e)
 ·obtain ⟨e,n,ne,M,d⟩:=I.pin p L
  grind
theorem Inv.un {t':Nat} (I:Inv X pins σ H s) (u:Un X.fs [] H H' s.heap h') (hok:HOk X.prog X.w H' h'):Inv X pins σ H' { s with heap:=h',toks:=t' }:=by
 obtain ⟨m,⟨o,es,j,g,r⟩,_⟩:=id I.loc
 obtain ⟨sl,i⟩:=u.any g I.free (by simp)
 exact I.step (g':=s.gens) (d':=s.drawn) (ch:=[]) (fun _ z=>nomatch z) (fun b o _ f _ e n=>u.keep b o e n f (by simp)) (fun b o _ f _ e n=>u.slot b o e n f (by simp)) (fun b o _ e n=>u.free b o e n (by simp)) (fun b o _ e=>u.there b o e (by simp)) u.tups u.frzs u.tbls (fun k hm=>by
  obtain ⟨o',d,c,a,h⟩:=hm
  rw [g] at a;cases a
  exact ⟨_,d,c,i,h⟩) hok I.bare
theorem Inv.call {t':Nat} (I:Inv X pins σ H s) (u:Un (frs X.stack) ch H H' s.heap h') (hok:HOk X.prog X.w H' h') (l:AllBare g') (f:∀ b ∈ ch,(b ∈ X.ex\/X.s₀.heap.objs.size<=b)/\b ≠ X.env.locals/\(∀ x c,X.env.cells.lookup x=some c->c ≠ b)/\∀ p ∈ X.pn ++ pins,p.1 ≠ b) :
  Inv X pins σ H' { s with heap:=h',gens:=g',drawn:=d',toks:=t' }:=by
 obtain ⟨m,⟨o,es,v,j,r⟩,_⟩:=id I.loc
 obtain ⟨sl,g⟩:=u.any j I.free fun z=>(f _ z).2.1 rfl
 exact I.step (ch:=ch) f (fun b o g q a e n=>u.keep b o e n (fun z=>(Gh.mp (I.stkSub b z)).elim g q) a) (fun b o _ _ a e n=>u.any e n a) (fun b o a e n=>u.free b o e n a) (fun b o a e=>u.there b o e a) u.tups u.frzs u.tbls (fun t hm=>by
  obtain ⟨o',i,h,d,k⟩:=hm
  rw [j] at d;cases d
  exact ⟨_,i,h,g,k⟩) hok l
theorem Inv.turned {t':Nat} (I:Inv X pins σ H s) (k:∀ b o,b ≠ it->s.heap.get? b=some o->h'.get? b=some o) (g:H it=none) (f:it ≠ X.env.locals) (h1:it ∈ X.ex\/X.s₀.heap.objs.size<=it) (h2:∀ x c,X.env.cells.lookup x=some c->c ≠ it) (h3:∀ p ∈ X.pn ++ pins,p.1 ≠ it):Inv X pins σ H { s with heap:=h',toks:=t' }:=by
 have d:∀ b u,H b=some u->b ≠ it:=fun b u e z=>by rw [z,g] at e;cases e
 refine I.step (g':=s.gens) (d':=s.drawn) (ch:=[it]) (fun b j=>?_) (fun b o _ _ a e _=>k b o (fun z=>a (by simp [z])) e) (fun b o _ _ a e _=>⟨o.slots,k b o (fun z=>a (by simp [z])) e⟩) (fun _ _ _ _ n=>n)
  (fun b o a e=>⟨o,k b o (fun z=>a (by simp [z])) e⟩) (fun _ _ e=>e) (fun _ _ _ e=>e) (fun b ps e=>⟨#[],by rw [e];simp⟩) (fun m hm=>?_) (fun b u e=>?_) I.bare
 ·grind
 ·obtain ⟨o,es,i,h,r⟩:=hm
  exact ⟨o,es,i,k _ o (Ne.symm f) h,r⟩
 ·refine (I.hok b u e).stay (fun c v a q=>k c v ?_ q) (fun _ q=>q) fun _ _ q=>q
  rcases a with z | z
  ·rw [z];exact d b u e
  ·exact d c _ z
theorem Inv.tok (I:Inv X pins σ H s) (t:Nat):Inv X pins σ H { s with toks:=t }:=I.un (h':=s.heap) (t':=t) Un.refl I.hok
theorem Inv.kept {t':Nat} (I:Inv X pins σ H s) (k:∀ b u,s.heap.get? b=some u->h'.get? b=some u):Inv X pins σ H { s with heap:=h',toks:=t' }:=I.un (Un.kept k) (I.hok.kept k)
theorem Inv.laid {t':Nat} (I:Inv X pins σ H s) (k:∀ b u,s.heap.get? b=some u->h'.get? b=some u) (c:s.heap.objs.size<=a) (new:ObjOk X.prog X.w (upd H a o) h' a o) :
  Inv X pins σ (upd H a o) { s with heap:=h',toks:=t' }:=I.un (Un.laid k c (I.hok.fresh c)) (I.hok.laid k c new)
theorem Inv.write {t':Nat} (I:Inv X pins σ H s) (c:Mut (H x)) (he:e=x\/H e=some (.own x)) (k:∀ b u,b ≠ e->s.heap.get? b=some u->h'.get? b=some u) (a:∃ u,h'.get? e=some u) (new:ObjOk X.prog X.w (upd H x o) h' x o):Inv X pins σ (upd H x o) { s with heap:=h',toks:=t' }:=I.un (Un.write c he k a) (I.hok.write c he k a new)
theorem Inv.pins_of (I:Inv X pins σ H s) (h:∀ p ∈ pins',s.heap.get? p.1=some p.2/\H p.1=none/\p.1 ≠ X.env.locals/\p.1 ∉ X.fs/\∀ v,p.2.data ≠ .cell v):Inv X pins' σ H s :=
 ⟨I.ok,I.os,I.bare,I.base,I.loc,I.cell,I.free,I.freeC,fun p a=>(Gk.mp a).elim (fun z=>I.pin p (Gf _ z)) (h p),I.hok,I.len⟩
theorem rA {N:List Str} (c:N.Nodup) {i j:Nat} (a:N[i]?=some x) (b:N[j]?=some x):i=j:=by
 obtain ⟨h1,e1⟩:=Gp.mp a
 obtain ⟨h2,d⟩:=Gp.mp b
 exact (List.getElem_inj c).mp (e1.trans d.symm)
theorem nR {i:Nat} (I:Inv X pins σ H s) (hN:X.N.Nodup) (hi:X.N[i]?=some x) (t:Loc X.env.scope x) (r:RelV v u) (h:∀ s',Inv X pins (σ.set i (some v)) H s'->(∃ a,Heap.SameBut a s.heap s'.heap/\(a=X.env.locals\/X.env.cells.lookup x=some a))->Q () s') (hf:X.fn x=true\/X.env.scope.names.lookup x=some .local:=by first | exact .inl rfl | exact .inr rfl | assumption):wpAny M A (storeName X.env x u) Q E s:=by
 obtain ⟨m,W,hl⟩:=id I.loc
 have O:(X.env.scope.kind == .class || (X.env.scope.kind == .module && X.env.locals != X.env.globals))=false:=by rw [I.ok.kind];rfl
 have hiσ:i < σ.length:=by rw [I.len];exact (Gp.mp hi).1
 have cne:=I.cne
 have g:∀ {a:Addr} {h':Heap},(∃ o,s.heap.get? a=some o/\H a=none)->Heap.SameBut a s.heap h'->HOk X.prog X.w H h':=fun {a h'} ha f b ob e=>by
  obtain ⟨_,_,B⟩:=ha
  refine (I.hok b ob e).stay (fun c T l q=>(f.2 c ?_).trans q) (fun _ q=>q) fun _ _ q=>q
  rintro rfl
  rcases l with rfl | l
  ·rw [B] at e;cases e
  ·rw [B] at l;cases l
 rcases t with D | D
 ·refine wpAny_storeName_local D W (fun h' Y f=>?_) O
  obtain ⟨oL,_,_,V,_⟩:=id W
  refine h _ ⟨I.ok,I.os,I.bare,⟨fun b o e n G t=>?_,fun b o e n G t=>?_,I.base.free,fun b o e t=>?_,I.base.tups,I.base.frzs,I.base.tbls⟩,⟨_,Y,fun j y v' e1 C Z=>?_⟩,fun y c e=>?_,I.free,I.freeC,fun p hp=>?_,g ⟨oL,V,I.free⟩ f,by simpa using I.len⟩ ⟨_,f,.inl rfl⟩
  ·exact (f.2 b (Gx (GC (Gj e) I.ok.above))).trans (I.base.keep b o e n G t)
  ·obtain ⟨sl,e1⟩:=I.base.slot b o e n G t
   exact ⟨sl,(f.2 b (Gx (GC (Gj e) I.ok.above))).trans e1⟩
  ·obtain ⟨o',e1⟩:=I.base.there b o e t
   exact ⟨o',(f.2 b (Gx (GC (Gj e) I.ok.above))).trans e1⟩
  ·by_cases J:j=i
   ·subst J
    rw [hi] at e1;cases e1
    rw [List.getElem?_set_self hiσ] at C
    cases C
    exact ⟨u,r,.inl ⟨D,by simp⟩⟩
   ·rw [List.getElem?_set_ne (Ne.symm J)] at C
    obtain ⟨u',U,q⟩:=hl j y v' e1 C Z
    refine ⟨u',U,?_⟩
    rcases q with ⟨k,e⟩ | ⟨k,c,e,z⟩
    ·refine .inl ⟨k,?_⟩
     have:y ≠ x:=fun e=>J (rA hN e1 (e ▸ hi))
     simp [this,e]
    ·exact .inr ⟨k,c,e,z.sameBut f (cne y c e)⟩
  ·obtain ⟨T,z⟩:=I.cell y c e
   exact ⟨T,z.sameBut f (cne y c e)⟩
  ·obtain ⟨e,n,ne,nf,d⟩:=I.pin p hp
   exact ⟨(f.2 p.1 ne).trans e,n,ne,nf,d⟩
 ·have F:X.fn x=true:=by
   rcases hf with z | z
   ·exact z
   ·rw [z] at D;cases D
  obtain ⟨c,l⟩:=I.ok.has x (.inl D)
  obtain ⟨T,z⟩:=I.cell x c l
  refine wpAny_storeName_cell I.ok.kind D l z (fun h' K f=>?_)
  obtain ⟨oc,P,L⟩:=id z
  refine h { s with heap:=h' } ⟨I.ok,I.os,I.bare,⟨fun b o e n G t=>?_,fun b o e n G t=>?_,I.base.free,fun b o e t=>?_,I.base.tups,I.base.frzs,I.base.tbls⟩,⟨m,W.sameBut f (Ne.symm (cne x c l)),fun j y v' e1 C Z=>?_⟩,fun y S e=>?_,I.free,I.freeC,fun p hp=>?_,g ⟨oc,P,I.freeC x c l⟩ f,by simpa using I.len⟩ ⟨c,f,.inr l⟩
  ·exact (f.2 b (Gx (GC (Gj e) (I.ok.cab x c F l)))).trans (I.base.keep b o e n G t)
  ·obtain ⟨sl,e1⟩:=I.base.slot b o e n G t
   exact ⟨sl,(f.2 b (Gx (GC (Gj e) (I.ok.cab x c F l)))).trans e1⟩
  ·obtain ⟨o',e1⟩:=I.base.there b o e t
   exact ⟨o',(f.2 b (Gx (GC (Gj e) (I.ok.cab x c F l)))).trans e1⟩
  ·by_cases J:j=i
   ·subst J
    rw [hi] at e1;cases e1
    rw [List.getElem?_set_self hiσ] at C
    cases C
    exact ⟨u,r,.inr ⟨.inl D,c,l,K⟩⟩
   ·rw [List.getElem?_set_ne (Ne.symm J)] at C
    obtain ⟨u',U,q⟩:=hl j y v' e1 C Z
    refine ⟨u',U,?_⟩
    rcases q with q | ⟨k,S,e,z'⟩
    ·exact .inl q
    ·refine .inr ⟨k,S,e,z'.sameBut f ?_⟩
     rintro rfl
     exact J (rA hN e1 (I.ok.inj _ _ _ e l ▸ hi))
  ·by_cases R:S=c
   ·subst R;exact ⟨_,K⟩
   ·obtain ⟨w2,z2⟩:=I.cell y S e
    exact ⟨w2,z2.sameBut f R⟩
  ·obtain ⟨e,n,ne,nf,d⟩:=I.pin p hp
   refine ⟨(f.2 p.1 ?_).trans e,n,ne,nf,d⟩
   intro q
   rw [q,P] at e
   have q':oc=p.2:=GU e
   exact d T (by rw [<- q'];exact L)
theorem lN {i:Nat} (I:Inv X pins σ H s) (a:X.N.Nodup) (hi:X.N[i]?=some x) (b:Loc X.env.scope x) (r:RelV v u) (h:∀ s',Inv X pins (σ.set i (some v)) H s'->Q () s') (hf:X.fn x=true\/X.env.scope.names.lookup x=some .local:=by first | exact .inl rfl | exact .inr rfl | assumption):wpAny M A (storeName X.env x u) Q E s :=
 nR I a hi b r (fun s' c _=>h s' c) hf
theorem Inv.call' (I:Inv X pins σ H s) (f:s'.os=s.os) (u:Un (frs X.stack) ch H H' s.heap s'.heap) (hok:HOk X.prog X.w H' s'.heap) (d:AllBare s'.gens) (a:∀ b ∈ ch,(b ∈ X.ex\/X.s₀.heap.objs.size<=b)/\b ≠ X.env.locals/\(∀ x c,X.env.cells.lookup x=some c->c ≠ b)/\∀ p ∈ X.pn ++ pins,p.1 ≠ b):Inv X pins σ H' s':=by
 obtain ⟨h',g',d',t',o'⟩:=s'
 have e:o'=s.os:=f
 subst e
 exact I.call (g':=g') (t':=t') (d':=d') u hok d a
end
abbrev XK:=Value->Option Addr->Hp->Prop
abbrev St:=List (Option V)
abbrev VK:=V->Hp->Prop
abbrev TE:=St->Hp->VK->Prop
abbrev TT:=St->Hp->(Bool->Hp->Prop)->Prop
abbrev TA:=St->Hp->(List V->Hp->Prop)->Prop
structure Ends where
 nx:St->Hp->Prop
 rt:VK
 bk:St->Hp->Prop:=fun _ _=>False
 ct:St->Hp->Prop:=fun _ _=>False
abbrev TS:=Ends->St->Hp->Prop
def EP (X:Cx) (pins:List (Addr × Obj)) (σ:St) (Q:VK) (u:Value) (s':Shared):Prop:=∃ v H',Inv X pins σ H' s'/\RelV v u/\Q v H'
def TP (X:Cx) (pins:List (Addr × Obj)) (σ:St) (Q:Bool->Hp->Prop) (b:Bool) (s':Shared):Prop:=∃ H',Inv X pins σ H' s'/\Q b H'
def AP (X:Cx) (pins:List (Addr × Obj)) (σ:St) (Q:List V->Hp->Prop) (us:List Value) (s':Shared):Prop:=∃ a H',Inv X pins σ H' s'/\Vals a us/\Q a H'
def SP (X:Cx) (pins:List (Addr × Obj)) (D:Ends) (f:Flow) (s':Shared):Prop :=
 match f with
 | .next=>∃ σ' H',Inv X pins σ' H' s'/\D.nx σ' H'
 | .brk=>∃ σ' H',Inv X pins σ' H' s'/\D.bk σ' H'
 | .cont=>∃ σ' H',Inv X pins σ' H' s'/\D.ct σ' H'
 | .ret u=>∃ v σ' H',Inv X pins σ' H' s'/\RelV v u/\D.rt v H'
def PE (X:Cx) (e:Expr) (t:TE):Prop :=
 ∀ (pins:List (Addr × Obj)) (s:Shared) (σ:St) (H:Hp) (Q:VK),Inv X pins σ H s->t σ H Q->wpAny (model X.prog X.w) X.A (eval e X.env) (EP X pins σ Q) X.xe s
def PT (X:Cx) (e:Expr) (t:TT):Prop :=
 ∀ (pins:List (Addr × Obj)) (s:Shared) (σ:St) (H:Hp) (Q:Bool->Hp->Prop),Inv X pins σ H s->t σ H Q->wpAny (model X.prog X.w) X.A (isTrue e X.env (eval e X.env)) (TP X pins σ Q) X.xe s
def PW (X:Cx) (e:Expr) (t:TT):Prop :=
 ∀ (whole:Sem Value) (pins:List (Addr × Obj)) (s:Shared) (σ:St) (H:Hp) (Q:Bool->Hp->Prop),Inv X pins σ H s->t σ H Q->wpAny (model X.prog X.w) X.A (isTrue e X.env whole) (TP X pins σ Q) X.xe s
theorem PW.pt (h:PW X e t):PT X e t:=h _
def PA (X:Cx) (es:List Expr) (t:TA):Prop :=
 ∀ (pos:Pos) (pins:List (Addr × Obj)) (s:Shared) (σ:St) (H:Hp) (Q:List V->Hp->Prop),Inv X pins σ H s->t σ H Q->wpAny (model X.prog X.w) X.A (spliced (backTo pos (starEach es X.env))) (AP X pins σ Q) X.xe s
def PS (X:Cx) (st:Stmt) (t:TS):Prop :=
 ∀ (pins:List (Addr × Obj)) (s:Shared) (σ:St) (H:Hp) (D:Ends),Inv X pins σ H s->t D σ H->wpAny (model X.prog X.w) X.A (exec st X.env) (SP X pins D) X.xe s
def PSs (X:Cx) (st:List Stmt) (t:TS):Prop :=
 ∀ (pins:List (Addr × Obj)) (s:Shared) (σ:St) (H:Hp) (D:Ends),Inv X pins σ H s->t D σ H->wpAny (model X.prog X.w) X.A (execs st X.env) (SP X pins D) X.xe s
theorem thn (h:wpAny M A t Q E s) (b:∀ a s,Q a s->Q' a s):wpAny M A t Q' E s:=wpAny_mono h b fun _ _ x=>x
end L2
namespace L2
open PySem PySem.Spec PyProof.Rows
section
variable {X:Cx}
theorem bin (e:PE X a ta) (l:PE X b tb) {R:V->V->Hp->Prop} (I:Inv X pins σ H s) (h:ta σ H fun x H1=>tb σ H1 fun y H2=>R x y H2) {Q:α->Shared->Prop} {f:Value->Value->Sem α} (hf:∀ v u s2 x y H2,Inv X pins σ H2 s2->RelV x v->RelV y u->R x y H2->wpAny (model X.prog X.w) X.A (f v u) Q X.xe s2) :
  wpAny (model X.prog X.w) X.A (eval a X.env) (fun v d=>wpAny (model X.prog X.w) X.A (eval b X.env) (fun u g=>wpAny (model X.prog X.w) X.A (f v u) Q X.xe g) X.xe d) X.xe s:=by
 refine thn (e pins s σ H _ I h) fun v s1 ⟨x,H1,c,n,j⟩=>?_
 refine thn (l pins s1 σ H1 _ c j) fun u s2 ⟨y,H2,i,m,k⟩=>?_
 exact hf v u s2 x y H2 i n m k
def wr (i:Nat):TE:=fun σ H Q=>∃ v,σ[i]?=some (some v)/\Q v H
def tC (v:V):TE:=fun _ H Q=>Q v H
theorem mi {i:Nat} (g:X.N[i]?=some x) (n:Vis X.env.scope x) (hd:(x == ("__debug__":Str))=false:=by decide) (d:(x == ("__classdict__":Str))=false:=by decide):PE X (.Name x pos) (wr i):=by
 intro pins s σ H Q I h
 obtain ⟨v,e,h⟩:=h
 obtain ⟨m,k,j⟩:=I.loc
 obtain ⟨u,r,l⟩:=j i x v g e n
 have fin:EP X pins σ Q u s:=⟨v,H,I,r,h⟩
 rcases l with ⟨b,hm⟩ | ⟨b,c,f,a⟩
 ·exact wpAny_Name (wpAny_loadName_local I.ok.kind b k hm fin) hd
 ·rcases b with b | b
  ·exact wpAny_Name (wpAny_loadName_cell I.ok.kind b f a fin) hd
  ·exact wpAny_Name (wpAny_loadName_free I.ok.kind b f a fin d) hd
theorem pG:PE X (.Constant (.int i) j pos) (tC (.int i)):=fun _ _ _ H _ I h=>wpAny_Constant_int ⟨.int i,H,I.tok _,⟨_,rfl⟩,h⟩
theorem pe_bl:PE X (.Constant (.bool b) j pos) (tC (.bl b)):=fun _ _ _ H _ I h=>Constant_bool ⟨.bl b,H,I,rfl,h⟩
theorem ER:PE X (.Constant .none j pos) (tC .non):=fun _ _ _ H _ I h=>Constant_none ⟨.non,H,I,rfl,h⟩
theorem zv:PE X (.Constant (.str x) j pos) (tC (.str x)):=fun _ _ _ H _ I h=>Calls.Constant_str ⟨.str x,H,I.tok _,⟨_,rfl⟩,h⟩
def Gl (X:Cx) (x:Str):Prop:=X.env.kindOf x=some .globalImplicit
theorem iY (I:Inv X pins σ H s) (a:Gl X x) (hm:X.mg x=some u) (h:Q u s) (hd:(x == ("__debug__":Str))=false:=by decide):wpAny (model X.prog X.w) X.A (eval (.Name x pos) X.env) Q E s :=
 Calls.Name_function_global I.ok.kind a (Calls.loadGlobal_global (by rw [I.ok.glob];exact I.mod.glob.keeps I.bk) hm h) hd
theorem kj (I:Inv X pins σ H s) (a:Gl X x) (hm:X.mg x=none) (c:bootBuiltins x=some u) (h:Q u s) (b:x ≠ "__name__":=by decide) (hd:(x == ("__debug__":Str))=false:=by decide):wpAny (model X.prog X.w) X.A (eval (.Name x pos) X.env) Q E s:=by
 obtain ⟨mb,h1,h2⟩:=I.mod.blt
 exact Calls.Name_function_global I.ok.kind a (Calls.loadGlobal_builtin (by rw [I.ok.glob];exact I.mod.glob.keeps I.bk) hm (by rw [I.ok.blt];exact h1.keeps I.bk) ((h2 x b).trans c) h) hd
theorem vt (a:Gl X x) (hm:X.mg x=some u) (r:RelV v u) (hd:(x == ("__debug__":Str))=false:=by decide):PE X (.Name x pos) (tC v) :=
 fun _ _ _ H _ I h=>iY I a hm ⟨v,H,I,r,h⟩ hd
theorem lz (a:Gl X x) (hm:X.mg x=none) (c:bootBuiltins x=some u) (r:RelV v u) (b:x ≠ "__name__":=by decide) (hd:(x == ("__debug__":Str))=false:=by decide):PE X (.Name x pos) (tC v) :=
 fun _ _ _ H _ I h=>kj I a hm c ⟨v,H,I,r,h⟩ b hd
variable {a b:Expr} {ta tb:TE} {pos:Pos}
def PC (X:Cx) (op:CmpOp) (a b:Expr) (t:TE):Prop :=
 ∀ (pins:List (Addr × Obj)) (s:Shared) (σ:St) (H:Hp) (Q:VK),Inv X pins σ H s->t σ H Q ->
  wpAny (model X.prog X.w) X.A (eval a X.env) (fun v c=>wpAny (model X.prog X.w) X.A (eval b X.env) (fun u d=>wpAny (model X.prog X.w) X.A (compareOp op v u) (EP X pins σ Q) X.xe d) X.xe c) X.xe s
def tB (t:TE):TT:=fun σ H Q=>t σ H fun x H1=>∃ c,x=.bl c/\Q c H1
theorem EG (h:PE X e t) (he:∀ whole,isTrue e X.env whole=(do let v <- whole;standAt e.pos;holding [v] (truthy v)):=by intro _;rfl):PT X e (tB t):=by
 intro pins s σ H Q I hw
 refine isTrue_plain (thn (h pins s σ H _ I hw) fun v s1 ⟨x,H1,a,c,b⟩=>?_) (he _)
 obtain ⟨d,rfl,q⟩:=b
 cases c
 exact GP ⟨H1,a,q⟩
variable {tA tB':TT} {gw:List Expr}
def tOr (t u:TT):TT:=fun σ H Q=>t σ H fun c H1=>if c=true then Q true H1 else u σ H1 Q
def tNot (t:TT):TT:=fun σ H Q=>t σ H fun c H1=>Q (!c) H1
theorem ED (b:PT X a tA):PW X (.BoolOp .Or [a] pos) tA:=by
 intro d pins s σ H Q I h
 refine isTrue_or (thn (b pins s σ H Q I h) fun c s1 e=>?_)
 cases c with
 | false=>exact isTrue_or_nil e
 | true=>exact e
theorem pw_or (i:PT X a tA) (g:PW X (.BoolOp .Or (b :: gw) pos) tB'):PW X (.BoolOp .Or (a :: b :: gw) pos) (tOr tA tB'):=by
 intro f pins s σ H Q I h
 refine isTrue_or (thn (i pins s σ H _ I h) fun c s1 ⟨H1,d,e⟩=>?_)
 cases c with
 | true=>exact ⟨H1,d,e⟩
 | false=>exact g f pins s1 σ H1 Q d e
theorem EH (b:PT X a tA):PT X (.UnaryOp .Not a pos) (tNot tA):=by
 intro pins s σ H Q I h
 exact isTrue_not (b pins s σ H (fun c H1=>Q (!c) H1) I h)
def Db (ta tb:TE):TE:=fun σ H Q=>ta σ H fun x H1=>∃ c,x=.bl c/\if c=true then tb σ H1 Q else Q (.bl false) H1
def C6 (ta:TE):TE:=fun σ H Q=>ta σ H fun x H1=>∃ c,x=.bl c/\Q (.bl (!c)) H1
theorem EO (h:PE X a t):PE X (.BoolOp op [a] pos) t:=fun pins s σ H Q I hw=>BoolOp_one (h pins s σ H Q I hw)
theorem EY (f:PE X a ta) (g:PE X (.BoolOp .And (b :: gw) pos) tb):PE X (.BoolOp .And (a :: b :: gw) pos) (Db ta tb):=by
 intro pins s σ H Q I h
 refine BoolOp_and (thn (f pins s σ H _ I h) fun v s1 ⟨x,H1,e,i,d⟩=>?_)
 obtain ⟨c,rfl,d⟩:=d
 cases i
 refine GP ?_
 cases c with
 | true=>exact g pins s1 σ H1 Q e d
 | false=>exact ⟨.bl false,H1,e,rfl,d⟩
theorem EQ (e:PE X a ta):PE X (.UnaryOp .Not a pos) (C6 ta):=by
 intro pins s σ H Q I h
 refine UnaryOp_ (thn (e pins s σ H _ I h) fun v s1 ⟨x,H1,d,f,b⟩=>?_)
 obtain ⟨c,rfl,b⟩:=b
 cases f
 exact not_of (GP ⟨.bl (!c),H1,d,rfl,b⟩)
def tIf (t:TT) (ta tb:TE):TE:=fun σ H Q=>t σ H fun c H1=>if c=true then ta σ H1 Q else tb σ H1 Q
theorem zx (j:PT X c tA) (i:PE X a ta) (g:PE X b tb):PE X (.IfExp c a b pos) (tIf tA ta tb):=by
 intro pins s σ H Q I h
 refine wpAny_IfExp (thn (j pins s σ H _ I h) fun d s1 ⟨H1,e,f⟩=>?_)
 cases d with
 | true=>exact i pins s1 σ H1 Q e f
 | false=>exact g pins s1 σ H1 Q e f
end
end L2
namespace L2
open PySem PySem.Spec PyProof.Rows
def SqL (K:FG) (H:Hp) (a:Addr) (xs:List V):Prop :=
 Rd H a (.lst xs) \/
  ∃ (o:Obj) (its:Array Value) (n:Nat),K.lookup a=some o/\o.cls=.type "list"/\o.dict=none/\o.data=.seq its n/\its.size<=sizeLine/\Vals xs its.toList
def SqT (K:FG) (H:Hp) (a:Addr) (xs:List V):Prop :=
 Rd H a (.tup xs) \/
  ∃ (o:Obj) (its:Array Value) (n:Nat),K.lookup a=some o/\o.cls=.type "tuple"/\o.data=.seq its n/\its.size<=sizeLine/\Vals xs its.toList
def absV:Value->Option V
 | .none=>some .non
 | .bool b=>some (.bl b)
 | .int i _=>some (.int i)
 | .str x _=>some (.str x)
 | .bytes b _=>some (.byt b)
 | .float b _=>some (.flt b)
 | .ref a=>some (.ref a)
 | .type n=>some (.ty n)
 | _=>none
theorem RelV.abs (r:RelV x u):absV u=some x:=by
 cases x with
 | non=>cases r;rfl
 | bl _=>cases r;rfl
 | int _=>obtain ⟨t,rfl⟩:=r;rfl
 | str _=>obtain ⟨t,rfl⟩:=r;rfl
 | byt _=>obtain ⟨t,rfl⟩:=r;rfl
 | flt _=>obtain ⟨t,rfl⟩:=r;rfl
 | ref _=>cases r;rfl
 | ty _=>cases r;rfl
theorem RelV.inj (r:RelV x u) (q:RelV y u):x=y:=GU (r.abs.symm.trans q.abs)
theorem Vals.inj:∀ {xs ys:List V} {us:List Value},Vals xs us->Vals ys us->xs=ys
 | _,_,_,.nil,.nil=>rfl
 | _,_,_,.cons r t,.cons r' t'=>by rw [r.inj r',Vals.inj t t']
section
variable {X:Cx} {pins:List (Addr × Obj)} {σ:St} {H:Hp} {s:Shared} {a:Addr} {xs ys:List V}
theorem SqL.of {K:FG} (h:H a=some (.lst xs)):SqL K H a xs:=.inl (.inl h)
theorem SqT.of {K:FG} (h:H a=some (.tup xs)):SqT K H a xs:=.inl (.inl h)
theorem Inv.list (I:Inv X pins σ H s) (h:SqL X.K H a xs):∃ its:List Value,Vals xs its/\PlainL s.heap a its.toArray/\xs.length<=sizeLine:=by
 rcases h with h | ⟨o,its,n,c,d,hd,b,hz,r⟩
 ·obtain ⟨z,its,n,r,e⟩:=h.ok I.hok
  exact ⟨its,r,⟨_,n,e,rfl,rfl,rfl⟩,z⟩
 ·refine ⟨its.toList,r,⟨o,n,I.kIn a o c,d,hd,by simpa using b⟩,?_⟩
  have e:=r.length
  simp only [Array.length_toList] at e
  omega
theorem Inv.tuple (I:Inv X pins σ H s) (h:SqT X.K H a xs):∃ its:List Value,Vals xs its/\IsTup s.heap a its.toArray/\xs.length<=sizeLine:=by
 rcases h with h | ⟨o,its,n,c,d,b,hz,r⟩
 ·obtain ⟨z,its,r,p⟩:=h.ok I.hok
  exact ⟨its,r,p.tup,z⟩
 ·refine ⟨its.toList,r,⟨o,I.kIn a o c,d,n,by simpa using b⟩,?_⟩
  have e:=r.length
  simp only [Array.length_toList] at e
  omega
theorem Inv.list_inj (I:Inv X pins σ H s) (h:SqL X.K H a xs) (h':SqL X.K H a ys):xs=ys:=by
 obtain ⟨its,r,⟨o,n,e,_,_,d⟩,_⟩:=I.list h
 obtain ⟨its',c,⟨o',f,b,_,_,d'⟩,_⟩:=I.list h'
 rw [e] at b;cases b
 rw [d] at d'
 injection d' with d1 _
 have:its=its':=by simpa using congrArg Array.toList d1
 subst this
 exact r.inj c
theorem Inv.tuple_inj (I:Inv X pins σ H s) (h:SqT X.K H a xs) (h':SqT X.K H a ys):xs=ys:=by
 obtain ⟨its,r,⟨o,e,_,n,d⟩,_⟩:=I.tuple h
 obtain ⟨its',c,⟨o',b,_,f,d'⟩,_⟩:=I.tuple h'
 rw [e] at b;cases b
 rw [d] at d'
 injection d' with d1 _
 have:its=its':=by simpa using congrArg Array.toList d1
 subst this
 exact r.inj c
end
abbrev Cx.wish (X:Cx) (E:Value->Shared->Prop):Cx:={ X with xe:=E }
abbrev Cx.nox (X:Cx):Cx:=X.wish fun _ _=>False
theorem Cx.Ok.wish {X:Cx} (ok:X.Ok) (E:Value->Shared->Prop):(X.wish E).Ok :=
 ⟨ok.mod,ok.kind,ok.glob,ok.blt,ok.above,ok.inj,ok.has,ok.cab,ok.hd,ok.frames,ok.stk,ok.exf,ok.bs,ok.bsz,ok.noex,ok.exfs,ok.funs,ok.frf⟩
theorem Cx.Ok.unwish {X:Cx} (ok:(X.wish E).Ok):X.Ok :=
 ⟨ok.mod,ok.kind,ok.glob,ok.blt,ok.above,ok.inj,ok.has,ok.cab,ok.hd,ok.frames,ok.stk,ok.exf,ok.bs,ok.bsz,ok.noex,ok.exfs,ok.funs,ok.frf⟩
section
variable {X:Cx} {pins:List (Addr × Obj)} {σ:St} {H:Hp} {s:Shared} {E:Value->Shared->Prop}
theorem Inv.wish (I:Inv X pins σ H s) (E:Value->Shared->Prop):Inv (X.wish E) pins σ H s:=⟨I.ok.wish E,I.os,I.bare,I.base,I.loc,I.cell,I.free,I.freeC,I.pin,I.hok,I.len⟩
theorem Inv.unwish (I:Inv (X.wish E) pins σ H s):Inv X pins σ H s:=⟨I.ok.unwish,I.os,I.bare,I.base,I.loc,I.cell,I.free,I.freeC,I.pin,I.hok,I.len⟩
theorem SP.unwish (h:SP (X.wish E) pins D f s'):SP X pins D f s':=by
 cases f with
 | next=>obtain ⟨σ',H',I,q⟩:=h;exact ⟨σ',H',I.unwish,q⟩
 | brk=>obtain ⟨σ',H',I,q⟩:=h;exact ⟨σ',H',I.unwish,q⟩
 | cont=>obtain ⟨σ',H',I,q⟩:=h;exact ⟨σ',H',I.unwish,q⟩
 | ret u=>obtain ⟨v,σ',H',I,r,q⟩:=h;exact ⟨v,σ',H',I.unwish,r,q⟩
theorem PSs.nox {st:List Stmt} (h:PSs X.nox st t):PSs X st t:=fun pins s σ H D I hw =>
 wpAny_mono (h pins s σ H D (I.wish _) hw) (fun _ _ q=>q.unwish) fun _ _ z=>False.elim z
end
section
variable {X:Cx} {st:Stmt} {gw:List Stmt} {t u:TS} {e:Expr} {te:TE} {pos:Pos}
def C7:TS:=fun D σ H=>D.nx σ H
def tSeq (t u:TS):TS:=fun D σ H=>t { D with nx:=u D } σ H
theorem BW:PSs X [] C7:=fun _ _ σ H _ I h=>wpAny_execs_nil ⟨σ,H,I,h⟩
theorem zm (h1:PS X st t) (h2:PSs X gw u):PSs X (st :: gw) (tSeq t u):=by
 intro pins s σ H D I h
 refine wpAny_execs_cons (thn (h1 pins s σ H { D with nx:=u D } I h) fun f s1 q=>?_)
 cases f with
 | next =>
  obtain ⟨σ',H',a,q⟩:=q
  exact h2 pins s1 σ' H' D a q
 | ret v=>exact q
 | brk=>exact q
 | cont=>exact q
theorem vp (h1:PS X st t):PSs X [st] t:=by
 intro pins s σ H D I h
 refine wpAny_execs_cons (thn (h1 pins s σ H D I h) fun f s1 q=>?_)
 cases f with
 | next=>exact wpAny_execs_nil q
 | ret v=>exact q
 | brk=>exact q
 | cont=>exact q
theorem Inv.quiet (I:Inv X pins σ H s):interactive X.env=false:=by simp [interactive,I.ok.kind]
def C8 (te:TE):TS:=fun D σ H=>te σ H fun _ H1=>D.nx σ H1
theorem BY (he:PE X e te) (c:swapsWith e none pos.line X.env=pure false:=by rfl):PS X (.Expr e pos) (C8 te):=by
 intro pins s σ H D I h
 exact wpAny_Expr_any (thn (he pins s σ H _ I h) fun v s1 ⟨x,H1,a,d,b⟩=>⟨σ,H1,a,b⟩) I.quiet c
def tRet (te:TE):TS:=fun D σ H=>te σ H D.rt
theorem EJ (he:PE X e te):PS X (.Return (some e) pos) (tRet te):=by
 intro pins s σ H D I h
 exact wpAny_Return_some (thn (he pins s σ H _ I h) fun v s1 ⟨x,H1,a,b,c⟩=>⟨x,σ,H1,a,b,c⟩)
def tIfS (c:TT) (t u:TS):TS:=fun D σ H=>c σ H fun b H1=>if b=true then t D σ H1 else u D σ H1
theorem ps_if (j:PT X c tc) (i:PSs X a t) (g:PSs X b u):PS X (.If c a b pos) (tIfS tc t u):=by
 intro pins s σ H D I h
 refine wpAny_If (thn (j pins s σ H _ I h) fun d s1 ⟨H1,e,f⟩=>?_)
 cases d with
 | true=>exact i pins s1 σ H1 D e f
 | false=>exact g pins s1 σ H1 D e f
end
abbrev TG:=V->St->Hp->(St->Hp->Prop)->Prop
abbrev TGs:=List V->St->Hp->(St->Hp->Prop)->Prop
def PG (X:Cx) (target:Expr) (t:TG):Prop :=
 ∀ (pins:List (Addr × Obj)) (s:Shared) (σ:St) (H:Hp) (v:V) (u:Value) (Q:St->Hp->Prop),Inv X pins σ H s->RelV v u->t v σ H Q ->
  wpAny (model X.prog X.w) X.A (assign target X.env u) (fun _ s'=>∃ σ' H',Inv X pins σ' H' s'/\Q σ' H') X.xe s
def PGs (X:Cx) (ts:List Expr) (t:TGs):Prop :=
 ∀ (pins:List (Addr × Obj)) (s:Shared) (σ:St) (H:Hp) (a:List V) (us:List Value) (Q:St->Hp->Prop),Inv X pins σ H s->Vals a us->t a σ H Q ->
  wpAny (model X.prog X.w) X.A (assignInOrder ((assignEach ts X.env).map (·.2)) us) (fun _ s'=>∃ σ' H',Inv X pins σ' H' s'/\Q σ' H') X.xe s
abbrev FZ:=V->V->V->Hp->(Hp->Prop)->Prop
def AU (X:Cx) (t:FZ):Prop :=
 ∀ (pins:List (Addr × Obj)) (s:Shared) (σ:St) (H:Hp) (o i v:V) (ov a u:Value) (Q:Hp->Prop),Inv X pins σ H s->RelV o ov->RelV i a->RelV v u->t o i v H Q ->
  wpAny (model X.prog X.w) X.A (setItem ov a u) (fun _ s'=>∃ H',Inv X pins σ H' s'/\Q H') X.xe s
section
variable {X:Cx} {pos:Pos}
def vN (i:Nat):TG:=fun v σ H Q=>Q (σ.set i (some v)) H
theorem jH {i:Nat} (a:X.N.Nodup) (hi:X.N[i]?=some x) (b:Loc X.env.scope x) (hf:X.fn x=true\/X.env.scope.names.lookup x=some .local:=by first | exact .inl rfl | exact .inr rfl | assumption):PG X (.Name x pos) (vN i):=by
 intro pins s σ H v u Q I r h
 exact wpAny_assign_Name (lN I a hi b r (fun s' c=>⟨_,H,c,h⟩) hf)
def gNil:TGs:=fun a σ H Q=>a=[]/\Q σ H
def Dt (t:TG) (u:TGs):TGs:=fun a σ H Q=>∃ v r,a=v :: r/\t v σ H fun σ' H'=>u r σ' H' Q
theorem vq:PGs X [] gNil:=by
 intro pins s σ H a us Q I r h
 obtain ⟨e,h⟩:=h
 subst e
 cases r
 exact assignInOrder_nil ⟨σ,H,I,h⟩
theorem mf (h1:PG X e t) (h2:PGs X es u) (c:(assignEach (e :: es) X.env).map (·.2)=assign e X.env :: (assignEach es X.env).map (·.2):=by rfl):PGs X (e :: es) (Dt t u):=by
 intro pins s σ H f us Q I r h
 obtain ⟨v,d,e1,h⟩:=h
 subst e1
 cases r with
 | cons r rr =>
  rw [c]
  refine assignInOrder_cons (thn (h1 pins s σ H _ _ _ I r h) fun _ s1 ⟨σ1,H1,a,b⟩=>?_)
  exact h2 pins s1 σ1 H1 _ _ Q a rr b
def gTup (K:FG) (n:Nat) (t:TGs):TG:=fun v σ H Q=>∃ a xs,v=.ref a/\SqT K H a xs/\xs.length=n/\t xs σ H Q
theorem zt {k:Nat} {n:Nat} (p:X.calm=true) (h:PGs X es t) (j:(assignEach es X.env).length=n:=by rfl) (c:(assignEach es X.env).findIdx? (·.1)=none:=by rfl):PG X (.Tuple es k pos) (gTup X.K n t):=by
 intro pins s σ H v u Q I r hw
 obtain ⟨a,xs,e1,l,g,hw⟩:=hw
 subst e1
 cases r
 obtain ⟨its,d,m,hz⟩:=I.tuple l
 refine assign_Tuple_tuple (I.ok.hd p) m (by simp [j,<- g,d.length]) c fun h' i=>?_
 have f:Inv X pins σ H { s with heap:=h' }:=I.kept (t':=s.toks) fun b o e=>i b o (Gx (Gj e)) e
 exact h pins _ σ H xs _ Q f (by simpa using d) hw
def gSub (to a:TE) (t:FZ):TG:=fun v σ H Q=>to σ H fun o H1=>a σ H1 fun i H2=>t o i v H2 fun b=>Q σ b
theorem EN (l:PE X o to) (hi:PE X i ti) (p:AU X t) (d:∀ v,assign (.Subscript o i pos) X.env v=(do
   let ov <- holding [v] (eval o X.env)
   let a <- holding [v,ov] (eval i X.env)
   standAt pos
   holding [v,ov,a] (setItem ov a v)
   release [v,ov,a] []):=by intro _;rfl):PG X (.Subscript o i pos) (gSub to ti t):=by
 intro pins s σ H v u Q I r h
 rw [d]
 refine F7 (F9 (thn (l pins s σ H _ I h) fun ov s1 ⟨x,H1,c,n,j⟩=>?_))
 refine F7 (F9 (thn (hi pins s1 σ H1 _ c j) fun a s2 ⟨y,H2,g,m,k⟩=>?_))
 refine F7 (wpAny_standAt (F7 (F9 (thn (p pins s2 σ H2 x y v ov a u _ g n m r k) fun _ s3 ⟨f,b,e⟩=>?_))))
 exact wpAny_release ⟨σ,f,b,e⟩
def yp (te:TE) (g:TG):TS:=fun D σ H=>te σ H fun x H1=>g x σ H1 D.nx
theorem zp (he:PE X e te) (b:PG X tg g) (f:swapsWithSole [tg] e pos.line X.env=pure false:=by rfl) (hw:swappedStores [tg] e X.env=pure none:=by rfl) (h1:(assignEach [tg] X.env).map (·.2)=[assign tg X.env]:=by rfl):PS X (.Assign [tg] e pos) (yp te g):=by
 intro pins s σ H D I h
 refine wpAny_Assign_stores (thn (he pins s σ H _ I h) fun v s1 ⟨x,H1,a,d,c⟩=>?_) f hw
 rw [h1]
 exact thn (b pins s1 σ H1 x v _ a d c) fun _ s2 q=>q
theorem EI {i:Nat} (a:X.N.Nodup) (hi:X.N[i]?=some x) (d:Loc X.env.scope x) (he:PE X e te) (j:swapsWith e (some (.Name x pos')) pos.line X.env=pure false:=by rfl) (hf:X.fn x=true\/X.env.scope.names.lookup x=some .local:=by first | exact .inl rfl | exact .inr rfl | assumption) :
  PS X (.Assign [.Name x pos'] e pos) (yp te (vN i)):=by
 intro pins s σ H D I h
 refine wpAny_Assign_Name (thn (he pins s σ H _ I h) fun v s1 ⟨y,H1,b,g,f⟩=>?_) j
 exact lN b a hi d g (fun s2 c=>⟨_,H1,c,f⟩) hf
end
section
variable {X:Cx} {pos:Pos}
def ye (c:TT) (tb:TS):TS:=fun D σ H=>∃ W:Nat->St->Hp->Prop,(∃ m,W m σ H)/\∀ m σ H,W m σ H ->
 c σ H fun b H1=>if b=true then ∃ N:St->Hp->Prop,(∀ σ' H',N σ' H'->∃ a,a < m/\W a σ' H')/\tb { D with nx:=N,ct:=N,bk:=D.nx } σ H1 else D.nx σ H1
theorem zn (j:PassesOwn (model X.prog X.w) X.A X.env X.xe) (u:PT X c tc) (q:PSs X body tb):PS X (.While c body [] pos) (ye tc tb):=by
 intro pins s σ H D I h
 obtain ⟨W,⟨m0,t⟩,turn⟩:=h
 refine wpAny_While (codeAny_whileLoop (fun n s'=>∃ σ' H',Inv X pins σ' H' s'/\W n σ' H') ?_ m0 ⟨σ,H,I,t⟩)
 rintro n s1 ⟨σ1,H1,m,p⟩
 refine wpAny_passesOwn j (thn (u pins s1 σ1 H1 _ m (turn n σ1 H1 p)) fun b s2 ⟨H2,i,d⟩=>?_)
 cases b with
 | true =>
  obtain ⟨N,l,d⟩:=d
  rw [if_pos rfl]
  refine wpAny_passesOwn j (thn (q pins s2 σ1 H2 _ i d) fun f s3 a=>?_)
  cases f with
  | next =>
   obtain ⟨σ3,e,g,k⟩:=a
   grind
  | cont =>
   obtain ⟨σ3,e,g,k⟩:=a
   obtain ⟨r,hm,o⟩:=l σ3 e k
   exact ⟨r,hm,σ3,e,g,o⟩
  | brk=>exact a
  | ret v=>exact a
 | false =>
  rw [if_neg Gw]
  exact wpAny_execs_nil ⟨σ1,H2,i,d⟩
end
structure It where
 go:Nat->Hp->Prop
 yld:Nat->Hp->V->Hp->Prop
 stop:Nat->Hp->Prop
def FpOk (X:Cx) (pins:List (Addr × Obj)) (H:Hp) (b:Addr):Prop :=
 H b=none/\b ≠ X.env.locals/\b ∉ X.fs/\(b ∈ X.ex\/X.s₀.heap.objs.size<=b)/\(∀ x c,X.env.cells.lookup x=some c->c ≠ b)/\∀ p ∈ X.pn ++ pins,p.1 ≠ b
theorem Inv.fpOk (I:Inv X pins σ H s) (a:s.heap.objs.size<=b) (f:H' b=none):FpOk X pins H' b:=by
 refine ⟨f,Nat.ne_of_gt (GC I.lt a),I.nofs a,.inr (GQ I.sz a),fun x c e z=>?_,fun p d z=>?_⟩
 ·obtain ⟨v,q⟩:=I.cell x c e
  exact absurd (GC q.lt (by rw [z];exact a)) (Nat.lt_irrefl _)
 ·exact absurd (GC (Gj (I.pin p d).1) (by rw [z];exact a)) (Nat.lt_irrefl _)
structure Turn (P:Program) (w:World) (K:FG) (tg:Expr) (J:It) (fp:List Addr) (it:Addr) (tn:Nat->Heap->Prop):Prop where
 mem:it ∈ fp
 obj:∀ i h,tn i h->∀ b ∈ fp,∃ o,h.get? b=some o/\∀ v,o.data ≠ .cell v
 keep:∀ i h h',tn i h->(∀ b ∈ fp,∀ o,h.get? b=some o->h'.get? b=some o)->tn i h'
 item:∀ (X:Cx),X.prog=P->X.w=w->X.K=K->X.calm=true->∀ (i:Nat) (pins:List (Addr × Obj)) (s:Shared) (σ:St) (H:Hp) (E:Value->Shared->Prop),Inv X pins σ H s->(∀ b ∈ fp,FpOk X pins H b)->tn i s.heap->J.go i H ->
  wpAny (model P w) X.A (pyNext (.ref it)) (fun r s1=>∃ u,r=some u /\
   wpAny (model P w) X.A (letOwnedTupleGo tg (.ref it) u) (fun _ s2=>∃ x H',Inv X pins σ H' s2/\RelV x u/\J.yld i H x H'/\tn (i+1) s2.heap/\∀ b ∈ fp,H' b=none) E s1) E s
 done:∀ (X:Cx),X.prog=P->X.w=w->X.K=K->X.calm=true->∀ (i:Nat) (pins:List (Addr × Obj)) (s:Shared) (σ:St) (H:Hp) (E:Value->Shared->Prop),Inv X pins σ H s->(∀ b ∈ fp,FpOk X pins H b)->tn i s.heap->J.stop i H ->
  wpAny (model P w) X.A (pyNext (.ref it)) (fun r s1=>r=none/\Inv X pins σ H s1) E s
 self:∀ (A:Around) (i:Nat) (s:Shared) (Q:Value->Shared->Prop) (E:Value->Shared->Prop),tn i s.heap->Q (.ref it) s->wpAny (model P w) A (pyIter (.ref it)) Q E s
abbrev TI:=St->Hp->(It->Hp->Prop)->Prop
def PIE (X:Cx) (pins:List (Addr × Obj)) (σ:St) (tg:Expr) (R:It->Hp->Prop) (a:Value) (s2:Shared):Prop :=
 ∃ (it:Addr) (fp:List Addr) (c:Nat->Heap->Prop) (J:It) (H':Hp),a=.ref it/\Inv X pins σ H' s2/\Turn X.prog X.w X.K tg J fp it c/\c 0 s2.heap/\(∀ b ∈ fp,FpOk X pins H' b)/\R J H'
def PI (X:Cx) (tg iter:Expr) (a:TI):Prop :=
 ∀ (pins:List (Addr × Obj)) (s:Shared) (σ:St) (H:Hp) (R:It->Hp->Prop),Inv X pins σ H s->a σ H R ->
  wpAny (model X.prog X.w) X.A (eval iter X.env) (fun v s1=>wpAny (model X.prog X.w) X.A (pyIter v) (PIE X pins σ tg R) X.xe s1) X.xe s
theorem Aj (c : s.heap.get? it = some o) (d : o.cls = .type n) (hd : o.data = .fields vs) (b : ["enumerate", "zip", "dict_itemiterator", "dict_reverseitemiterator", "odict_iterator", "itertools.zip_longest", "itertools.pairwise"].contains n = false) (a : Q () s) : wpAny M A (letOwnedTupleGo tg (.ref it) u) Q E s := by
  unfold letOwnedTupleGo
  cases tg <;> first
    | exact F8 a
    | (cases u <;> first
        | exact F8 a
        | (refine F7 (wpAny_load c ?_)
           rw [d, hd]
           show wpAny M A (if (["enumerate", "zip", "dict_itemiterator", "dict_reverseitemiterator", "odict_iterator", "itertools.zip_longest", "itertools.pairwise"].contains n && vs[0]? == some (rawInt _)) = true then _ else _) Q E s
           rw [if_neg (by intro h; rw [b, Bool.false_and] at h; cases h)]
           exact F8 a))
def Itl (K:FG) (a:Addr):It :=
 ⟨fun i H=>∃ xs x,SqL K H a xs/\xs[i]?=some x,fun i H x H'=>H'=H/\∀ xs,SqL K H a xs->xs[i]?=some x,fun i H=>∃ xs,SqL K H a xs/\xs.length<=i⟩
def Itt (K:FG) (a:Addr):It :=
 ⟨fun i H=>∃ xs x,SqT K H a xs/\xs[i]?=some x,fun i H x H'=>H'=H/\∀ xs,SqT K H a xs->xs[i]?=some x,fun i H=>∃ xs,SqT K H a xs/\xs.length<=i⟩
def Itr (lo:Int) (n:Nat):It:=⟨fun i _=>i < n,fun i H x H'=>H'=H/\x=.int (lo+i),fun i _=>n<=i⟩
theorem wm {P:Program} {w:World} {K:FG} {tg:Expr} (a it:Addr):Turn P w K tg (Itl K a) [it] it (fun i h=>h.IsListIter it a i) where
 mem:=by simp
 obj:=fun i h st b f=>by
  have e:b=it:=by simpa using f
  subst e
  obtain ⟨o,e,c,d⟩:=st
  exact ⟨o,e,fun v z=>by rw [d] at z;cases z⟩
 keep:=fun i h h' st k=>st.at fun o e=>k it (by simp) o e
 item:=by
  intro X r hw q A i pins s σ H E I hf st l
  subst r hw q
  obtain ⟨xs,x,j,n⟩:=l
  obtain ⟨its,t,p,hz⟩:=I.list j
  obtain ⟨u,hu,F⟩:=t.get n
  obtain ⟨f0,f1,f2,m,f4,y⟩:=hf it (by simp)
  refine wpAny_pyNext_list_item st p.isList (x:=u) (by simpa using hu) fun h' g sb=>?_
  have B:Inv X pins σ H { s with heap:=h' }:=I.turned (t':=s.toks) (fun b o f e=>(sb.2 b f).trans e) f0 f1 m f4 y
  obtain ⟨o,e,c,d⟩:=id g
  exact ⟨u,rfl,Aj (s:={ s with heap:=h' }) e c d (by decide) ⟨x,H,B,F,⟨rfl,fun ys D=>by rw [I.list_inj D j];exact n⟩,g,fun b f=>(hf b f).1⟩⟩
 done:=by
  intro X r hw q A i pins s σ H E I hf st l
  subst r hw q
  obtain ⟨xs,j,n⟩:=l
  obtain ⟨its,t,p,hz⟩:=I.list j
  obtain ⟨f0,f1,f2,m,f4,y⟩:=hf it (by simp)
  have G:=t.length
  exact wpAny_pyNext_list_end (I.ok.hd A) st p.isList (by simp;omega) fun h' C=>⟨rfl,I.turned (t':=s.toks) (fun b o f e=>C b o f e) f0 f1 m f4 y⟩
 self:=fun _ _ _ _ _ st h=>wpAny_pyIter_listiter st h
theorem sT {P:Program} {w:World} {K:FG} {tg:Expr} (a it:Addr):Turn P w K tg (Itt K a) [it] it (fun i h=>h.IsTupleIter it a i) where
 mem:=by simp
 obj:=fun i h st b f=>by
  have e:b=it:=by simpa using f
  subst e
  obtain ⟨o,e,c,d⟩:=st
  exact ⟨o,e,fun v z=>by rw [d] at z;cases z⟩
 keep:=fun i h h' st k=>st.at fun o e=>k it (by simp) o e
 item:=by
  intro X r hw q A i pins s σ H E I hf st l
  subst r hw q
  obtain ⟨xs,x,j,n⟩:=l
  obtain ⟨its,t,p,hz⟩:=I.tuple j
  obtain ⟨u,hu,F⟩:=t.get n
  obtain ⟨f0,f1,f2,m,f4,y⟩:=hf it (by simp)
  refine wpAny_pyNext_tuple_item st (show s.heap.IsTuple a its.toArray from p) (x:=u) (by simpa using hu) fun h' g sb=>?_
  have B:Inv X pins σ H { s with heap:=h' }:=I.turned (t':=s.toks) (fun b o f e=>(sb.2 b f).trans e) f0 f1 m f4 y
  obtain ⟨o,e,c,d⟩:=id g
  exact ⟨u,rfl,Aj (s:={ s with heap:=h' }) e c d (by decide) ⟨x,H,B,F,⟨rfl,fun ys D=>by rw [I.tuple_inj D j];exact n⟩,g,fun b f=>(hf b f).1⟩⟩
 done:=by
  intro X r hw q A i pins s σ H E I hf st l
  subst r hw q
  obtain ⟨xs,j,n⟩:=l
  obtain ⟨its,t,p,hz⟩:=I.tuple j
  obtain ⟨f0,f1,f2,m,f4,y⟩:=hf it (by simp)
  have G:=t.length
  exact wpAny_pyNext_tuple_end (I.ok.hd A) st (show s.heap.IsTuple a its.toArray from p) (by simp;omega) fun h' C=>⟨rfl,I.turned (t':=s.toks) (fun b o f e=>C b o f e) f0 f1 m f4 y⟩
 self:=fun _ _ _ _ _ st h=>wpAny_pyIter_tupleiter st h
theorem sU {P:Program} {w:World} {K:FG} {tg:Expr} (it:Addr) (lo:Int) (n:Nat):Turn P w K tg (Itr lo n) [it] it (fun i h=>IsRangeIter h it (lo+(i:Nat) * 1) ((n:Int) - (i:Nat)) 1) where
 mem:=by simp
 obj:=fun i h st b a=>by
  grind
 keep:=fun i h h' st k=>k it (by simp) _ st
 item:=by
  intro X j hw g m i pins s σ H E I hf st d
  subst j hw g
  obtain ⟨f0,f1,f2,f,f4,l⟩:=hf it (by simp)
  have W:=Walks.range (prog:=X.prog) (w:=X.w) (I.ok.hd m) it lo 1 n
  refine W.item i s _ _ d st fun v h' tk u c p=>?_
  obtain ⟨t,rfl⟩:=u
  have q:Inv X pins σ H { s with heap:=h',toks:=tk }:=I.turned (fun b o a e=>p b o (by simpa using a) e) f0 f1 f f4 l
  refine ⟨_,rfl,Aj (s:={ s with heap:=h',toks:=tk }) (n:="range_iterator") c rfl rfl (by decide) ⟨.int (lo+i),H,q,⟨t,?_⟩,⟨rfl,rfl⟩,c,fun b a=>(hf b a).1⟩⟩
  rw [Int.mul_one]
 done:=by
  intro X j hw g m i pins s σ H E I hf st d
  subst j hw g
  obtain ⟨f0,f1,f2,f,f4,l⟩:=hf it (by simp)
  exact wpAny_pyNext_range_end (I.ok.hd m) st (by have:n<=i:=d;omega) fun h' r=>⟨rfl,I.turned (t':=s.toks) (fun b o a e=>r b o a e) f0 f1 f f4 l⟩
 self:=fun _ _ _ _ _ st h=>wpAny_pyIter_rangeiter st h
end L2
namespace L2
open PySem PySem.Spec PyProof.Rows
section
variable {X:Cx} {tg:Expr}
theorem qV {lo hi:Int} {tk:Nat} (I:Inv X pins σ H s) (h1:-(2 ^ 62)<=lo) (h2:lo < 2 ^ 62) (h3:-(2 ^ 62)<=hi) (f:hi < 2 ^ 62) (q:R (Itr lo (hi - lo).toNat) H):wpAny (model X.prog X.w) X.A (pyIter (.ref s.heap.objs.size)) (PIE X pins σ tg R) E { s with heap:=s.heap.push { cls:=.type "range",data:=.fields #[.int lo t,.int hi u,.int 1 v] },toks:=tk }:=by
 refine wpAny_pyIter_range (IsRange.new ..) (small_one h1 h2 h3 f) ?_
 have a:Inv X pins σ H { s with heap:=s.heap.push { cls:=.type "range",data:=.fields #[.int lo t,.int hi u,.int 1 v] },toks:=tk }:=I.kept fun b o e=>Gd _ e
 refine ⟨(s.heap.push { cls:=.type "range",data:=.fields #[.int lo t,.int hi u,.int 1 v] }).objs.size,[(s.heap.push { cls:=.type "range",data:=.fields #[.int lo t,.int hi u,.int 1 v] }).objs.size],_,_,H,rfl,
  a.kept (t':=tk) fun b o e=>Gd _ e,sU _ lo (hi - lo).toNat,?_,fun b d=>?_,q⟩
 ·have e1:lo+((0:Nat):Int) * 1=lo:=by simp
  have c:(((hi - lo).toNat:Nat):Int) - ((0:Nat):Int)=Builtin.Range.rangeSize lo hi 1:=by rw [rangeSize_one];split <;> omega
  show IsRangeIter _ _ (lo+((0:Nat):Int) * 1) ((((hi - lo).toNat:Nat):Int) - ((0:Nat):Int)) 1
  rw [e1,c]
  exact Gn _ rfl
 ·have e:b=(s.heap.push { cls:=.type "range",data:=.fields #[.int lo t,.int hi u,.int 1 v] }).objs.size:=by simpa using d
  subst e
  exact a.fpOk (Gv _) (a.hok.fresh (Gv _))
def Dr (ta:TA):TI:=fun σ H R=>ta σ H fun a H1=>∃ j:Int,a=[.int j]/\-(2 ^ 62)<=j/\j < 2 ^ 62/\R (Itr 0 j.toNat) H1
def Dq (ta:TA):TI:=fun σ H R=>ta σ H fun a H1=>∃ i j:Int,a=[.int i,.int j]/\(-(2 ^ 62)<=i/\i < 2 ^ 62/\-(2 ^ 62)<=j/\j < 2 ^ 62)/\R (Itr i (j - i).toNat) H1
theorem wO (f:Gl X "range") (hm:X.mg "range"=none) (d:PA X [a] ta) (k:starEach [a] X.env=[(false,eval a X.env)]:=by rfl):PI X tg (.Call (.Name "range" p) [a] [] pos) (Dr ta):=by
 intro pins s σ H R I h
 refine Call_ (kj I f hm boot_range (PyProof.Rows.callWith_type1 (thn (d pos pins s σ H _ I h) fun us s1 ⟨l,H1,c,i,b⟩=>?_) k rfl))
 obtain ⟨j,e,b,g,q⟩:=b
 subst e
 cases i with
 | cons r rr =>
  cases rr
  obtain ⟨t,rfl⟩:=r
  exact call_range_1 (qV c (by omega) (by omega) b g (by simpa using q))
theorem wN (l:Gl X "range") (hm:X.mg "range"=none) (g:PA X [a,b] ta) (o:starEach [a,b] X.env=[(false,eval a X.env),(false,eval b X.env)]:=by rfl) (c:starEach [b] X.env=[(false,eval b X.env)]:=by rfl) :
  PI X tg (.Call (.Name "range" p) [a,b] [] pos) (Dq ta):=by
 intro pins s σ H R I h
 refine Call_ (kj I l hm boot_range (PyProof.Rows.callWith_type1 (thn (g pos pins s σ H _ I h) fun us s1 ⟨v,H1,f,n,d⟩=>?_) (by rw [o,c]) (by rw [c];rfl)))
 obtain ⟨i,j,e,⟨d,m,k,u⟩,q⟩:=d
 subst e
 cases n with
 | cons r rr =>
  cases rr with
  | cons r' rr =>
   cases rr
   obtain ⟨t,rfl⟩:=r
   obtain ⟨t',rfl⟩:=r'
   exact call_range_2 (qV f d m k u q)
def tFor (b:TI) (g:TG) (tb:TS):TS:=fun D σ H=>b σ H fun J H1=>∃ W:Nat->Nat->St->Hp->Prop,(∃ m,W 0 m σ H1)/\∀ i m σ H,W i m σ H ->
 (J.stop i H/\D.nx σ H)\/(J.go i H/\∃ N:St->Hp->Prop,(∀ σ' H',N σ' H'->∃ a,a < m/\W (i+1) a σ' H')/\∀ x H',J.yld i H x H'->g x σ H' fun σ2 H2=>tb { D with nx:=N,ct:=N,bk:=D.nx } σ2 H2)
def me (fp:List Addr) (h:Heap):List (Addr × Obj):=fp.filterMap fun b=>(h.get? b).map fun o=>(b,o)
theorem fR (a:b ∈ fp) (e:h.get? b=some o):(b,o) ∈ me fp h:=List.mem_filterMap.mpr ⟨b,a,by rw [e];rfl⟩
theorem wR (a:p ∈ me fp h):p.1 ∈ fp/\h.get? p.1=some p.2:=by
 obtain ⟨b,c,e⟩:=List.mem_filterMap.mp a
 cases q:h.get? b with
 | none=>rw [q] at e;cases e
 | some o =>
  grind
theorem Inv.pinned (I:Inv X pins σ H s) (hf:∀ b ∈ fp,FpOk X pins H b) (f:∀ b ∈ fp,∃ o,s.heap.get? b=some o/\∀ v,o.data ≠ .cell v):Inv X (pins ++ me fp s.heap) σ H s :=
 I.pins_of fun p g=>(Gk.mp g).elim (fun z=>I.pin p (Gg _ z)) fun z=>by
  obtain ⟨c,e⟩:=wR z
  obtain ⟨f0,f1,f2,_⟩:=hf p.1 c
  obtain ⟨o,a,d⟩:=f p.1 c
  rw [e] at a;cases a
  exact ⟨e,f0,f1,f2,d⟩
theorem Inv.unpinned (I:Inv X (pins ++ pl) σ H s):Inv X pins σ H s:=I.pins_of fun p a=>I.pin p (Gg _ (Gf _ a))
theorem EK (y:PassesOwn (model X.prog X.w) X.A X.env X.xe) (L:X.calm=true) (hi:PI X tg iter wi) (hg:PG X tg g) (a:PSs X body tb) (hs:∀ x,foldedSetIterable iter X.env x=pure x:=by intro _;rfl):PS X (.For tg iter body [] pos) (tFor wi g tb):=by
 intro pins s σ H D I h
 refine wpAny_For (thn (hi pins s σ H _ I h) fun v s1 h1=>thn h1 fun ae s2 h2=>?_) hs
 obtain ⟨it,fp,M,J,H2,e,S,T,K,f2,W,⟨m0,w0⟩,turn⟩:=h2
 subst e
 have c:∀ {H':Hp},(∀ b ∈ fp,H' b=none)->∀ b ∈ fp,FpOk X pins H' b:=fun hn b a=>⟨hn b a,(f2 b a).2⟩
 refine codeAny_forLoop_any (fun n s'=>∃ i σ' H',Inv X pins σ' H' s'/\M i s'.heap/\(∀ b ∈ fp,H' b=none)/\W i n σ' H') ?_ m0 ⟨0,σ,H2,S,K,fun b a=>(f2 b a).1,w0⟩
 rintro n s3 ⟨i,σ3,B,P,z,t,w3⟩
 rcases turn i n σ3 B w3 with ⟨stop,qn⟩ | ⟨go,N,Z,step⟩
 ·refine wpAny_passesOwn y (thn (T.done X rfl rfl rfl L i pins s3 σ3 B X.xe P (c t) z stop) fun r s4 ⟨G,I4⟩=>?_)
  subst G
  exact wpAny_execs_nil ⟨σ3,B,I4,qn⟩
 ·refine wpAny_passesOwn y (thn (T.item X rfl rfl rfl L i pins s3 σ3 B X.xe P (c t) z go) fun r s4 ⟨u,G,V⟩=>?_)
  subst G
  refine wpAny_passesOwn y (thn V fun _ s5 ⟨x,O,I5,r5,U,p,E⟩=>?_)
  have F:=I5.pinned (c E) (T.obj _ _ p)
  refine wpAny_passesOwn y (thn (hg _ s5 σ3 O x u _ F r5 (step x O U)) fun _ R ⟨σ6,H6,I6,Y⟩=>?_)
  refine wpAny_passesOwn y (thn (a _ R σ6 H6 _ I6 Y) fun f C l=>?_)
  have again:∀ {σ7:St} {k:Hp},Inv X (pins ++ me fp s5.heap) σ7 k C->N σ7 k->∃ m,m < n/\∃ i σ' H',Inv X pins σ' H' C/\M i C.heap/\(∀ b ∈ fp,H' b=none)/\W i m σ' H':=fun {σ7 k} j q=>by
   obtain ⟨m',hm,w7⟩:=Z σ7 k q
   refine ⟨m',hm,i+1,σ7,k,j.unpinned,T.keep _ _ _ p fun b a o e=>(j.pin (b,o) (Gg _ (Gg _ (fR a e)))).1,fun b a=>?_,w7⟩
   obtain ⟨o,e,d⟩:=T.obj _ _ p b a
   exact (j.pin (b,o) (Gg _ (Gg _ (fR a e)))).2.1
  cases f with
  | next=>obtain ⟨σ7,k,j,q⟩:=l;exact again j q
  | cont=>obtain ⟨σ7,k,j,q⟩:=l;exact again j q
  | brk=>obtain ⟨σ7,k,j,l⟩:=l;exact ⟨σ7,k,j.unpinned,l⟩
  | ret v=>obtain ⟨x7,σ7,k,j,Q,l⟩:=l;exact ⟨x7,σ7,k,j.unpinned,Q,l⟩
end
end L2
namespace L2
open PySem PySem.Spec PyProof.Rows
abbrev R2:=V->V->Hp->VK->Prop
def OpR (X:Cx) (f:Value->Value->Sem Value) (r:R2):Prop :=
 ∀ (pins:List (Addr × Obj)) (s:Shared) (σ:St) (H:Hp) (x y:V) (v u:Value) (Q:VK),Inv X pins σ H s->RelV x v->RelV y u->r x y H Q ->
  wpAny (model X.prog X.w) X.A (f v u) (EP X pins σ Q) X.xe s
def UnR (X:Cx) (f:Value->Sem Value) (r:V->Hp->VK->Prop):Prop :=
 ∀ (pins:List (Addr × Obj)) (s:Shared) (σ:St) (H:Hp) (x:V) (v:Value) (Q:VK),Inv X pins σ H s->RelV x v->r x H Q ->
  wpAny (model X.prog X.w) X.A (f v) (EP X pins σ Q) X.xe s
def CallR (X:Cx) (f:Value) (r:List V->Hp->VK->Prop):Prop :=
 ∀ (pins:List (Addr × Obj)) (s:Shared) (σ:St) (H:Hp) (xs:List V) (us:List Value) (Q:VK),Inv X pins σ H s->Vals xs us->r xs H Q ->
  wpAny (model X.prog X.w) X.A (call f us) (EP X pins σ Q) X.xe s
def tOp (r:R2) (ta tb:TE):TE:=fun σ H Q=>ta σ H fun x H1=>tb σ H1 fun y H2=>r x y H2 Q
def tUn (r:V->Hp->VK->Prop) (ta:TE):TE:=fun σ H Q=>ta σ H fun x H1=>r x H1 Q
def rI (C:Int->Int->Prop) (g:Int->Int->V):R2:=fun x y H Q=>∃ i j,x=.int i/\y=.int j/\C i j/\Q (g i j) H
def rI0 (g:Int->Int->V):R2:=fun x y H Q=>∃ i j,x=.int i/\y=.int j/\Q (g i j) H
def rU (g:Int->V):V->Hp->VK->Prop:=fun x H Q=>∃ i,x=.int i/\Q (g i) H
section
variable {X:Cx} {a b c:Expr} {ta tb tc:TE} {pos:Pos}
theorem FT (e:PE X a ta) (l:PE X b tb) {R:V->V->Hp->Prop} (I:Inv X pins σ H s) (h:ta σ H fun x H1=>tb σ H1 fun y H2=>R x y H2) {f:Value->Value->Sem Value} (hf:∀ v u s2 x y H2,Inv X pins σ H2 s2->RelV x v->RelV y u->R x y H2->wpAny (model X.prog X.w) X.A (f v u) Q X.xe s2) :
  wpAny (model X.prog X.w) X.A (eval a X.env) (fun v d=>wpAny (model X.prog X.w) X.A (eval b X.env) (fun u g=>wpAny (model X.prog X.w) X.A (f v u) Q X.xe g) X.xe d) X.xe s:=by
 refine thn (e pins s σ H _ I h) fun v s1 ⟨x,H1,c,n,j⟩=>?_
 refine thn (l pins s1 σ H1 _ c j) fun u s2 ⟨y,H2,i,m,k⟩=>?_
 exact hf v u s2 x y H2 i n m k
theorem pe_op (i:OpR X (binaryOp op) r) (c:PE X a ta) (g:PE X b tb):PE X (.BinOp a op b pos) (tOp r ta tb):=by
 intro pins s σ H Q I h
 exact wpAny_BinOp (FT c g I h fun v u s2 x y H2 e f d q=>i pins s2 σ H2 x y v u Q e f d q)
theorem pe_un (d:UnR X (unaryOp op) r) (c:PE X a ta):PE X (.UnaryOp op a pos) (tUn r ta):=by
 intro pins s σ H Q I h
 exact UnaryOp_ (thn (c pins s σ H _ I h) fun v s1 ⟨x,H1,b,e,f⟩=>d pins s1 σ H1 x v Q b e f)
theorem opI {g:Int->Int->Int} (rule:∀ (i j:Int) (t u:Tok) (s:Shared) (Q:Value->Shared->Prop) (E:Value->Shared->Prop),C i j->Q (.int (g i j) s.toks) { s with toks:=s.toks+1 }->wpAny (model X.prog X.w) X.A (f (.int i t) (.int j u)) Q E s) :
  OpR X f (rI C fun i j=>.int (g i j)):=by
 intro pins s σ H x y v u Q I b a h
 obtain ⟨i,j,rfl,rfl,c,q⟩:=h
 obtain ⟨t,rfl⟩:=b
 obtain ⟨t',rfl⟩:=a
 exact rule i j t t' s _ _ c ⟨.int (g i j),H,I.tok _,⟨_,rfl⟩,q⟩
theorem opI0 {g:Int->Int->Int} (rule:∀ (i j:Int) (t u:Tok) (s:Shared) (Q:Value->Shared->Prop) (E:Value->Shared->Prop),Q (.int (g i j) s.toks) { s with toks:=s.toks+1 }->wpAny (model X.prog X.w) X.A (f (.int i t) (.int j u)) Q E s) :
  OpR X f (rI0 fun i j=>.int (g i j)):=by
 intro pins s σ H x y v u Q I b a h
 obtain ⟨i,j,rfl,rfl,q⟩:=h
 obtain ⟨t,rfl⟩:=b
 obtain ⟨t',rfl⟩:=a
 exact rule i j t t' s _ _ ⟨.int (g i j),H,I.tok _,⟨_,rfl⟩,q⟩
theorem Cc {g:Int->Int->Bool} (rule:∀ (i j:Int) (t u:Tok) (s:Shared) (Q:Value->Shared->Prop) (E:Value->Shared->Prop),Q (.bool (g i j)) s->wpAny (model X.prog X.w) X.A (f (.int i t) (.int j u)) Q E s) :
  OpR X f (rI0 fun i j=>.bl (g i j)):=by
 intro pins s σ H x y v u Q I b a h
 obtain ⟨i,j,rfl,rfl,q⟩:=h
 obtain ⟨t,rfl⟩:=b
 obtain ⟨t',rfl⟩:=a
 exact rule i j t t' s _ _ ⟨.bl (g i j),H,I,rfl,q⟩
def xT (i j:Int):Prop:=0 < j/\j < 1073741824
def AZ (i j:Int):Prop:=0<=j/\j<=1000000/\i.natAbs < 2 ^ 64
def CMul (i j:Int):Prop:=(-(2 ^ 64) < i/\i < 2 ^ 64)\/(-(2 ^ 64) < j/\j < 2 ^ 64)
theorem CMul.ok {i j:Int} (h:CMul i j):IntMulOk i j:=by
 rcases h with ⟨h1,h2⟩ | ⟨h1,h2⟩
 ·exact .of_left (intBits_le_64 h1 h2)
 ·exact .of_right (intBits_le_64 h1 h2)
theorem op_add:OpR X (binaryOp .Add) (rI0 fun i j=>.int (i+j)):=opI0 fun _ _ _ _ _ _ _ q=>add_int q
theorem EZ:OpR X (binaryOp .Sub) (rI0 fun i j=>.int (i - j)):=opI0 fun _ _ _ _ _ _ _ q=>sub_int q
theorem E4:OpR X (binaryOp .Mult) (rI CMul fun i j=>.int (i * j)):=opI fun _ _ _ _ _ _ _ a q=>mul_int q a.ok
theorem E5:OpR X (binaryOp .Mod) (rI (fun _ j=>0 < j) fun i j=>.int (i % j)):=opI fun i j _ _ _ _ _ a q=>by
 have h1:(0:Int) < j:=a
 exact mod_int' (by omega) (by rw [Int.fmod_eq_emod_of_nonneg i (by omega)];exact q)
theorem E2:OpR X (binaryOp .Pow) (rI AZ fun i j=>.int (i ^ j.toNat)):=opI fun _ _ _ _ _ _ _ a q=>pow_int_small a.1 a.2.1 a.2.2 q
theorem unI {g:Int->Int} (rule:∀ (i:Int) (t:Tok) (s:Shared) (Q:Value->Shared->Prop) (E:Value->Shared->Prop),Q (.int (g i) s.toks) { s with toks:=s.toks+1 }->wpAny (model X.prog X.w) X.A (f (.int i t)) Q E s) :
  UnR X f (rU fun i=>.int (g i)):=by
 intro pins s σ H x v Q I a h
 obtain ⟨i,rfl,q⟩:=h
 obtain ⟨t,rfl⟩:=a
 exact rule i t s _ _ ⟨.int (g i),H,I.tok _,⟨_,rfl⟩,q⟩
theorem DC:UnR X (unaryOp .USub) (rU fun i=>.int (-i)):=unI fun _ _ _ _ _ q=>neg_int q
end
def Ec:V->V->Bool
 | .non,.non=>true | .non,.int _=>true | .int _,.non=>true | .non,.bl _=>true | .bl _,.non=>true | .non,.str _=>true | .str _,.non=>true
 | .int _,.int _=>true | .bl _,.bl _=>true | .str _,.str _=>true | .byt _,.byt _=>true
 | .int _,.str _=>true | .str _,.int _=>true | .bl _,.str _=>true | .str _,.bl _=>true
 | _,_=>false
def rEq:R2:=fun x y H Q=>Ec x y=true/\Q (.bl (decide (x=y))) H
def rNe:R2:=fun x y H Q=>Ec x y=true/\Q (.bl (!decide (x=y))) H
theorem vS {i j:Int}:decide (V.int i=V.int j)=(i == j):=by
 rw [Bool.eq_iff_iff]
 simp
theorem Ay:decide (V.bl i=V.bl j)=(i == j):=by
 rw [Bool.eq_iff_iff]
 simp
theorem vR:decide (V.str i=V.str j)=(i == j):=by
 rw [Bool.eq_iff_iff]
 simp
theorem vT:decide (V.byt i=V.byt j)=(i.toList == j.toList):=by
 rw [Bool.eq_iff_iff]
 cases i
 cases j
 simp
section
variable {X:Cx} {a b c:Expr} {ta tb tc:TE} {pos:Pos}
theorem aV (I:Inv X pins σ H s) (q:Q (.bl k) H) (e:k=k'):EP X pins σ Q (.bool k') s:=by
 subst e
 exact ⟨.bl k,H,I,rfl,q⟩
theorem op_eq:OpR X (compareOp .Eq) rEq:=by
 intro pins s σ H x y v u Q I c a h
 obtain ⟨b,q⟩:=h
 cases x with
 | non =>
  cases c
  cases y with
  | non=>cases a;exact PySem.EqNone.eq_none_none (aV I q (by simp))
  | bl j=>cases a;exact PySem.EqNone.eq_none_bool (aV I q (by simp))
  | int j=>obtain ⟨t',rfl⟩:=a;exact PySem.EqNone.eq_none_int (aV I q (by simp))
  | str j=>obtain ⟨t',rfl⟩:=a;exact PySem.EqNone.eq_none_str (aV I q (by simp))
  | _=>exact absurd (show false=true from b) Gw
 | bl i =>
  cases c
  cases y with
  | non=>cases a;exact PySem.EqNone.eq_bool_none (aV I q (by simp))
  | bl j=>cases a;exact eq_bool (aV I q Ay)
  | str j=>obtain ⟨t',rfl⟩:=a;exact PySem.EqMixed.eq_bool_str (aV I q (by simp))
  | _=>exact absurd (show false=true from b) Gw
 | int i =>
  obtain ⟨t,rfl⟩:=c
  cases y with
  | non=>cases a;exact PySem.EqNone.eq_int_none (aV I q (by simp))
  | int j=>obtain ⟨t',rfl⟩:=a;exact eq_int (aV I q vS)
  | str j=>obtain ⟨t',rfl⟩:=a;exact PySem.EqMixed.eq_int_str (aV I q (by simp))
  | _=>exact absurd (show false=true from b) Gw
 | str i =>
  obtain ⟨t,rfl⟩:=c
  cases y with
  | non=>cases a;exact PySem.EqNone.eq_str_none (aV I q (by simp))
  | bl j=>cases a;exact PySem.EqMixed.eq_str_bool (aV I q (by simp))
  | int j=>obtain ⟨t',rfl⟩:=a;exact PySem.EqMixed.eq_str_int (aV I q (by simp))
  | str j=>obtain ⟨t',rfl⟩:=a;exact eq_str (aV I q vR)
  | _=>exact absurd (show false=true from b) Gw
 | byt i =>
  obtain ⟨t,rfl⟩:=c
  cases y with
  | byt j=>obtain ⟨t',rfl⟩:=a;exact PySem.W.eq_bytes (aV I q vT)
  | _=>exact absurd (show false=true from b) Gw
 | _=>cases y <;> exact absurd (show false=true from b) Gw
theorem op_ne:OpR X (compareOp .NotEq) rNe:=by
 intro pins s σ H x y v u Q I c a h
 obtain ⟨b,q⟩:=h
 cases x with
 | non =>
  cases c
  cases y with
  | non=>cases a;exact PySem.EqNone.ne_none_none (aV I q (by simp))
  | bl j=>cases a;exact PySem.EqNone.ne_none_bool (aV I q (by simp))
  | int j=>obtain ⟨t',rfl⟩:=a;exact PySem.EqNone.ne_none_int (aV I q (by simp))
  | str j=>obtain ⟨t',rfl⟩:=a;exact PySem.EqNone.ne_none_str (aV I q (by simp))
  | _=>exact absurd (show false=true from b) Gw
 | bl i =>
  cases c
  cases y with
  | non=>cases a;exact PySem.EqNone.ne_bool_none (aV I q (by simp))
  | bl j=>cases a;exact ne_bool (aV I q (congrArg not Ay))
  | str j=>obtain ⟨t',rfl⟩:=a;exact PySem.EqMixed.ne_bool_str (aV I q (by simp))
  | _=>exact absurd (show false=true from b) Gw
 | int i =>
  obtain ⟨t,rfl⟩:=c
  cases y with
  | non=>cases a;exact PySem.EqNone.ne_int_none (aV I q (by simp))
  | int j=>obtain ⟨t',rfl⟩:=a;exact ne_int (aV I q (congrArg not vS))
  | str j=>obtain ⟨t',rfl⟩:=a;exact PySem.EqMixed.ne_int_str (aV I q (by simp))
  | _=>exact absurd (show false=true from b) Gw
 | str i =>
  obtain ⟨t,rfl⟩:=c
  cases y with
  | non=>cases a;exact PySem.EqNone.ne_str_none (aV I q (by simp))
  | bl j=>cases a;exact PySem.EqMixed.ne_str_bool (aV I q (by simp))
  | int j=>obtain ⟨t',rfl⟩:=a;exact PySem.EqMixed.ne_str_int (aV I q (by simp))
  | str j=>obtain ⟨t',rfl⟩:=a;exact ne_str (aV I q (congrArg not vR))
  | _=>exact absurd (show false=true from b) Gw
 | byt i =>
  obtain ⟨t,rfl⟩:=c
  cases y with
  | byt j=>obtain ⟨t',rfl⟩:=a;exact PySem.W.ne_bytes (aV I q (congrArg not vT))
  | _=>exact absurd (show false=true from b) Gw
 | _=>cases y <;> exact absurd (show false=true from b) Gw
theorem vw:OpR X (compareOp .Lt) (rI0 fun i j=>.bl (decide (i < j))):=Cc fun _ _ _ _ _ _ _ q=>lt_int q
theorem oB:OpR X (compareOp .LtE) (rI0 fun i j=>.bl (decide (i<=j))):=Cc fun _ _ _ _ _ _ _ q=>le_int q
theorem Dj:OpR X (compareOp .Gt) (rI0 fun i j=>.bl (decide (j < i))):=Cc fun _ _ _ _ _ _ _ q=>gt_int q
theorem op_ge:OpR X (compareOp .GtE) (rI0 fun i j=>.bl (decide (j<=i))):=Cc fun _ _ _ _ _ _ _ q=>ge_int q
theorem E6 : OpR X (compareOp .Is) (fun x y H Q => y = .non /\ Q (.bl (decide (x = .non))) H) := by
  intro pins s σ H x y v u Q I a b h
  obtain ⟨rfl, q⟩ := h
  cases b
  refine is_none_gen (aV I q ?_)
  cases x <;> first
    | (cases a; rfl)
    | (obtain ⟨t, rfl⟩ := a; rfl)
theorem OpR.or (h:OpR X f r) (h':OpR X f r'):OpR X f (fun x y H Q=>r x y H Q\/r' x y H Q):=by
 intro pins s σ H x y v u Q I b a q
 rcases q with q | q
 ·exact h pins s σ H x y v u Q I b a q
 ·exact h' pins s σ H x y v u Q I b a q
theorem fQ (b : Expr) (h : op ≠ .In := by decide) (h2 : op ≠ .NotIn := by decide) : behindInMarks op b = false := by
  have e1 : (op == CmpOp.In) = false := by cases op <;> first | rfl | exact absurd rfl h
  have a : (op == CmpOp.NotIn) = false := by cases op <;> first | rfl | exact absurd rfl h2
  cases b <;> simp [behindInMarks, e1, a]
theorem B7 (i:OpR X (compareOp op) r) (c:PE X a ta) (g:PE X b tb) (hm:behindInMarks op b=false):PE X (.Compare a [op] [b] pos) (tOp r ta tb):=by
 intro pins s σ H Q I h
 exact wpAny_Compare1 (FT c g I h fun v u s2 x y H2 e f d q=>i pins s2 σ H2 x y v u Q e f d q) hm
def tTest (t:TE):TT:=fun σ H Q=>t σ H fun x H'=>∃ k,x=.bl k/\Q k H'
theorem BV (q:OpR X (compareOp op) r) (g:PE X a ta) (p:PE X b tb) (hm:behindInMarks op b=false):PT X (.Compare a [op] [b] pos) (tTest (tOp r ta tb)):=by
 intro pins s σ H Q I h
 refine wpAny_isTrue_Compare1 (thn (g pins s σ H _ I h) fun v s1 ⟨x,H1,f,w,m⟩=>thn (p pins s1 σ H1 _ f m) fun u s2 ⟨y,H2,l,t,n⟩ =>
  thn (q pins s2 σ H2 x y v u _ l w t n) fun c s3 ⟨z,j,d,o,k,e,i⟩=>?_) hm
 subst e
 cases o
 exact GP ⟨j,d,i⟩
def td (r b:R2) (ta tb tc:TE):TE:=fun σ H Q=>ta σ H fun x H1=>tb σ H1 fun y H2=>r x y H2 fun z a=>∃ k,z=.bl k /\
 (if k=true then tc σ a fun c d=>b y c d Q else Q (.bl false) a)
theorem q8 (G:OpR X (compareOp op) r) (f:OpR X (compareOp op') r') (A:PE X a ta) (F:PE X b tb) (J:PE X c tc) (hm:lastMarks [op,op'] [b,c]=false:=by with_unfolding_all rfl):PE X (.Compare a [op,op'] [b,c] pos) (td r r' ta tb tc):=by
 intro pins s σ H Q I h
 refine Compare_chain (thn (A pins s σ H _ I h) fun v s1 ⟨x,H1,m,w,p⟩=>chain_link (thn (F pins s1 σ H1 _ m p) fun u s2 ⟨y,H2,o,j,C⟩ =>
  thn (G pins s2 σ H2 x y v u _ o w j C) fun d s3 ⟨z,i,l,E,k,e,g⟩=>?_)) hm
 subst e
 cases E
 refine GP ?_
 cases k with
 | false=>exact ite_ff ⟨.bl false,i,l,rfl,g⟩
 | true=>exact ite_tt (chain_last (thn (J pins s3 σ i _ l g) fun D s4 ⟨n,B,t,q,K⟩=>f pins s4 σ B y n u D Q t j q K))
theorem pO:(sizeLine:Nat) < 2 ^ 63:=by rw [sizeLine_eq];decide
theorem op_add_str:OpR X (binaryOp .Add) (fun x y H Q=>∃ i j,x=.str i/\y=.str j/\i.length+j.length<=sizeLine/\Q (.str (i ++ j)) H):=by
 intro pins s σ H x y v u Q I b a h
 obtain ⟨i,j,rfl,rfl,hz,q⟩:=h
 obtain ⟨t,rfl⟩:=b
 obtain ⟨t',rfl⟩:=a
 exact add_str (fun t' tk=>⟨.str (i ++ j),H,I.tok _,⟨_,rfl⟩,q⟩) hz
theorem eY (r:Vals [x] us):∃ u,us=[u]/\RelV x u:=by
 cases r with
 | cons r1 r2=>cases r2;exact ⟨_,rfl,r1⟩
theorem lK (r:Vals [x,y] us):∃ u a,us=[u,a]/\RelV x u/\RelV y a:=by
 cases r with
 | cons r1 r2 =>
  cases r2 with
  | cons r3 r4=>cases r4;exact ⟨_,_,rfl,r1,r3⟩
theorem AH:CallR X (.builtin "abs") (fun xs H Q=>∃ i,xs=[.int i]/\Q (.int (if i < 0 then -i else i)) H):=by
 intro pins s σ H xs us Q I r h
 obtain ⟨i,rfl,q⟩:=h
 obtain ⟨u,rfl,t,rfl⟩:=eY r
 exact call_abs_int fun u tk=>⟨.int (if i < 0 then -i else i),H,I.tok _,⟨_,rfl⟩,q⟩
theorem xK (b:X.calm=true):CallR X (.builtin "max") (fun xs H Q=>∃ i j,xs=[.int i,.int j]/\Q (.int (if j > i then j else i)) H):=by
 intro pins s σ H xs us Q I r h
 obtain ⟨i,j,rfl,q⟩:=h
 obtain ⟨u,c,rfl,⟨t,rfl⟩,⟨t',rfl⟩⟩:=lK r
 refine max_two_ints (I.ok.hd b) fun h' tk k=>⟨_,H,I.kept k,?_,q⟩
 by_cases a:j > i
 ·rw [if_pos a,if_pos a];exact ⟨_,rfl⟩
 ·rw [if_neg a,if_neg a];exact ⟨_,rfl⟩
theorem xJ (b:X.calm=true):CallR X (.builtin "min") (fun xs H Q=>∃ i j,xs=[.int i,.int j]/\Q (.int (if j < i then j else i)) H):=by
 intro pins s σ H xs us Q I r h
 obtain ⟨i,j,rfl,q⟩:=h
 obtain ⟨u,c,rfl,⟨t,rfl⟩,⟨t',rfl⟩⟩:=lK r
 refine min_two_ints (I.ok.hd b) fun h' tk k=>⟨_,H,I.kept k,?_,q⟩
 by_cases a:j < i
 ·rw [if_pos a,if_pos a];exact ⟨_,rfl⟩
 ·rw [if_neg a,if_neg a];exact ⟨_,rfl⟩
theorem sF:CallR X (.builtin "divmod") (fun xs H Q=>∃ i j,xs=[.int i,.int j]/\xT i j/\∀ p,H p=none->Q (.ref p) (upd H p (.tup [.int (i / j),.int (i % j)]))):=by
 intro pins s σ H xs us Q I r h
 obtain ⟨i,j,rfl,⟨h1,h2⟩,q⟩:=h
 obtain ⟨u,c,rfl,⟨t,rfl⟩,⟨t',rfl⟩⟩:=lK r
 refine divmod_int (by omega) ?_ (.inl (PyProof.noPylong_small (by omega)))
 rw [Int.fdiv_eq_ediv_of_nonneg i (by omega),Int.fmod_eq_emod_of_nonneg i (by omega)]
 have a:H s.heap.objs.size=none:=I.hok.fresh (Gv _)
 refine ⟨.ref s.heap.objs.size,_,?_,rfl,q _ a⟩
 refine I.laid (fun b o e=>Gd _ e) (Gv _) ⟨by simp only [GG,List.length_nil];rw [sizeLine_eq];decide,[.int (i / j) s.toks,.int (i % j) (s.toks+1)],.cons ⟨_,rfl⟩ (.cons ⟨_,rfl⟩ .nil),?_⟩
 exact ⟨_,Gn s.heap rfl,rfl,0,rfl⟩
end
end L2
namespace L2
open PySem PySem.Spec PyProof.Rows
theorem RelO.some_of (r:RelO (some v) o):∃ u,o=some u/\RelV v u:=by
 cases o with
 | none=>exact (show False from r).elim
 | some u=>exact ⟨u,rfl,r⟩
end L2
namespace L2
open PySem PySem.Spec PyProof.Rows
structure Room (k:Nat) (A:Around):Prop where
 hd:A.handled=none
 dp:A.depth+3 * k+5 < recursionLimit
 un:A.units+16 * k+200 < cLine
 gd:A.guards=some []
theorem Room.mono {j k:Nat} (r:Room k A) (h:j<=k):Room j A:=⟨r.hd,by have:=r.dp;omega,by have:=r.un;omega,r.gd⟩
theorem Room.deeper {k:Nat} (r:Room (k+1) A) (env:Env):Room k (A.deeper env) :=
 ⟨r.hd,by have:=r.dp;show A.depth+1+3 * k+5 < _;omega,by have:=r.un;show A.units+3+16 * k+200 < _;omega,r.gd⟩
theorem Room.depth {k:Nat} (r:Room k A):A.depth < recursionLimit:=by have:=r.dp;omega
theorem Room.units {k:Nat} (r:Room k A):A.units+64 < cLine:=by have:=r.un;omega
def tNil:TA:=fun _ H Q=>Q [] H
def C9 (ta:TE) (a:TA):TA:=fun σ H Q=>ta σ H fun x H1=>a σ H1 fun xs H2=>Q (x :: xs) H2
section
variable {X:Cx} {e:Expr} {es:List Expr} {te:TE} {t:TA} {pos:Pos}
theorem mj:PA X [] tNil:=fun _ _ _ _ H Q I h=>Calls.spliced_nil ⟨[],H,I,.nil,h⟩
theorem fP (b:PE X e te) (f:PA X es t) (k:starEach (e :: es) X.env=(false,eval e X.env) :: starEach es X.env:=by rfl):PA X (e :: es) (C9 te t):=by
 intro pos pins s σ H Q I h
 rw [k]
 show wpAny _ _ (spliced ((false,eval e X.env) :: backTo pos (starEach es X.env))) _ _ s
 refine Calls.spliced_cons (thn (b pins s σ H _ I h) fun u s1 ⟨x,H1,a,j,d⟩=>?_)
 exact thn (f pos pins s1 σ H1 _ a d) fun us s2 ⟨xs,H2,c,i,g⟩=>⟨x :: xs,H2,c,.cons j i,g⟩
def tTup (t:TA):TE:=fun σ H Q=>t σ H fun xs H1=>xs.length<=sizeLine/\∀ p,H1 p=none->Q (.ref p) (upd H1 p (.tup xs))
def tLst (t:TA):TE:=fun σ H Q=>t σ H fun xs H1=>xs.length<=sizeLine/\∀ p,H1 p=none->Q (.ref p) (upd H1 p (.lst xs))
theorem zu (h:PA X es t):PE X (.Tuple es x1 pos) (tTup t):=by
 intro pins s σ H Q I c
 refine wpAny_Tuple_spliced (thn (h pos pins s σ H _ I c) fun us s1 ⟨xs,H1,a,r,z,q⟩=>⟨by rw [<- r.length];exact z,?_⟩)
 have hf:H1 s1.heap.objs.size=none:=a.hok.fresh (Gv _)
 refine ⟨.ref s1.heap.objs.size,upd H1 s1.heap.objs.size (.tup xs),a.laid (t':=s1.toks) (fun b u e=>Gd _ e) (Gv _) ?_,rfl,q _ hf⟩
 exact ⟨z,us,r,⟨_,Gn _ rfl,rfl,_,rfl⟩⟩
theorem ES (h:PA X es t):PE X (.List es pos) (tLst t):=by
 intro pins s σ H Q I c
 refine wpAny_List_spliced (thn (h pos pins s σ H _ I c) fun us s1 ⟨xs,H1,a,r,z,q⟩=>⟨by rw [<- r.length];exact z,?_⟩)
 have hf:H1 s1.heap.objs.size=none:=a.hok.fresh (Gv _)
 refine ⟨.ref s1.heap.objs.size,upd H1 s1.heap.objs.size (.lst xs),a.laid (t':=s1.toks) (fun b u e=>Gd _ e) (Gv _) ?_,rfl,q _ hf⟩
 exact ⟨z,us,0,r,Gn _ rfl⟩
end
abbrev Sp:=List V->Hp->VK->XK->Prop
abbrev CXT:=List Env->Hp->Shared->XK->Value->Shared->Prop
structure Env0 (P:Program) (w:World) (K:FG) (mg:Str->Option Value) (base:Heap) (A:Around) (outer:List Env) (s:Shared) (H:Hp):Prop where
 frames:A.frames=some outer
 mod:Mod K mg base
 bs:∀ b o,base.get? b=some o->s.heap.get? b=some o/\H b=none
 bsz:base.objs.size<=s.heap.objs.size
 funs:s.heap.FunFrames base outer
 frf:∀ b ∈ frs outer,H b=none
 hok:HOk P w H s.heap
 bare:AllBare s.gens
def CE (outer:List Env) (P:Program) (w:World) (H:Hp) (s:Shared) (Q:VK) (u:Value) (s':Shared):Prop :=
 ∃ v H',s'.os=s.os/\AllBare s'.gens/\Un (frs outer) [] H H' s.heap s'.heap/\HOk P w H' s'.heap/\RelV v u/\Q v H'
def CR (CX:CXT) (outer:List Env) (P:Program) (w:World) (H:Hp) (s:Shared) (Q:VK) (E:XK) (r:Result) (s':Shared):Prop :=
 match r with
 | .ok (.ret u)=>CE outer P w H s Q u s'
 | .ok _=>False
 | .error e=>CX outer H s E e s'
structure FnOk (P:Program) (w:World) (K:FG) (mg:Str->Option Value) (base:Heap) (CX:CXT) (k:Nat) (f:Addr) (fd:FuncData) (ps:List Str) (sp:Sp):Prop where
 len:∀ vs H Q E,sp vs H Q E->vs.length=ps.length
 run:∀ (A:Around) (outer:List Env) (s:Shared) (H:Hp) (args:Args) (us:List Value) (vs:List V) (Q:VK) (E:XK),Room k A->Env0 P w K mg base A outer s H->BindsTo s fd args (ps.zip us)->Vals vs us->sp vs H Q E ->
  codeAny (model P w) A (.call (.ref f) args) (CR CX outer P w H s Q E) s
theorem FnOk.imp {K:FG} {k:Nat} (F:FnOk P w K mg base CX k f fd ps sp) (h:∀ a H Q E,sp' a H Q E->sp a H Q E):FnOk P w K mg base CX k f fd ps sp' :=
 ⟨fun a H Q E q=>F.len a H Q E (h _ _ _ _ q),fun A outer s H args us a Q E b he d c e=>F.run A outer s H args us a Q E b he d c (h _ _ _ _ e)⟩
section
variable {X:Cx} {pins:List (Addr × Obj)} {σ:St} {H:Hp} {s s':Shared}
theorem Inv.env0 (I:Inv X pins σ H s):Env0 X.prog X.w X.K X.mg X.base X.A X.stack s H :=
 ⟨I.ok.frames,I.ok.mod,I.bs,GQ I.ok.bsz I.sz,I.stack,I.stkFree,I.hok,I.bare⟩
theorem Inv.after (I:Inv X pins σ H s) (h:CE X.stack X.prog X.w H s Q u s'):EP X pins σ Q u s':=by
 obtain ⟨v,H',os,bare,un,hok,r,q⟩:=h
 obtain ⟨c,g,d,t,a⟩:=s'
 obtain rfl:a=s.os:=os
 exact ⟨v,H',I.call (h':=c) (g':=g) (d':=d) (t':=t) (ch:=[]) un hok bare (fun b z=>absurd z (by simp)),r,q⟩
end
def tCall (sp:Sp) (dvs:List V) (E:XK) (t:TA):TE:=fun σ H Q=>t σ H fun a H1=>sp (a ++ dvs) H1 Q E
def Binds (K:FG) (fd:FuncData) (ps:List Str) (ds:List Value):Prop :=
 ∀ (s:Shared) (us:List Value),K.In s.heap->(us ++ ds).length=ps.length->BindsTo s fd ⟨us,[]⟩ (ps.zip (us ++ ds))
theorem Binds.all {K:FG} (h:∀ us:List Value,us.length=ps.length->bindArgs fd ⟨us,[]⟩=pure (ps.zip us)):Binds K fd ps []:=fun s us _ a=>by
 rw [List.append_nil] at a ⊢
 exact .of_eq (h us a)
def uN (CX:CXT) (X:Cx) (E:XK):Prop:=∀ (pins:List (Addr × Obj)) (σ:St) (H:Hp) (s:Shared) (e:Value) (s':Shared),Inv X pins σ H s->CX X.stack H s E e s'->X.xe e s'
section
variable {X:Cx} {CX:CXT} {k:Nat} {f C:Addr} {fd:FuncData} {ps:List Str} {sp:Sp} {dvs:List V} {ds:List Value} {E:XK} {x m:Str} {p pos apos:Pos} {e o:Expr} {es:List Expr} {ta:TE} {t:TA}
theorem Eg (F:FnOk X.prog X.w X.K X.mg X.base CX k f fd ps sp) (i:Room k X.A) (c:Binds X.K fd ps ds) (hd:Vals dvs ds) (g:uN CX X E) (I:Inv X pins σ H s) (r:Vals vs us) (h:sp (vs ++ dvs) H Q E):wpAny (model X.prog X.w) X.A (call (.ref f) us) (EP X pins σ Q) X.xe s:=by
 have b:Vals (vs ++ dvs) (us ++ ds):=r.append hd
 have d:(us ++ ds).length=ps.length:=by rw [<- b.length];exact F.len _ _ _ _ h
 refine wpAny_call (codeAny_mono (F.run X.A X.stack s H ⟨us,[]⟩ (us ++ ds) (vs ++ dvs) Q E i I.env0 (c s us I.kIn d) b h) fun r s' a=>?_)
 cases r with
 | error e=>exact g pins σ H s e s' I a
 | ok fl =>
  cases fl with
  | ret u=>exact I.after a
  | next=>exact False.elim a
  | brk=>exact False.elim a
  | cont=>exact False.elim a
theorem B8 (F:FnOk X.prog X.w X.K X.mg X.base CX k f fd ps sp) (j:Room k X.A) (g:Gl X x) (hm:X.mg x=some (.ref f)) (m:PySem.W.keepIn X.K (.ref f)=true) (l:Binds X.K fd ps ds) (hd:Vals dvs ds) (i:uN CX X E)
  (d:PA X (e :: es) t) (a:(x == ("__debug__":Str))=false:=by decide) (he:starEach (e :: es) X.env=(false,eval e X.env) :: starEach es X.env:=by rfl) (b:(backTo pos (starEach es X.env)).any (·.1)=false:=by rfl) :
  PE X (.Call (.Name x p) (e :: es) [] pos) (tCall sp dvs E t):=by
 intro pins s σ H Q I h
 refine wpAny_Call_Name_kw (iY I g hm ?_ a)
 refine PySem.W.callWith_K (h₀:=X.base) I.ok.mod.kin m (thn (d pos pins s σ H _ I h) fun us s1 ⟨n,H1,c,r,q⟩=>⟨c.kIn,?_⟩) he b
 exact Eg F j l hd i c r q
end
structure FnScope (N P:List Str) (sc:Scope):Prop where
 kind:sc.kind=.function
 co:sc.isCoroutine=false
 gen:sc.isGenerator=false
 nd:N.Nodup
 pre:N.take P.length=P
 par:∀ x ∈ P,sc.names.lookup x=some .local\/sc.names.lookup x=some .cell
 nofree:∀ y ∈ sc.names,y.2 ≠ .free
theorem oZ {kindOf:Str->Option NameKind}:∀ {binds:List (Str × Value)} {m:Str->Option Value},(∀ v,(x,v) ∉ binds)->bindL kindOf binds m x=m x
 | [],_,_=>rfl
 | (n,v) :: r,m,h=>by
  unfold bindL
  rw [oZ fun w hw=>h w (Gb _ hw)]
  split
  ·have:x ≠ n:=by rintro rfl;exact h v Ga
   simp [this]
  ·rfl
theorem o4 {kindOf:Str->Option NameKind}:∀ {binds:List (Str × Value)} {m:Str->Option Value},(∀ v,(x,v) ∉ binds)->bindC kindOf binds m x=m x
 | [],_,_=>rfl
 | (n,v) :: r,m,h=>by
  unfold bindC
  rw [o4 fun w hw=>h w (Gb _ hw)]
  split
  ·rfl
  ·have:x ≠ n:=by rintro rfl;exact h v Ga
   simp [this]
theorem o3 {kindOf:Str->Option NameKind}:∀ {P:List Str} {a:List Value} {i:Nat} {m:Str->Option Value},P.Nodup->P[i]?=some x->a[i]?=some v->kindOf x=some .local ->
  bindL kindOf (P.zip a) m x=some v
 | [],_,_,_,_,h,_,_=>by simp at h
 | _ :: _,[],_,_,_,_,h,_=>by simp at h
 | p :: P,w :: a,0,m,nd,h1,h2,hk=>by
  simp at h1 h2;subst h1;subst h2
  show bindL kindOf ((p,w) :: P.zip a) m p=_
  unfold bindL
  rw [oZ fun v b=>(List.nodup_cons.mp nd).1 (List.of_mem_zip b).1,if_pos hk]
  simp
 | p :: P,w :: a,i+1,m,nd,h1,h2,hk=>by
  show bindL kindOf ((p,w) :: P.zip a) m x=_
  unfold bindL
  exact o3 (i:=i) (List.nodup_cons.mp nd).2 (by simpa using h1) (by simpa using h2) hk
theorem o5 {kindOf:Str->Option NameKind}:∀ {P:List Str} {a:List Value} {i:Nat} {m:Str->Option Value},P.Nodup->P[i]?=some x->a[i]?=some v->kindOf x ≠ some .local ->
  bindC kindOf (P.zip a) m x=some v
 | [],_,_,_,_,h,_,_=>by simp at h
 | _ :: _,[],_,_,_,_,h,_=>by simp at h
 | p :: P,w :: a,0,m,nd,h1,h2,hk=>by
  simp at h1 h2;subst h1;subst h2
  show bindC kindOf ((p,w) :: P.zip a) m p=_
  unfold bindC
  rw [o4 fun v b=>(List.nodup_cons.mp nd).1 (List.of_mem_zip b).1,if_neg hk]
  simp
 | p :: P,w :: a,i+1,m,nd,h1,h2,hk=>by
  show bindC kindOf ((p,w) :: P.zip a) m x=_
  unfold bindC
  exact o5 (i:=i) (List.nodup_cons.mp nd).2 (by simpa using h1) (by simpa using h2) hk
def gh (N:List Str) (a:List V):St:=a.map some ++ List.replicate (N.length - a.length) none
def d8 (CX:CXT) (P:Program) (w:World) (K:FG) (mg:Str->Option Value) (base:Heap) (N:List Str) (qual:Str) (scope:Scope) (f:Addr) (cd:Value) (A:Around) (outer:List Env) (s:Shared) (H:Hp) (E:XK):Cx where
 prog:=P
 w:=w
 K:=K
 mg:=mg
 base:=base
 A:=A.deeper (envOfC qual scope s.heap.objs.size f cd)
 N:=N
 s₀:=s
 H₀:=H
 env:=envOfC qual scope s.heap.objs.size f cd
 outer:=outer
 stack:=envOfC qual scope s.heap.objs.size f cd :: outer
 ex:=[]
 calm:=true
 fn:=fun _=>true
 pn:=[]
 xe:=fun e s'=>wpAny (model P w) (A.deeper (envOfC qual scope s.heap.objs.size f cd)) (leaving (envOfC qual scope s.heap.objs.size f cd) e) (fun _ a=>CX outer H s E e a) (fun b a=>CX outer H s E b a) s'
theorem sB {sc:Scope} {n:Nat} (h:sc.names.lookup x=some .cell):∃ c,(cellsFrom n sc.names []).lookup x=some c:=by
 have q:=PySem.W.cellsFrom_some sc.names n [] (.inl h)
 exact Option.isSome_iff_exists.mp q
theorem oP {K:FG} (S:FnScope N ps scope) (hd:A.handled=none) (d:Env0 P w K mg base A outer s H) (D:vs.length=ps.length) (r:Vals vs us) (x:InCallC s s.heap.objs.size (bindL (envOfC qual scope s.heap.objs.size f cd).kindOf (ps.zip us) fun _=>none) (cellsFrom (s.heap.objs.size+1) scope.names []) (bindC (envOfC qual scope s.heap.objs.size f cd).kindOf (ps.zip us) fun _=>none) s1) :
  Inv (d8 CX P w K mg base N qual scope f cd A outer s H E) [] (gh N vs) H s1:=by
 have B:ps.length<=N.length:=by have:=congrArg List.length S.pre;rw [GH] at this;omega
 obtain ⟨h1,tk,rfl,o⟩:=x.done
 have g:∀ b:Addr,b ∉ (d8 CX P w K mg base N qual scope f cd A outer s H E).ex:=fun b z=>absurd (show b ∈ ([]:List Addr) from z) (by simp)
 refine ⟨⟨d.mod,S.kind,rfl,rfl,Gv _,fun y z c h1 h2=>?_,fun y j=>?_,fun y c _ h=>?_,fun _=>hd,Around.frames_deeper d.frames,.inr ⟨rfl,rfl⟩,fun b z=>absurd z (g b),d.bs,d.bsz,fun b _ _=>g b,fun b z=>absurd z (g b),d.funs,d.frf⟩,
  rfl,d.bare,Un.kept o,⟨_,x.toInCall.ns,fun i y v h1 h2 h3=>?_⟩,fun y c h=>⟨_,x.cell y c h⟩,d.hok.fresh (Gv _),fun y c h=>?_,fun p l=>absurd (show p ∈ ([]:List (Addr × Obj)) from l) (by simp),d.hok.kept o,?_⟩
 ·exact name_of_addr x.apart (PySem.mem_of_lookup h1) (PySem.mem_of_lookup h2)
 ·have j:scope.names.lookup y=some .cell\/scope.names.lookup y=some .free:=j
  rcases j with j | j
  ·exact sB j
  ·exact absurd rfl (S.nofree _ (PySem.mem_of_lookup j))
 ·exact Nat.le_of_lt (x.above y c (PySem.mem_of_lookup h))
 ·have hi:i < vs.length:=by
   unfold gh at h2
   by_cases hi:i < vs.length
   ·exact hi
   ·rw [List.getElem?_append_right (by simpa using hi)] at h2
    rw [List.getElem?_replicate] at h2
    split at h2 <;> cases h2
  have t:vs[i]?=some v:=by
   unfold gh at h2
   rw [List.getElem?_append_left (by simpa using hi),Gu] at h2
   cases e:vs[i]? with
   | none=>rw [e] at h2;cases h2
   | some a=>rw [e] at h2;cases h2;rfl
  obtain ⟨u,hu,C⟩:=r.get t
  have l:ps[i]?=some y:=by
   rw [<- S.pre,List.getElem?_take_of_lt (by omega)];exact h1
  have m:ps.Nodup:=by rw [<- S.pre];exact S.nd.sublist (List.take_sublist _ _)
  refine ⟨u,C,?_⟩
  rcases S.par y (Gq l) with k | k
  ·exact .inl ⟨k,o3 m l hu k⟩
  ·obtain ⟨c,e⟩:=sB (n:=s.heap.objs.size+1) k
   refine .inr ⟨.inl k,c,e,?_⟩
   have q:=x.cell y c e
   rw [o5 m l hu (by show scope.names.lookup y ≠ _;rw [k];decide)] at q
   exact q
 ·exact d.hok.fresh (Nat.le_of_lt (x.above y c (PySem.mem_of_lookup h)))
 ·unfold gh
  show _=N.length
  rw [GF,Go,List.length_replicate]
  omega
theorem Du {K:FG} {k:Nat} {B kV doc pm a ct M:Value} (O:K.lookup f=some ⟨M,od,.func (PySem.W.fnOf name qual params body scope B kV doc pm an a ct),osl⟩) (m:PySem.W.codeIn K a qual=true) (S:FnScope N ps scope) (len:∀ c H Q E,sp c H Q E->c.length=ps.length) (d:∀ (A:Around) (outer:List Env) (s:Shared) (H:Hp) (c:List V) (Q:VK) (E:XK),Room k (A.deeper (envOfC qual scope s.heap.objs.size f a))->sp c H Q E ->
   ∃ t,PSs (d8 CX P w K mg base N qual scope f a A outer s H E) body t/\t { nx:=fun _ H'=>Q .non H',rt:=Q } (gh N c) H) :
  FnOk P w K mg base CX (k+1) f (PySem.W.fnOf name qual params body scope B kV doc pm an a ct) ps sp:=by
 refine ⟨len,fun A outer s H args us c Q E l i L r j=>?_⟩
 have G:=len _ _ _ _ j
 have z:K.In s.heap:=i.mod.kin.keeps fun b o e=>(i.bs b o e).1
 have lim:s.heap.NoLimit:=i.mod.nolimit.keeps fun b o e=>(i.bs b o e).1
 have g:∀ y ∈ ps.zip us,scope.names.lookup y.1=some .local\/(scope.names.lookup y.1=some .cell/\((cellsFrom (s.heap.objs.size+1) scope.names []).lookup y.1).isSome=true):=fun ⟨n,v⟩ F=>by
  rcases S.par n (List.of_mem_zip F).1 with q | q
  ·exact .inl q
  ·exact .inr ⟨q,PySem.W.cellsFrom_some _ _ _ (.inl q)⟩
 refine codeAny_call_function l.depth (z _ _ O) rfl S.co S.gen rfl (PySem.W.codeRec_of z m) (L _ _ _ _ ?_)
 refine wpAny_newFunctionEnv_cells S.kind g fun env he s1 x=>?_
 subst he
 refine ⟨lim.keeps x.toInCall.keep,codeAny_func ?_⟩
 obtain ⟨t,D,C⟩:=d A outer s H c Q E (l.deeper _) j
 have I:Inv (d8 CX P w K mg base N qual scope f a A outer s H E) [] (gh N c) H s1:=oP S l.hd i G r x
 refine wpAny_mono (D [] s1 (gh N c) H _ I C) (fun fl s' h=>?_) fun e s' h=>h
 have fin:∀ {σ':St} {H':Hp} {v:V} {u:Value},Inv (d8 CX P w K mg base N qual scope f a A outer s H E) [] σ' H' s'->RelV v u->Q v H'->CE outer P w H s Q u s' :=
  fun {σ' H' v u} J p q=>⟨v,H',J.os,J.bare,J.base,J.hok,p,q⟩
 cases fl with
 | ret u =>
  obtain ⟨v,σ',H',J,p,q⟩:=h
  exact fin J p q
 | next =>
  obtain ⟨σ',H',J,q⟩:=h
  exact fin (v:=V.non) (u:=Value.none) J rfl q
 | brk =>
  obtain ⟨_,_,_,q⟩:=h
  exact False.elim q
 | cont =>
  obtain ⟨_,_,_,q⟩:=h
  exact False.elim q
end L2
namespace L2
open PySem PySem.Spec PyProof.Rows
section
variable {X:Cx} {x:Str} {p pos:Pos} {e:Expr} {es:List Expr} {t:TA} {id T:String} {r:List V->Hp->VK->Prop}
def tCB (r:List V->Hp->VK->Prop) (t:TA):TE:=fun σ H Q=>t σ H fun a H1=>r a H1 Q
theorem jI (m:CallR X (.builtin id) r) (f:Gl X x) (hm:X.mg x=none) (j:bootBuiltins x=some (.builtin id)) (d:PA X (e :: es) t) (g:x ≠ "__name__":=by decide) (a:(x == ("__debug__":Str))=false:=by decide)
  (he:starEach (e :: es) X.env=(false,eval e X.env) :: starEach es X.env:=by rfl) (b:(backTo pos (starEach es X.env)).any (·.1)=false:=by rfl):PE X (.Call (.Name x p) (e :: es) [] pos) (tCB r t):=by
 intro pins s σ H Q I h
 refine wpAny_Call_Name_kw (kj I f hm j ?_ g a)
 exact PyProof.Rows.callWith_builtin1 (thn (d pos pins s σ H _ I h) fun us s1 ⟨l,H1,c,k,i⟩=>m pins s1 σ H1 l us Q c k i) he b
theorem ot (m:CallR X (.type T) r) (f:Gl X x) (hm:X.mg x=none) (j:bootBuiltins x=some (.type T)) (d:PA X (e :: es) t) (g:x ≠ "__name__":=by decide) (a:(x == ("__debug__":Str))=false:=by decide)
  (he:starEach (e :: es) X.env=(false,eval e X.env) :: starEach es X.env:=by rfl) (b:(backTo pos (starEach es X.env)).any (·.1)=false:=by rfl):PE X (.Call (.Name x p) (e :: es) [] pos) (tCB r t):=by
 intro pins s σ H Q I h
 refine wpAny_Call_Name_kw (kj I f hm j ?_ g a)
 exact PyProof.Rows.callWith_type1 (thn (d pos pins s σ H _ I h) fun us s1 ⟨l,H1,c,k,i⟩=>m pins s1 σ H1 l us Q c k i) he b
end
end L2
namespace HT
open PySem PyProof.Rows
def lexLt:List Int->List Int->Bool
 | [],[]=>false
 | [],_ :: _=>true
 | _ :: _,[]=>false
 | x :: xs,y :: ys=>if x=y then lexLt xs ys else decide (x < y)
theorem lexLt_cons (x y:Int) (xs ys:List Int):lexLt (x :: xs) (y :: ys)=if x=y then lexLt xs ys else decide (x < y):=rfl
theorem lexLt_nil_nil:lexLt [] []=false:=rfl
theorem lexLt_nil_cons (y:Int) (ys:List Int):lexLt [] (y :: ys)=true:=rfl
theorem lexLt_cons_nil (x:Int) (xs:List Int):lexLt (x :: xs) []=false:=rfl
theorem Au (A:Around) (s:Shared) (a:Int) (t:Tok) (c:Int) (u:Tok):∃ e,SeqAt.EqAt A s (.int a t) (.int c u) e/\(e=true ↔ a=c) :=
 ⟨(a == c),SeqAt.EqAt.int_int a t c u,by simp⟩
theorem rcLt_int (A:Around) (s:Shared) (a:Int) (t:Tok) (c:Int) (u:Tok) (prog:Program) (w:World) (E:Value->Shared->Prop) (Q:Value->Shared->Prop) (h:Q (.bool (decide (a < c))) s) :
  wpAny (model prog w) A (richCompare .Lt (.int a t) (.int c u)) Q E s :=
 (PyProof.Rows.lt_int h:wpAny (model prog w) A (compareOp .Lt (.int a t) (.int c u)) Q E s)
section
open PySem.SeqAt
open PySem.AutoSeq1 (wpAny_loadPart')
open PySem.MeetsSeq PySem.MeetsSeq2 PySem.MeetsSeq3
theorem tuple_lt_ints (l b:Addr) (items f:Array Value) (n G:Nat) (dd D:Option Addr) (sl C:Array (Option Value)) (ns ms:List Int) (hi:IntsAre items.toList ns) (F:IntsAre f.toList ms) :
  Meets (Builtin.«tuple.__lt__» ⟨[.ref l,.ref b],[]⟩)
   (fun _ R s=>s.heap.get? l=some { cls:=.type "tuple",dict:=dd,data:=.seq items n,slots:=sl }/\s.heap.get? b=some { cls:=.type "tuple",dict:=D,data:=.seq f G,slots:=C } /\
    R (.ok (.ret (.bool (lexLt ns ms)))) s) :=
 .of_wp fun prog w A R s h=>by
  obtain ⟨z,g,d,tk,os⟩:=s;obtain ⟨H,I,h⟩:=h
  have f2:=AutoSeq1.sub_tuple_tuple
  have K:items.size=ns.length:=by rw [<- hi.length];simp
  have J:f.size=ms.length:=by rw [<- F.length];simp
  wp_walk using wpAny_loadPart' H,wpAny_loadPart' I,wpAny_forIn_list _ (fun gw b s'=>b.1=none/\s'=⟨z,g,d,tk,os⟩/\∃ (v ws:List Value) (i j:List Int),gw=v.zip ws /\
   IntsAre v i/\IntsAre ws j/\i.length+f.size=j.length+items.size/\R (.ok (.ret (.bool (lexLt i j)))) ⟨z,g,d,tk,os⟩) _
  case turn =>
   rintro ⟨y,x⟩ gw b s' ⟨p,rfl,v,ws,i,j,hz,r,k,hlen,o⟩
   cases r with
   | nil=>rw [List.zip_nil_left] at hz;cases hz
   | cons a t hvi' =>
    cases k with
    | nil=>rw [List.zip_nil_right] at hz;cases hz
    | cons c u hwi' =>
     rw [List.zip_cons_cons] at hz
     injection hz with hyx hrest
     injection hyx with hy hx
     subst hy hx
     rw [lexLt_cons] at o
     simp only [GG] at hlen
     obtain ⟨e,he,m⟩:=Au A.in1 ⟨z,g,d,tk,os⟩ a t c u
     refine F7 (he prog w _ _ ?_)
     cases e with
     | true =>
      rw [if_pos (m.mp rfl)] at o
      wp_walk
      exact ⟨rfl,rfl,_,_,_,_,hrest,hvi',hwi',by omega,o⟩
     | false =>
      rw [if_neg (fun q=>absurd (m.mpr q) Gw)] at o
      have B:=rcLt_int A.in1 ⟨z,g,d,tk,os⟩ a t c u prog w
      wp_walk using B
      exact ⟨_,rfl,by simpa using o⟩
  case fin =>
   rintro ⟨b1,b2⟩ s' ⟨p,rfl,v,ws,i,j,hz,r,k,hlen,o⟩
   simp only at p
   subst p
   have E:lexLt i j=decide (items.size < f.size):=by
    cases r with
    | nil =>
     cases k with
     | nil =>
      simp only [List.length_nil] at hlen
      rw [lexLt_nil_nil]
      exact (GB (by omega)).symm
     | cons c u hw =>
      simp only [List.length_nil,GG] at hlen
      rw [lexLt_nil_cons]
      exact (GA (by omega)).symm
    | cons a t E =>
     cases k with
     | nil =>
      simp only [List.length_nil,GG] at hlen
      rw [lexLt_cons_nil]
      exact (GB (by omega)).symm
     | cons c u hw =>
      rw [List.zip_cons_cons] at hz
      cases hz
   rw [E] at o
   wp_walk
   exact ⟨_,rfl,by simpa [Builtin.Tuple.tupleCompareSizes] using o⟩
  case h =>
   exact ⟨rfl,rfl,items.toList,f.toList,ns,ms,rfl,hi,F,by omega,h⟩
end
section
variable {prog:Program} {w:World} {A:Around} {E:Value->Shared->Prop} {s:Shared}
theorem cat_tup (l:IsTup s.heap t vs.toArray) (m:IsTup s.heap b ws.toArray) (i:vs ≠ []) (h1:ws=[]->Q (.ref t) s) (h2:ws ≠ []->Q (.ref s.heap.objs.size) { s with heap:=s.heap.push { cls:=.type "tuple",data:=.seq (vs ++ ws).toArray } }) (hsz:vs.length+ws.length<=sizeLine):wpAny (model prog w) A (binaryOp .Add (.ref t) (.ref b)) Q E s:=by
 obtain ⟨⟨cls,dd,data,sl⟩,g,j,n,hd⟩:=id l
 obtain ⟨⟨k,f,data2,d⟩,a,c,h,hd2⟩:=id m
 simp only at j hd c hd2
 subst j hd c hd2
 have e:vs.toArray ++ ws.toArray=(vs ++ ws).toArray:=by simp
 by_cases hw:ws=[]
 ·exact concat_meets ⟨_,g,rfl⟩ ⟨_,a,rfl⟩ noFill_tuple_add seq_tuple_add PySem.F.slot_tuple_add PySem.F.entry_tuple_add (PySem.F.args_tuple_add_2 _ _)
   (tuple_addW1 t b vs.toArray ws.toArray n h dd f sl d (by simpa using i) (by simp [hw])) ⟨g,a,h1 hw⟩
 ·refine concat_meets ⟨_,g,rfl⟩ ⟨_,a,rfl⟩ noFill_tuple_add seq_tuple_add PySem.F.slot_tuple_add PySem.F.entry_tuple_add (PySem.F.args_tuple_add_2 _ _)
   (tuple_addW2 t b vs.toArray ws.toArray n h dd f sl d (by simpa using i) (by simpa using hw) (by rw [Gy,Gy];exact hsz)) ⟨g,a,?_⟩
  rw [e]
  exact h2 hw
def sIx (n d:Nat):Option Int->Nat
 | none=>d
 | some v=>if v < 0 then (v+(n:Int)).toNat else min v.toNat n
theorem sIx_nat (n d k:Nat):sIx n d (some (k:Int))=min k n:=by
 show (if (k:Int) < 0 then ((k:Int)+(n:Int)).toNat else min (k:Int).toNat n)=min k n
 rw [if_neg (by omega),Int.toNat_natCast]
theorem Ed (n d:Nat) (hd:d<=n) (o:Option Int):sIx n d o<=n:=by
 cases o with
 | none=>exact hd
 | some v =>
  show (if v < 0 then (v+(n:Int)).toNat else min v.toNat n)<=n
  grind
theorem vW (v:Int) (n d:Nat):(if v < 0 then max (v+(n:Int)) 0 else min v (n:Int))=((sIx n d (some v):Nat):Int):=by
 show (if v < 0 then max (v+(n:Int)) 0 else min v (n:Int))=(((if v < 0 then (v+(n:Int)).toNat else min v.toNat n):Nat):Int)
 grind
theorem uM (lo hi:Option Int) (n:Nat):Builtin.Slice.sliceAdjust lo hi 1 (n:Int)=(((sIx n 0 lo:Nat):Int),((sIx n n hi:Nat):Int)):=by
 have h1:¬ ((1:Int) < 0):=by omega
 unfold Builtin.Slice.sliceAdjust
 simp only [h1,if_false]
 refine Prod.ext ?_ ?_
 ·cases lo with
  | none=>rfl
  | some v=>exact vW v n 0
 ·cases hi with
  | none=>rfl
  | some v=>exact vW v n n
theorem tQ (i j:Nat):Builtin.Slice.slicePlaces (i:Int) (j:Int) 1=j - i:=by
 unfold Builtin.Slice.slicePlaces
 grind
theorem lQ (p:IsPart v o) (h:Q o s):wpAny (model prog w) A (Builtin.Slice.slicePartIndex v) Q E s:=by
 cases p with
 | none=>exact slicePart_none h
 | int i t=>exact slicePart_int h
theorem eZ {sl:Addr} {c d:Value} {lo hi:Option Int} {n:Nat} (f:s.heap.IsSliceOf sl c d .none) (pl:IsPart c lo) (pu:IsPart d hi) (h:Q (((sIx n 0 lo:Nat):Int),1,sIx n n hi - sIx n 0 lo) s):wpAny (model prog w) A (Builtin.Slice.sliceApplied (.ref sl) (pure (n:Int))) Q E s:=by
 obtain ⟨os,b,e,a⟩:=id f
 unfold Builtin.Slice.sliceApplied Builtin.Slice.sliceFields
 refine F7 (F7 (wpAny_field b a (x:=c) rfl (F7 (wpAny_field b a (x:=d) rfl (F7 (wpAny_field b a (x:=.none) rfl (F8 ?_)))))))
 refine F7 (slicePart_none ?_)
 show wpAny _ _ (if ((1:Int) == 0)=true then _ else _) _ _ s
 rw [if_neg (by decide)]
 refine F7 (lQ pl (F7 (lQ pu (F7 (F8 ?_)))))
 show wpAny _ _ (match Builtin.Slice.sliceAdjust lo hi 1 (n:Int) with | (lo,hi)=>pure (lo,(1:Int),Builtin.Slice.slicePlaces lo hi 1)) _ _ s
 rw [uM lo hi n]
 show wpAny _ _ (pure (((sIx n 0 lo:Nat):Int),(1:Int),Builtin.Slice.slicePlaces ((sIx n 0 lo:Nat):Int) ((sIx n n hi:Nat):Int) 1)) _ _ s
 rw [tQ]
 exact F8 h
theorem zr (xs:Array Value) (i k:Nat):((List.range k).filterMap fun (m:Nat)=>xs[((i:Int)+(m:Int) * 1).toNat]?).toArray=((xs.toList.drop i).take k).toArray:=by
 have e:(fun (m:Nat)=>xs[((i:Int)+(m:Int) * 1).toNat]?)=fun m=>xs[i+m]?:=by
  funext m
  grind
 rw [e]
 have:=pick_run xs i k
 rw [List.filterMap_map] at this
 have a:((fun x=>xs[x]?) ∘ fun x=>i+x)=fun m=>xs[i+m]?:=rfl
 rw [a] at this
 rw [this]
theorem getItem_tuple_cut {lo hi:Option Int} (b:IsTup s.heap t items) (g:s.heap.IsSliceOf sl vl vu .none) (pl:IsPart vl lo) (pu:IsPart vu hi) (hw:¬ (sIx items.size 0 lo=0/\sIx items.size items.size hi=items.size)) (h:Q (.ref s.heap.objs.size) { s with heap:=s.heap.push { cls:=.type "tuple",data:=.seq ((items.toList.drop (sIx items.size 0 lo)).take (sIx items.size items.size hi - sIx items.size 0 lo)).toArray } }) (hsz:items.size<=sizeLine):wpAny (model prog w) A (getItem (.ref t) (.ref sl)) Q E s:=by
 have a:sizeOk (.seq ((items.toList.drop (sIx items.size 0 lo)).take (sIx items.size items.size hi - sIx items.size 0 lo)).toArray):=by
  show ((items.toList.drop (sIx items.size 0 lo)).take (sIx items.size items.size hi - sIx items.size 0 lo)).toArray.size<=sizeLine
  rw [Gy,GH,List.length_drop,Array.length_toList]
  omega
 have l:sIx items.size items.size hi<=items.size:=Ed _ _ (Gv _) hi
 obtain ⟨os,f,d,i⟩:=id g
 have c:s.TypeIs (.ref sl) "slice":=⟨os,f,d⟩
 unfold getItem
 try with_reducible refine F9 ?_
 first | refine F7 (F8 ?_) | skip
 refine F7 (wpAny_sequenceKey b.typeIs (by decide) ?_)
 refine F7 (wpAny_callSpecial?_slot (name:=Str.ofString "__getitem__") b.typeIs PyProof.Rows.slot_tuple_getitem
  (wpAny_call_entry PyProof.Rows.slot_tuple_getitem b.typeIs entry_tuple_getitem ?_ (args_tuple_getitem _ _)))
 show wpAny _ _ (Builtin.Tuple.tupleItemsOf (.ref t) >>= _) _ _ s
 refine F7 (tupleItemsOf_ b ?_)
 refine F7 (wpAny_typeOf c ?_)
 rw [if_pos (by decide)]
 refine F7 (eZ g pl pu ?_)
 have e:¬ ((((sIx items.size 0 lo:Nat):Int) == 0 && (1:Int) == 1 && (sIx items.size items.size hi - sIx items.size 0 lo) == items.size)=true):=by
  intro q
  rw [Bool.and_eq_true,Bool.and_eq_true] at q
  have j:((sIx items.size 0 lo:Nat):Int)=0:=eq_of_beq q.1.1
  have k:sIx items.size items.size hi - sIx items.size 0 lo=items.size:=eq_of_beq q.2
  exact hw ⟨by omega,by omega⟩
 show wpAny _ _ (if (((sIx items.size 0 lo:Nat):Int) == 0 && (1:Int) == 1 && (sIx items.size items.size hi - sIx items.size 0 lo) == items.size)=true then _ else _) _ _ s
 rw [if_neg e,zr]
 first
  | exact F7 (m:=Builtin.Tuple.tupleExact _) (wpAny_newObj_type (F8 ⟨_,rfl,F8 h⟩) a)
  | exact F7 (m:=Builtin.Tuple.tupleExact _) (wpAny_newObj_type (F7 (F8 (F8 ⟨_,rfl,F8 h⟩))) a)
  | exact F7 (F7 (m:=Builtin.Tuple.tupleExact _) (wpAny_newObj_type (F8 (F8 ⟨_,rfl,F8 h⟩)) a))
  | exact F7 (F7 (m:=Builtin.Tuple.tupleExact _) (wpAny_newObj_type (F8 ⟨_,rfl,F8 h⟩) a))
end
end HT
namespace L2
open PySem PySem.Spec PyProof.Rows
abbrev TO:=St->Hp->(Option Int->Hp->Prop)->Prop
def PO (X:Cx) (e:Option Expr) (t:TO):Prop :=
 ∀ (pins:List (Addr × Obj)) (s:Shared) (σ:St) (H:Hp) (Q:Option Int->Hp->Prop),Inv X pins σ H s->t σ H Q ->
  wpAny (model X.prog X.w) X.A (evalPart e X.env) (fun u s'=>∃ o H',Inv X pins σ H' s'/\IsPart u o/\Q o H') X.xe s
def A9:TO:=fun _ H Q=>Q none H
def tPart (t:TE):TO:=fun σ H Q=>t σ H fun x H1=>∃ i,x=.int i/\Q (some i) H1
theorem mF:∀ {us:List Value},Vals (ns.map V.int) us->IntsAre us ns:=by
 induction ns with
 | nil=>intro us r;rw [List.map_nil] at r;cases r;exact .nil
 | cons n ns ih =>
  intro us r
  rw [Gz] at r
  cases r with
  | cons r1 r2 =>
   obtain ⟨t,e⟩:=r1
   subst e
   exact .cons n t (ih r2)
section
variable {X:Cx} {e:Expr} {te:TE} {lo hi:Option Expr} {tl th:TO} {pos p2:Pos}
theorem B3:PO X none A9:=by
 intro pins s σ H Q I h
 rw [evalPart_none]
 exact F8 ⟨none,H,I,.none,h⟩
theorem B0 (h:PE X e te):PO X (some e) (tPart te):=by
 intro pins s σ H Q I hw
 rw [evalPart_some]
 refine thn (h pins s σ H _ I hw) fun u s1 ⟨x,H1,a,c,b⟩=>?_
 obtain ⟨i,rfl,q⟩:=b
 obtain ⟨t,rfl⟩:=c
 exact ⟨some i,H1,a,.int i t,q⟩
def SlR (X:Cx) (r:V->Option Int->Option Int->Hp->VK->Prop):Prop :=
 ∀ (pins:List (Addr × Obj)) (s:Shared) (σ:St) (H:Hp) (x:V) (v a b:Value) (lo hi:Option Int) (sl:Addr) (Q:VK),Inv X pins σ H s->RelV x v->s.heap.IsSliceOf sl a b .none->IsPart a lo->IsPart b hi->r x lo hi H Q ->
  ∃ T id,typeLookup (.type T) "__getitem__"=pure (some (.builtin id))/\s.TypeIs v T/\wpAny (model X.prog X.w) X.A (getItem v (.ref sl)) (EP X pins σ Q) X.xe s
theorem SlR.or (h:SlR X r) (h':SlR X r'):SlR X (fun x lo hi H Q=>r x lo hi H Q\/r' x lo hi H Q):=by
 intro pins s σ H x v c a lo hi sl Q I b d pl pu q
 rcases q with q | q
 ·exact h pins s σ H x v c a lo hi sl Q I b d pl pu q
 ·exact h' pins s σ H x v c a lo hi sl Q I b d pl pu q
def tSl (r:V->Option Int->Option Int->Hp->VK->Prop) (te:TE) (tl th:TO):TE:=fun σ H Q=>te σ H fun x H1=>tl σ H1 fun l H2=>th σ H2 fun u a=>r x l u a Q
theorem zw (z:SlR X r) (he:PE X e te) (y:PO X lo tl) (hu:PO X hi th):PE X (.Subscript e (.Slice lo hi none p2) pos) (tSl r te tl th):=by
 intro pins s σ H Q I h
 refine Subscript_ (thn (he pins s σ H _ I h) fun v s1 ⟨x,H1,g,p,m⟩=>?_)
 refine wpAny_Slice (thn (y pins s1 σ H1 _ g m) fun a s2 ⟨l,H2,k,pl,B⟩=>thn (hu pins s2 σ H2 _ k B) fun c s3 ⟨u,d,t,pu,i⟩=>?_)
 rw [evalPart_none]
 refine F8 ?_
 have o:Inv X pins σ d { s3 with heap:=s3.heap.push { cls:=.type "slice",data:=.fields #[a,c,.none] } }:=t.kept (t':=s3.toks) fun b ob q=>Gd _ q
 obtain ⟨T,id,f,n,j⟩:=z pins { s3 with heap:=s3.heap.push { cls:=.type "slice",data:=.fields #[a,c,.none] } } σ d x v a c l u s3.heap.objs.size Q o p (Heap.IsSliceOf.new ..) pl pu i
 show wpAny (model X.prog X.w) X.A (subscriptTail e (.Slice lo hi none p2) v (.ref s3.heap.objs.size)) (EP X pins σ Q) X.xe { s3 with heap:=s3.heap.push { cls:=.type "slice",data:=.fields #[a,c,.none] } }
 exact tail_any (ops:=[.ref s3.heap.objs.size,v]) n f j (by with_unfolding_all rfl)
def so (xs:List V) (lo hi:Option Int):List V:=(xs.drop (HT.sIx xs.length 0 lo)).take (HT.sIx xs.length xs.length hi - HT.sIx xs.length 0 lo)
theorem k7 (xs:List V) (lo hi:Option Int):(so xs lo hi).length<=xs.length:=by
 unfold so
 rw [GH,List.length_drop]
 omega
def EB (K:FG):V->Option Int->Option Int->Hp->VK->Prop:=fun x lo hi H Q=>∃ a xs,x=.ref a/\SqT K H a xs /\
 ¬ (HT.sIx xs.length 0 lo=0/\HT.sIx xs.length xs.length hi=xs.length)/\∀ p,H p=none->Q (.ref p) (upd H p (.tup (so xs lo hi)))
theorem sl_tup:SlR X (EB X.K):=by
 intro pins s σ H x v i g lo hi sl Q I e f pl pu h
 obtain ⟨a,xs,rfl,d,hw,q⟩:=h
 cases e
 obtain ⟨its,r,c,hz⟩:=I.tuple d
 have hlen:its.toArray.size=xs.length:=by rw [Gy];exact r.length.symm
 refine ⟨"tuple",_,PyProof.Rows.slot_tuple_getitem.lookup,c.typeIs,?_⟩
 refine HT.getItem_tuple_cut c f pl pu (by rw [hlen];exact hw) ?_ (by rw [hlen];exact hz)
 rw [hlen]
 refine ⟨.ref s.heap.objs.size,_,I.laid (t':=s.toks) (o:=.tup (so xs lo hi)) (fun b ob q=>Gd _ q) (Gv _) ?_,rfl,q _ (I.hok.fresh (Gv _))⟩
 exact ⟨GQ (k7 xs lo hi) hz,_,(r.drop (HT.sIx xs.length 0 lo)).take (HT.sIx xs.length xs.length hi - HT.sIx xs.length 0 lo),IsTupD.new _ _⟩
def vj (K:FG):R2:=fun x y H Q=>∃ a b xs ys,x=.ref a/\y=.ref b/\SqT K H a xs/\SqT K H b ys/\xs ≠ []/\xs.length+ys.length<=sizeLine /\
 (ys=[]->Q (.ref a) H)/\(ys ≠ []->∀ p,H p=none->Q (.ref p) (upd H p (.tup (xs ++ ys))))
theorem Vals.nil_iff (r:Vals xs us):us=[] ↔ xs=[]:=by
 cases r with
 | nil=>simp
 | cons _ _=>simp
theorem op_catT:OpR X (binaryOp .Add) (vj X.K):=by
 intro pins s σ H x y v u Q I k f h
 obtain ⟨a,b,xs,ys,rfl,rfl,g,n,j,hz,l,m⟩:=h
 cases k
 cases f
 obtain ⟨its,d,i,_⟩:=I.tuple g
 obtain ⟨e,c,p2,_⟩:=I.tuple n
 refine HT.cat_tup i p2 (fun z=>j (d.nil_iff.mp z)) (fun z=>⟨.ref a,H,I,rfl,l (c.nil_iff.mp z)⟩) (fun z=>?_) (by rw [<- d.length,<- c.length];exact hz)
 refine ⟨.ref s.heap.objs.size,_,I.laid (t':=s.toks) (o:=.tup (xs ++ ys)) (fun b ob q=>Gd _ q) (Gv _) ?_,rfl,m (fun w=>z (c.nil_iff.mpr w)) _ (I.hok.fresh (Gv _))⟩
 exact ⟨by rw [GF];exact hz,_,d.append c,IsTupD.new _ _⟩
end
end L2
namespace L2
open PySem PySem.Spec PyProof.Rows
def ixN (n:Nat) (i:Int):Option Nat:=if 0<=i then (if i < n then some i.toNat else none) else if -(n:Int)<=i then some (i+n).toNat else none
def atI {α:Type} (xs:List α) (i:Int):Option α:=(ixN xs.length i).bind fun j=>xs[j]?
theorem vI {n:Nat} {i:Int} {j:Nat} (h:ixN n i=some j):seqIndex? i n=some j/\j < n/\-(n:Int)<=i/\i < n:=by
 unfold ixN at h
 by_cases h0:0<=i
 ·rw [if_pos h0] at h
  by_cases h1:i < n
  ·rw [if_pos h1] at h
   have e:i.toNat=j:=GU h
   exact ⟨by rw [seqIndex_of h0 h1,e],by omega,by omega,h1⟩
  ·rw [if_neg h1] at h;cases h
 ·rw [if_neg h0] at h
  by_cases h1:-(n:Int)<=i
  ·rw [if_pos h1] at h
   have e:(i+n).toNat=j:=GU h
   exact ⟨by rw [seqIndex_neg (by omega) h1,e],by omega,h1,by omega⟩
  ·rw [if_neg h1] at h;cases h
theorem wg {i:Int} (h:atI xs i=some v):∃ j,seqIndex? i xs.length=some j/\xs[j]?=some v/\j < xs.length/\-(xs.length:Int)<=i/\i < xs.length:=by
 unfold atI at h
 cases e:ixN xs.length i with
 | none=>rw [e] at h;cases h
 | some j =>
  rw [e] at h
  obtain ⟨h1,h2,h3,a⟩:=vI e
  exact ⟨j,h1,h,h2,h3,a⟩
def wk (b:Expr):Prop:=∀ o i,subscripted b false o i=operate [o,i] (getItem o i)
def IxR (X:Cx) (r:R2):Prop :=
 ∀ (value slice:Expr) (pins:List (Addr × Obj)) (s:Shared) (σ:St) (H:Hp) (x y:V) (v u:Value) (Q:VK),Inv X pins σ H s->RelV x v->RelV y u->r x y H Q ->
  subscripted slice false v u=operate [v,u] (getItem v u)->wpAny (model X.prog X.w) X.A (subscriptTail value slice v u) (EP X pins σ Q) X.xe s
def MtR (X:Cx) (id:String) (r:V->List V->Hp->VK->Prop):Prop :=
 ∀ (pins:List (Addr × Obj)) (s:Shared) (σ:St) (H:Hp) (x:V) (xs:List V) (v:Value) (us:List Value) (Q:VK),Inv X pins σ H s->RelV x v->Vals xs us->r x xs H Q ->
  wpAny (model X.prog X.w) X.A (call (.builtin id) (v :: us)) (EP X pins σ Q) X.xe s
section
variable {X:Cx} {a b:Expr} {ta tb:TE} {pos:Pos}
theorem IxR.or (h:IxR X r) (h':IxR X r'):IxR X (fun x y H Q=>r x y H Q\/r' x y H Q):=by
 intro value slice pins s σ H x y v u Q I b a q c
 rcases q with q | q
 ·exact h value slice pins s σ H x y v u Q I b a q c
 ·exact h' value slice pins s σ H x y v u Q I b a q c
theorem pe_ix (g:IxR X r) (c:PE X a ta) (i:PE X b tb) (j:wk b):PE X (.Subscript a b pos) (tOp r ta tb):=by
 intro pins s σ H Q I h
 exact Subscript_ (FT c i I h fun v u s2 x y H2 e f d q=>g a b pins s2 σ H2 x y v u Q e f d q (j _ _))
def zj (K:FG):R2:=fun x y H Q=>∃ p xs i v,x=.ref p/\y=.int i/\SqL K H p xs/\atI xs i=some v/\Q v H
def zh (K:FG):R2:=fun x y H Q=>∃ p xs i v,x=.ref p/\y=.int i/\SqT K H p xs/\atI xs i=some v/\Q v H
theorem ix_list:IxR X (zj X.K):=by
 intro value slice pins s σ H x y v u Q I g f h d
 obtain ⟨p,xs,i,z,rfl,rfl,k,he,q⟩:=h
 cases g
 obtain ⟨t,rfl⟩:=f
 obtain ⟨its,r,pl,hz⟩:=I.list k
 obtain ⟨j,h1,h2,h3,l,e⟩:=wg he
 obtain ⟨w,c,a⟩:=r.get h2
 have m:=r.length
 have n:=pO
 have fin:EP X pins σ Q w s:=⟨z,H,I,a,q⟩
 by_cases h0:0<=i
 ·have b:i.toNat=j:=by
   rw [seqIndex_of h0 e] at h1
   exact GU h1
  exact item_listR pl.isList h0 (by omega) (by rw [b];simpa using c) fin d
 ·have b:(i+(its.toArray.size:Int)).toNat=j:=by
   rw [seqIndex_neg (by omega) l] at h1
   rw [Gy,<- m]
   exact GU h1
  exact subscriptTail_builtinR (x:=w) pl.isList.typeIs slot_list_getitem.lookup
   (wpAny_getItem_list_neg (Q:=fun r s'=>r=w/\EP X pins σ Q r s') pl.isList (by omega) (by rw [Gy] <;> omega) (by omega) (by rw [b];simpa using c) ⟨rfl,fin⟩) d
theorem Fz:IxR X (zh X.K):=by
 intro value slice pins s σ H x y v u Q I d b h f
 obtain ⟨p,xs,i,z,rfl,rfl,e,he,q⟩:=h
 cases d
 obtain ⟨t,rfl⟩:=b
 obtain ⟨its,r,pl,hz⟩:=I.tuple e
 obtain ⟨j,h1,h2,h3,m,k⟩:=wg he
 obtain ⟨w,c,a⟩:=r.get h2
 have g:=r.length
 have l:=pO
 have fin:EP X pins σ Q w s:=⟨z,H,I,a,q⟩
 exact subscriptTail_builtinR (x:=w) pl.typeIs slot_tuple_getitem.lookup
  (getItem_tuple (j:=j) (Q:=fun r s'=>r=w/\EP X pins σ Q r s') pl (by omega) (by omega) (by rw [Gy,<- g];exact h1) (by simpa using c) ⟨rfl,fin⟩) f
theorem tZ (its:List Value) (n j:Nat) (u:Value):Obj.mapSeq (·.setIfInBounds j u) { cls:=.type "list",data:=.seq its.toArray n } = { cls:=.type "list",data:=.seq (its.set j u).toArray n }:=by
 simp [Obj.mapSeq]
theorem Inv.lst {pins:List (Addr × Obj)} {σ:St} {H:Hp} {s:Shared} {p:Addr} {xs:List V} (I:Inv X pins σ H s) (h:H p=some (.lst xs)) :
  ∃ (its:List Value) (n:Nat),Vals xs its/\s.heap.get? p=some { cls:=.type "list",data:=.seq its.toArray n }/\xs.length<=sizeLine:=by
 obtain ⟨z,its,n,r,e⟩:=I.hok p _ h
 exact ⟨its,n,r,e,z⟩
theorem Inv.lstUpd {its its':List Value} {n a:Nat} (I:Inv X pins σ H s) (h:H p=some (.lst xs)) (d:s.heap.get? p=some { cls:=.type "list",data:=.seq its.toArray n }) (hf:f { cls:=.type "list",data:=.seq its.toArray n } = { cls:=.type "list",data:=.seq its'.toArray a }) (r:Vals ys its') (hz:ys.length<=sizeLine) (t:Nat) :
  Inv X pins σ (upd H p (.lst ys)) { s with heap:=s.heap.update p f,toks:=t }:=by
 have e:(s.heap.update p f).get? p=some { cls:=.type "list",data:=.seq its'.toArray a }:=by
  rw [GE f d (by rw [hf] <;> rfl),hf]
 refine I.write (x:=p) (e:=p) (by rw [h];trivial) (.inl rfl) (fun b u c q=>(GN _ _ (Ne.symm c)).trans q) ⟨_,e⟩ ?_
 exact ⟨hz,its',a,r,e⟩
def vf:V->V->V->Hp->(Hp->Prop)->Prop:=fun o i v H Q=>∃ p xs k j,o=.ref p/\i=.int k/\H p=some (.lst xs)/\ixN xs.length k=some j/\Q (upd H p (.lst (xs.set j v)))
theorem yD:AU X vf:=by
 intro pins s σ H o i v ov y u Q I m g w h
 obtain ⟨p,xs,k,j,rfl,rfl,e,l,q⟩:=h
 cases m
 obtain ⟨t,rfl⟩:=g
 obtain ⟨its,n,r,b,hz⟩:=I.lst e
 obtain ⟨h1,h2,h3,d⟩:=vI l
 have a:=r.length
 have x:=pO
 have f:Inv X pins σ (upd H p (.lst (xs.set j v))) { s with heap:=s.heap.update p (Obj.mapSeq (·.setIfInBounds j u)) } :=
  I.lstUpd e b (tZ its n j u) (r.set w j) (by rw [List.length_set];exact hz) s.toks
 by_cases h0:0<=k
 ·have c:k.toNat=j:=by
   rw [seqIndex_of h0 d] at h1
   exact GU h1
  exact PySem.W.ki_setAt b h0 (by omega) (by rw [Gy,<- a];exact d) (by rw [c];exact ⟨_,f,q⟩)
 ·have c:(k+(its.toArray.size:Int)).toNat=j:=by
   rw [seqIndex_neg (by omega) h3] at h1
   rw [Gy,<- a]
   exact GU h1
  exact PySem.W.ki_setBack b (by omega) (by rw [Gy,<- a];exact h3) (by omega) (by rw [c];exact ⟨_,f,q⟩)
theorem ph (lo hi:Option Int) (n:Nat):(sliceBounds lo hi none n).1=((HT.sIx n 0 lo:Nat):Int)/\(sliceBounds lo hi none n).2.1=((HT.sIx n n hi:Nat):Int)/\(sliceBounds lo hi none n).2.2=1:=by
 refine ⟨?_,?_,rfl⟩
 ·cases lo with
  | none=>simp [sliceBounds,HT.sIx]
  | some i =>
   simp only [sliceBounds,HT.sIx,Option.getD_none,show (1:Int) > 0 by decide,if_true]
   grind
 ·cases hi with
  | none=>simp [sliceBounds,HT.sIx]
  | some i =>
   simp only [sliceBounds,HT.sIx,Option.getD_none,show (1:Int) > 0 by decide,if_true]
   by_cases h:i < 0
   ·simp only [h,if_true] <;> omega
   ·simp only [h,if_false] <;> omega
theorem ng (its:List Value) (lo hi:Option Int):slicePick its.toArray lo hi none=((its.drop (HT.sIx its.length 0 lo)).take (HT.sIx its.length its.length hi - HT.sIx its.length 0 lo)).toArray:=by
 obtain ⟨h1,h2,h3⟩:=ph lo hi its.toArray.size
 unfold slicePick
 rw [h1,h2,h3]
 simp only [sliceRange_one,pick_run,Gy] <;> rfl
def EC (K:FG):V->Option Int->Option Int->Hp->VK->Prop:=fun x lo hi H Q=>∃ a xs,x=.ref a/\SqL K H a xs/\∀ p,H p=none->Q (.ref p) (upd H p (.lst (so xs lo hi)))
theorem sl_list:SlR X (EC X.K):=by
 intro pins s σ H x v i g lo hi sl Q I e f pl pu h
 obtain ⟨a,xs,rfl,d,q⟩:=h
 cases e
 obtain ⟨its,r,c,hz⟩:=I.list d
 have hlen:=r.length
 refine ⟨"list",_,slot_list_getitem.lookup,c.isList.typeIs,?_⟩
 refine wpAny_getItem_list_slice c.isList f pl pu .none (by simp) ?_ (by rw [Gy] <;> omega)
 rw [ng,<- hlen]
 refine ⟨.ref s.heap.objs.size,_,I.laid (t':=s.toks) (o:=.lst (so xs lo hi)) (fun b ob q=>Gd _ q) (Gv _) ?_,rfl,q _ (I.hok.fresh (Gv _))⟩
 exact ⟨GQ (k7 xs lo hi) hz,_,0,(r.drop (HT.sIx xs.length 0 lo)).take (HT.sIx xs.length xs.length hi - HT.sIx xs.length 0 lo),Gn _ rfl⟩
def gu:V->Bool
 | .non=>true
 | .bl _=>true
 | .int _=>true
 | .str _=>true
 | _=>false
def eqV:V->V->Bool
 | .non,.non=>true
 | .bl a,.bl b=>a == b
 | .bl a,.int b=>(if a then 1 else 0) == b
 | .int a,.bl b=>a == (if b then 1 else 0)
 | .int a,.int b=>a == b
 | .str a,.str b=>a == b
 | _,_=>false
theorem FL (d:RelV y u) (c:RelV x v) (e:gu y=true) (fx:gu x=true):SeqAt.EqAt A s u v (eqV y x):=by
 cases y with
 | non =>
  cases d
  cases x with
  | non=>cases c;exact SeqAt.EqAt.same _
  | bl b=>cases c;exact SeqAt.EqAt.none_bool b
  | int b=>obtain ⟨t,rfl⟩:=c;exact SeqAt.EqAt.none_int b t
  | str b=>obtain ⟨t,rfl⟩:=c;exact SeqAt.EqAt.none_str b t
  | _=>exact absurd (show false=true from fx) Gw
 | bl a =>
  cases d
  cases x with
  | non=>cases c;exact SeqAt.EqAt.bool_none a
  | bl b=>cases c;exact SeqAt.EqAt.bool_bool a b
  | int b=>obtain ⟨t,rfl⟩:=c;exact SeqAt.EqAt.bool_int a b t
  | str b=>obtain ⟨t,rfl⟩:=c;exact SeqAt.EqAt.bool_str a b t
  | _=>exact absurd (show false=true from fx) Gw
 | int a =>
  obtain ⟨t',rfl⟩:=d
  cases x with
  | non=>cases c;exact SeqAt.EqAt.int_none a t'
  | bl b=>cases c;exact SeqAt.EqAt.int_bool a t' b
  | int b=>obtain ⟨t,rfl⟩:=c;exact SeqAt.EqAt.int_int a t' b t
  | str b=>obtain ⟨t,rfl⟩:=c;exact SeqAt.EqAt.int_str a t' b t
  | _=>exact absurd (show false=true from fx) Gw
 | str a =>
  obtain ⟨t',rfl⟩:=d
  cases x with
  | non=>cases c;exact SeqAt.EqAt.str_none a t'
  | bl b=>cases c;exact SeqAt.EqAt.str_bool a t' b
  | int b=>obtain ⟨t,rfl⟩:=c;exact SeqAt.EqAt.str_int a t' b t
  | str b=>obtain ⟨t,rfl⟩:=c;exact SeqAt.EqAt.str_str a t' b t
  | _=>exact absurd (show false=true from fx) Gw
 | _=>exact absurd (show false=true from e) Gw
def eqU (x:V) (u:Value):Bool:=match u with
 | .none=>eqV .non x
 | .bool b=>eqV (.bl b) x
 | .int i _=>eqV (.int i) x
 | .str z _=>eqV (.str z) x
 | _=>false
theorem p6 (r:RelV y u) (f:gu y=true):eqU x u=eqV y x:=by
 cases y with
 | non=>cases r;rfl
 | bl b=>cases r;rfl
 | int i=>obtain ⟨t,rfl⟩:=r;rfl
 | str z=>obtain ⟨t,rfl⟩:=r;rfl
 | _=>exact absurd (show false=true from f) Gw
theorem mw (a:RelV x v) (fx:gu x=true):∀ {xs:List V} {us:List Value},Vals xs us->xs.all gu=true->∀ u ∈ us,SeqAt.EqAt A s u v (eqU x u)
 | _,_,.nil,_=>fun u hu=>by cases hu
 | y :: xs,u :: us,.cons r t,f=>fun b hu=>by
  rw [List.all_cons,Bool.and_eq_true] at f
  rcases Gh.mp hu with rfl | hu
  ·rw [p6 r f.1];exact FL r a f.1 fx
  ·exact mw a fx t f.2 b hu
theorem qe:CallR X (.builtin "len") (fun xs H Q=>∃ p ys,xs=[.ref p]/\(SqL X.K H p ys\/SqT X.K H p ys)/\Q (.int ys.length) H):=by
 intro pins s σ H xs us Q I r h
 obtain ⟨p,ys,rfl,a,q⟩:=h
 obtain ⟨u,rfl,c⟩:=eY r
 cases c
 have d:=pO
 rcases a with a | a
 ·obtain ⟨its,b,pl,hz⟩:=I.list a
  have hlen:=b.length
  exact Calls.call_len_list pl.isList (by simp only [Gy] <;> omega) ⟨.int ys.length,H,I.tok _,⟨s.toks+1,by rw [Gy,hlen]⟩,q⟩
 ·obtain ⟨its,b,pl,hz⟩:=I.tuple a
  have hlen:=b.length
  exact len_tuple pl (by simp only [Gy] <;> omega) ⟨.int ys.length,H,I.tok _,⟨s.toks+1,by rw [Gy,hlen]⟩,q⟩
theorem CallR.or (h:CallR X f r) (h':CallR X f r'):CallR X f (fun xs H Q=>r xs H Q\/r' xs H Q):=by
 intro pins s σ H xs us Q I rs q
 rcases q with q | q
 ·exact h pins s σ H xs us Q I rs q
 ·exact h' pins s σ H xs us Q I rs q
theorem qd:CallR X (.type "list") (fun xs H Q=>∃ p ys,xs=[.ref p]/\(SqL X.K H p ys\/SqT X.K H p ys)/\∀ l,H l=none->Q (.ref l) (upd H l (.lst ys))):=by
 intro pins s σ H xs us Q I r h
 obtain ⟨p,ys,rfl,d,q⟩:=h
 obtain ⟨u,rfl,i⟩:=eY r
 cases i
 have fin:∀ (its:List Value),Vals ys its->ys.length<=sizeLine->∀ (h':Heap) (c:Nat),(∀ b o',s.heap.get? b=some o'->h'.get? b=some o') ->
   h'.get? s.heap.objs.size=some { cls:=.type "list",dict:=none,data:=.seq its.toArray c,slots:=#[] }->EP X pins σ Q (.ref s.heap.objs.size) { s with heap:=h' }:=fun its a hz h' c kp e =>
  ⟨.ref s.heap.objs.size,_,I.laid (t':=s.toks) kp (Gv _) (show ObjOk X.prog X.w _ h' _ (.lst ys) from ⟨hz,its,c,a,e⟩),rfl,q _ (I.hok.fresh (Gv _))⟩
 rcases d with d | d
 ·obtain ⟨its,a,pl,hz⟩:=I.list d
  have hlen:=a.length
  obtain ⟨o,f,g,n,hd⟩:=pl.isList
  exact call_list_seq p (.inl rfl) f g hd (fun h' c kp e=>fin its a hz h' c kp e) (by simp only [Gy] <;> omega)
 ·obtain ⟨its,a,pl,hz⟩:=I.tuple d
  have hlen:=a.length
  obtain ⟨o,f,g,n,hd⟩:=pl
  exact call_list_seq p (.inr rfl) f g hd (fun h' c kp e=>fin its a hz h' c kp e) (by simp only [Gy] <;> omega)
theorem nB:CallR X (.type "tuple") (fun xs H Q=>∃ p ys,xs=[.ref p]/\((SqL X.K H p ys/\∀ l,H l=none->Q (.ref l) (upd H l (.tup ys)))\/(SqT X.K H p ys/\Q (.ref p) H))):=by
 intro pins s σ H xs us Q I r h
 obtain ⟨p,ys,rfl,h⟩:=h
 obtain ⟨u,rfl,g⟩:=eY r
 cases g
 rcases h with ⟨c,q⟩ | ⟨c,q⟩
 ·obtain ⟨its,a,pl,hz⟩:=I.list c
  have hlen:=a.length
  refine call_tuple_list pl.isList (fun h' kp=>?_) (by simp only [Gy] <;> omega)
  have d:Inv X pins σ H { s with heap:=h' }:=I.kept (t':=s.toks) kp
  have f:Inv X pins σ (upd H h'.objs.size (.tup ys)) { s with heap:=h'.push { cls:=.type "tuple",data:=.seq its.toArray } } :=
   d.laid (t':=s.toks) (fun b o e=>Gd _ e) (Gv _) (show ObjOk X.prog X.w _ _ _ (.tup ys) from ⟨hz,its,a,IsTupD.new _ _⟩)
  exact ⟨.ref h'.objs.size,_,f,rfl,q _ (d.hok.fresh (Gv _))⟩
 ·obtain ⟨its,a,pl,hz⟩:=I.tuple c
  exact call_tuple_same pl ⟨.ref p,H,I,rfl,q⟩
def tyV (K:FG) (T:String) (x:V) (H:Hp):Prop:=match x with
 | .str _=>T = "str"
 | .int _=>T = "int"
 | .ref p=>(T = "list"/\∃ xs,SqL K H p xs)\/(T = "tuple"/\((∃ o,K.lookup p=some o/\o.cls=.type "tuple"/\o.dict=none)\/∃ xs,H p=some (.tup xs))) \/
   (T = "dict"/\((∃ kvs,H p=some (.dK kvs))\/∃ kvs,H p=some (.dT kvs)))\/(T = "set"/\∃ S n,H p=some (.set S n))
 | _=>False
theorem DE (I:Inv X pins σ H s) (r:RelV x v) (ty:tyV X.K T x H) :
  s.TypeIs v T/\∀ a,v=.ref a->∃ ob,s.heap.get? a=some ob/\ob.dict=none:=by
 cases x with
 | str z =>
  obtain ⟨t,rfl⟩:=r
  cases (show T = "str" from ty)
  exact ⟨typeIs_str s z t,fun _ e=>nomatch e⟩
 | int i =>
  obtain ⟨t,rfl⟩:=r
  cases (show T = "int" from ty)
  exact ⟨typeIs_int s i t,fun _ e=>nomatch e⟩
 | ref p =>
  cases r
  rcases ty with ⟨rfl,xs,g⟩ | ⟨rfl,⟨o,b,j,hd⟩ | ⟨xs,h⟩⟩ | ⟨rfl,b⟩ | ⟨rfl,S,n,b⟩
  ·obtain ⟨its,_,pl,_⟩:=I.list g
   refine ⟨pl.isList.typeIs,fun a e=>?_⟩
   cases e
   obtain ⟨o,n,e,c,hd,_⟩:=pl
   exact ⟨o,e,hd⟩
  ·refine ⟨⟨o,I.kIn p o b,j⟩,fun a e=>?_⟩
   cases e
   exact ⟨o,I.kIn _ o b,hd⟩
  ·obtain ⟨_,its,_,o,e,c,n,d⟩:=I.hok p _ h
   refine ⟨⟨o,e,c⟩,fun a f=>?_⟩
   cases f
   exact ⟨o,e,congrArg Prod.snd d⟩
  ·have z:∃ o,s.heap.get? p=some o/\o.ExactDict:=by
    rcases b with ⟨kvs,b⟩ | ⟨kvs,b⟩
    ·obtain ⟨_,_,_,_,o,_,_,e,ex,_⟩:=I.hok p _ b
     exact ⟨o,e,ex⟩
    ·obtain ⟨_,_,_,_,o,_,_,e,ex,_⟩:=I.hok p _ b
     exact ⟨o,e,ex⟩
   obtain ⟨o,e,ex⟩:=z
   refine ⟨⟨o,e,ex.1⟩,fun a f=>?_⟩
   cases f
   exact ⟨o,e,ex.2.1⟩
  ·obtain ⟨o,_,_,_,e,ex,_⟩:=I.hok p _ b
   refine ⟨⟨o,e,ex.1⟩,fun a f=>?_⟩
   cases f
   exact ⟨o,e,ex.2.1⟩
 | _=>exact False.elim ty
def tBM (K:FG) (T:String) (r:V->List V->Hp->VK->Prop) (to:TE) (t:TA):TE:=fun σ H Q=>to σ H fun x H1=>tyV K T x H1/\t σ H1 fun xs H2=>r x xs H2 Q
variable {o e:Expr} {es:List Expr} {to:TE} {t:TA} {name:Str} {apos cpos:Pos} {T id:String} {r:V->List V->Hp->VK->Prop}
theorem Di (k:PlainAttrs T) (slot:Slot T name id) (f:typeOf (.builtin id)=pure (.type "method_descriptor")) (hm:MtR X id r) (q:PE X o to) (l:PA X (e :: es) t)
  (b:attributeBase o name X.env (eval o X.env)=eval o X.env:=by rfl)
  (d:((backTo cpos (starEach (e :: es) X.env)).all (fun x=>!x.1) && (backToKw cpos (keywordEach [] X.env)).all (fun x=>x.1.isSome)
   && decide ((e :: es).length+([]:List Keyword).length+(if ([]:List Keyword).isEmpty then 0 else 1) < 30))=true:=by rfl)
  (c:(apos.endLine == cpos.line)=true:=by rfl) (y:starEach (e :: es) X.env=(false,eval e X.env) :: starEach es X.env:=by rfl) (a:(backTo cpos (starEach es X.env)).any (·.1)=false:=by rfl) :
  PE X (.Call (.Attribute o name apos) (e :: es) [] cpos) (tBM X.K T r to t):=by
 intro pins s σ H Q I h
 refine wpAny_Call_method_late b d c rfl (thn (q pins s σ H _ I h) fun v s1 ⟨x,H1,g,j,ty,n⟩=>?_)
 obtain ⟨h1,h2⟩:=DE g j ty
 refine ⟨T,id,k,slot,f,h1,h2,?_⟩
 have i:=l cpos pins s1 σ H1 _ g n
 rw [y] at i ⊢
 refine Calls.callWith_builtin (by show (false || (backTo cpos (starEach es X.env)).any (·.1))=false;rw [a] <;> rfl) (Calls.evalArgs_plain ?_)
 exact thn i fun us s2 ⟨w,H2,m,u,p⟩=>hm pins s2 σ H2 x w v us Q m j u p
end
end L2
namespace L2
open PySem PySem.Spec PyProof.Rows
def MtM (X:Cx) (id:String) (r:V->List V->Hp->VK->Prop):Prop :=
 ∀ (pins:List (Addr × Obj)) (s:Shared) (σ:St) (H:Hp) (x:V) (xs:List V) (v:Value) (us:List Value) (Q:VK),Inv X pins σ H s->RelV x v->Vals xs us->r x xs H Q ->
  wpAny (model X.prog X.w) X.A (call (.builtin id) (v :: us)) (EP X pins σ Q) X.xe s
theorem Vals.one:∀ {x:V} {us:List Value},Vals [x] us->∃ u,us=[u]/\RelV x u
 | _,_,.cons r .nil=>⟨_,rfl,r⟩
theorem Vals.eraseIdx:∀ {xs:List V} {us:List Value} (i:Nat),Vals xs us->Vals (xs.eraseIdx i) (us.eraseIdx i)
 | _,_,_,.nil=>.nil
 | _,_,0,.cons _ t=>t
 | _,_,i+1,.cons r t=>.cons r (Vals.eraseIdx i t)
theorem Vals.rep (h:Vals xs us):∀ k:Nat,Vals (List.replicate k xs).flatten (List.replicate k us).flatten
 | 0=>.nil
 | k+1=>by
  rw [List.replicate_succ,List.replicate_succ,List.flatten_cons,List.flatten_cons]
  exact Vals.append h (Vals.rep h k)
theorem oK {α:Type}:∀ (l:List α) (i:Nat),(l.eraseIdx i).length<=l.length
 | [],_=>Gv _
 | _ :: _,0=>Nat.le_succ _
 | _ :: r,i+1=>Nat.succ_le_succ (oK r i)
section
variable {X:Cx} {pins:List (Addr × Obj)} {σ:St} {H:Hp} {s:Shared} {l b:Addr} {xs ys zs:List V}
theorem Inv.lset {its its':List Value} {n:Nat} {t':Nat} (I:Inv X pins σ H s) (a:H l=some (.lst xs)) (e:s.heap.get? l=some { cls:=.type "list",data:=.seq its.toArray n }) (hf:f its.toArray=its'.toArray) (b:Vals ys its') (hz:ys.length<=sizeLine) :
  Inv X pins σ (upd H l (.lst ys)) { s with heap:=s.heap.update l (Obj.mapSeq f),toks:=t' }:=by
 have q:=PySem.IsL.update e f
 rw [hf] at q
 refine I.write (x:=l) (e:=l) (by rw [a];exact trivial) (.inl rfl) (fun d u c hu=>(GN s.heap (Obj.mapSeq f) (Ne.symm c)).trans hu) ⟨_,q⟩ ?_
 exact ⟨hz,its',_,b,q⟩
theorem Inv.lnew {t':Nat} (I:Inv X pins σ H s) (a:Vals ys its) (hz:ys.length<=sizeLine) :
  Inv X pins σ (upd H s.heap.objs.size (.lst ys)) { s with heap:=s.heap.push { cls:=.type "list",data:=.seq its.toArray },toks:=t' } :=
 I.laid (fun _ _ q=>Gd _ q) (Gv _) ⟨hz,its,0,a,Gn _ rfl⟩
theorem Inv.fresh (I:Inv X pins σ H s):H s.heap.objs.size=none:=I.hok.fresh (Gv _)
theorem Inv.lstM (I:Inv X pins σ H s) (a:H l=some (.lst xs)):xs.length<=sizeLine/\∃ (its:List Value) (n:Nat),Vals xs its/\xs.length=its.length/\s.heap.get? l=some { cls:=.type "list",data:=.seq its.toArray n }:=by
 obtain ⟨z,its,n,r,e⟩:=I.hok l _ a
 exact ⟨z,its,n,r,r.length,e⟩
theorem zL {n:Nat} (h:n<=sizeLine):Builtin.List.listTooLong n=false:=by
 unfold Builtin.List.listTooLong
 exact GB (by omega)
end
section
variable {X:Cx}
def vm:V->List V->Hp->VK->Prop:=fun x a H Q=>∃ l xs y,x=.ref l/\a=[y]/\H l=some (.lst xs)/\xs.length < sizeLine/\Q .non (upd H l (.lst (xs ++ [y])))
theorem wV:MtM X "list.append" vm:=by
 intro pins s σ H x g v us Q I c d h
 obtain ⟨l,xs,y,rfl,rfl,a,hz,q⟩:=h
 cases c
 obtain ⟨u,rfl,b⟩:=d.one
 obtain ⟨z,its,n,r,f,e⟩:=I.lstM a
 refine call_meets F.slot_list_append ⟨_,e,rfl⟩ F.entry_list_append (F.args_list_append_2 _ _) (PySem.list_append l its.toArray n u (by rw [Gy];omega)) ⟨e,?_⟩
 refine ⟨.non,_,I.lset (its':=its ++ [u]) a e (by simp) (r.append (.cons b .nil)) ?_,rfl,q⟩
 rw [GF,List.length_singleton]
 omega
def vh:V->List V->Hp->VK->Prop:=fun x a H Q=>∃ l b xs zs,x=.ref l/\a=[.ref b]/\H l=some (.lst xs)/\H b=some (.lst zs)/\xs.length+zs.length<=sizeLine/\Q .non (upd H l (.lst (xs ++ zs)))
theorem wT:MtM X "list.extend" vh:=by
 intro pins s σ H x y v us Q I j m h
 obtain ⟨l,b,xs,zs,rfl,rfl,d,k,hz,q⟩:=h
 cases j
 obtain ⟨u,rfl,f⟩:=m.one
 cases f
 obtain ⟨z,its,n,r,w,e⟩:=I.lstM d
 obtain ⟨t,a,g,o,p,i⟩:=I.lstM k
 have hsz:its.toArray.size+a.toArray.size<=sizeLine:=by rw [Gy,Gy];omega
 have c:¬ (!its.toArray.isEmpty && Builtin.List.listTooLong (its.toArray.size+a.toArray.size))=true:=by
  rw [zL hsz,Bool.and_false]
  exact Gw
 refine call_meets F.slot_list_extend ⟨_,e,rfl⟩ F.entry_list_extend (F.args_list_extend_2 _ _)
  (AutoSeq1.list_extend_list_list_0 l its.toArray n b a.toArray g c (by rw [Gy];omega) (by omega)) ⟨e,i,?_⟩
 refine ⟨.non,_,I.lset (its':=its ++ a) d e (by simp) (r.append o) ?_,rfl,q⟩
 rw [GF]
 omega
def zg:V->List V->Hp->VK->Prop:=fun x a H Q=>∃ l xs i k y,x=.ref l/\a=[.int i]/\H l=some (.lst xs)/\-(2 ^ 63)<=i/\i < 2 ^ 63/\seqIndex? i xs.length=some k/\xs[k]?=some y/\Q y (upd H l (.lst (xs.eraseIdx k)))
theorem zP:MtM X "list.pop" zg:=by
 intro pins s σ H x o v us Q I f g h
 obtain ⟨l,xs,i,k,y,rfl,rfl,b,h1,h2,m,j,q⟩:=h
 cases f
 obtain ⟨u,rfl,c⟩:=g.one
 obtain ⟨t,rfl⟩:=c
 obtain ⟨z,its,n,r,d,e⟩:=I.lstM b
 obtain ⟨w,hw,a⟩:=r.get j
 refine call_meets F.slot_list_pop ⟨_,e,rfl⟩ F.entry_list_pop (F.args_list_pop_2 _ _)
  (MeetsSeq.list_pop_at l its.toArray n i t k w (fitsIndex_both h1 h2) (by rw [Gy,<- d];exact m) (by rw [<- Array.getElem?_toList];exact hw) (by rw [Gy];omega)) ⟨e,?_⟩
 refine ⟨y,_,I.lset (its':=its.eraseIdx k) b e ?_ (r.eraseIdx k) ?_,a,q⟩
 ·grind
 ·have:=oK xs k
  omega
def BS:R2:=fun x y H Q=>∃ l b xs zs,x=.ref l/\y=.ref b/\H l=some (.lst xs)/\H b=some (.lst zs)/\xs.length+zs.length<=sizeLine/\∀ p,H p=none->Q (.ref p) (upd H p (.lst (xs ++ zs)))
theorem E7:OpR X (binaryOp .Add) BS:=by
 intro pins s σ H x y v u Q I g c h
 obtain ⟨l,b,xs,zs,rfl,rfl,d,j,hz,q⟩:=h
 cases g
 cases c
 obtain ⟨z,its,n,r,t,e⟩:=I.lstM d
 obtain ⟨o,a,p,k,m,f⟩:=I.lstM j
 refine PySem.P.add_list e f ?_ (by rw [Gy,Gy];omega)
 have i:its.toArray ++ a.toArray=(its ++ a).toArray:=by simp
 rw [i]
 exact ⟨.ref _,_,I.lnew (t':=s.toks) (r.append k) (by rw [GF];omega),rfl,q _ I.fresh⟩
end
end L2
namespace Att
open PySem PySem.W PySem.Calls PyProof.Rows
theorem lh:∀ (ns:List Int) (c:List Value),WellAll P h c (ns.map WData.int)->IntsAre c ns:=by
 intro ns
 induction ns with
 | nil =>
  intro c w
  rw [List.map_nil] at w
  cases w
  exact .nil
 | cons n ns ih =>
  intro c w
  rw [Gz] at w
  cases w with
  | cons a b =>
   cases a
   exact .cons _ _ (ih _ b)
theorem wy {l:OpenLaw} {n:Nat} (j:l.most=some n) (b:l.row.toRowW.claim.pre args=true) (f:WellAll P h vals args) :
  ∃ a g ns,vals=[Value.ref a]/\args=[WData.list (ns.map WData.int)]/\h.get? a=some { cls:=.type "list",data:=.seq g.toArray }/\IntsAre g ns/\ns.length<=n:=by
 have e:WShape.hasAll [] args [.list .int]=true:=(pre_splitW b).1
 have i:l.pre.holds [] { args:=args }=true:=(pre_splitW b).2
 obtain ⟨d,r,rfl,h1,h2⟩:=hasAllW_cons e
 obtain rfl:=hasAllW_nil h2
 obtain ⟨xs,rfl,h3⟩:=hasW_list h1
 obtain ⟨ns,rfl⟩:=items_int h3
 have hlen:ns.length<=n:=by
  unfold OpenLaw.pre at i
  have c:(WTm.not (.lt (.lit (.int (n:Int))) (.len (.arg 0)))).holds [] { args:=[.list (ns.map .int)] }=true:=by
   have c:=(holds_andW i).1
   rw [j] at c
   exact c
  have k:=condW_of c (w_not (w_lt w_lit (w_len_list (w_arg rfl))))
  grind
 cases f with
 | cons w1 w2 =>
  cases w2
  cases w1 with
  | list ho hall=>exact ⟨_,_,ns,rfl,rfl,ho,lh ns _ hall,hlen⟩
theorem wL (l:OpenLaw) (args:List WData):l.row.toRowW.claim.post args (.bool true) args=true :=
 postW_of (r:=l.row.toRowW) (X:=(true == true))
  (show WShape.has [] (.bool true) .bool=true by first | rfl | decide | simp [WShape.has,WShape.arms,WShape.armsAll])
  (show (WTm.eq .res (.lit (.bool true))).value [] { args:=args,res:=some (.bool true),after:=args }=some (.bool (true == true)) from w_eq_bool (w_res rfl) w_lit) rfl
theorem attach_call {l:OpenLaw} {n:Nat} (u:l.most=some n) (i:d.params.defaults=[]) (call:∀ (w:World) (s₀ b:Shared) (mg mb:Str->Option Value) (g:Addr) (o:Obj) (pm cd doc:Value) (a:Addr) (c:List Value) (ns:List Int),
   Ground q loose [] XP w s₀ mg mb b.heap->YP w b.heap ->
   b.heap.get? g=some o->o.data=.func (docDef d.name d.params d.body d.scope pm cd doc)->b.heap.CodeRec cd d.name->mg d.name=some (.ref g) ->
   b.heap.get? a=some { cls:=.type "list",data:=.seq c.toArray }->IntsAre c ns->ns.length<=n->b.gens = #[] ->
   codeAny (model l.prog w) callerA (.call (.ref g) ⟨[.ref a],[]⟩) (fun r s'=>r=.ok (.ret (.bool true))/\OldK b.heap s'.heap/\s'.os=b.os/\AllBare s'.gens) b) :
  WalkO q loose XP YP l.row.toRowW d [] (fun f c=>PySem.call f c):=by
 intro w s₀ b mg mb G Y g o pm cd doc y kV B hd m s j t args vals as h p z k x
 obtain rfl:y=.none:=Dflts.none s i
 obtain rfl:kV=.none:=Dflts.noKw s
 obtain ⟨a,c,ns,rfl,rfl,e,hints,hlen⟩:=wy u h k
 refine enter_call (codeAny_mono (call w s₀ b mg mb g o pm cd doc a c ns G Y B (fd_plain hd) m j e hints hlen t) fun r s' v=>?_)
 obtain ⟨rfl,h2,h3,A⟩:=v
 exact ⟨.inl ⟨.bool true,.bool true,[],rfl,fun _=>rfl,.bool true,wL l _,fun _=>⟨List.Pairwise.nil,fun _ hm=>(nomatch hm)⟩⟩,h2,h3,A⟩
end Att
namespace L2
open PySem PySem.Spec PyProof.Rows
theorem nN:∀ {a:List Value} {ns:List Int},IntsAre a ns->Vals (ns.map V.int) a
 | _,_,.nil=>.nil
 | _,_,.cons n t h=>.cons ⟨t,rfl⟩ (nN h)
def C4 (H:Hp):Prop:=∀ b,H b=none\/∃ o xs,H b=some (.frz o (.lst xs))
theorem z5 {K:FG} {k:Nat} (N:K.In s₁.heap) (y:s₁.heap.Ns mainGlobals mg) (f:s₁.heap.Ns builtinsNs mb) (C:∀ x:Str,x ≠ "__name__"->mb x=bootBuiltins x) (t:s₁.heap.NoLimit) (T:s₁.gens = #[]) (B:s₁.heap.get? a=some { cls:=.type "list",data:=.seq vs.toArray }) (hi:IntsAre vs ns) (O:ns.length<=sizeLine) (hr:Room k callerA) (F:∀ base:Heap,K.In base->base.Ns mainGlobals mg->FnOk P w K mg base CX k fa fd [x] sp) (i:∀ (s:Shared) (u:Value),BindsTo s fd ⟨[u],[]⟩ [(x,u)]) (D:∀ H:Hp,C4 H->SqL K H a (ns.map V.int)->sp [.ref a] H (fun v _=>v=.bl true) fun _ _ _=>False) (I:∀ H e s',CX [] H s₁ (fun _ _ _=>False) e s'->False) :
  codeAny (model P w) callerA (.call (.ref fa) ⟨[.ref a],[]⟩) (fun r s'=>r=.ok (.ret (.bool true))/\OldK s₁.heap s'.heap/\s'.os=s₁.os/\AllBare s'.gens) s₁:=by
 have Q:=nN hi
 have lenV:=hi.length
 have core:∀ H:Hp,C4 H->SqL K H a (ns.map V.int)->HOk P w H s₁.heap->(∀ b,H b ≠ none->b=a)->(H a ≠ none->K.lookup a=none) ->
   codeAny (model P w) callerA (.call (.ref fa) ⟨[.ref a],[]⟩) (fun r s'=>r=.ok (.ret (.bool true))/\OldK s₁.heap s'.heap/\s'.os=s₁.os/\AllBare s'.gens) s₁:=by
  intro H L hS hok M Z
  have c:∀ {b:Addr} {o:Obj},s₁.heap.get? b=some o->H b=none->(pY s₁.heap H).get? b=some o:=fun e n=>Ah e n
  have G:∀ {b:Addr} {o:Obj} {es:Array DictEntry} {A:Nat},s₁.heap.get? b=some o->o.data=.dict es A->H b=none:=fun {b o es A} e d=>by
   cases q:H b with
   | none=>rfl
   | some u =>
    have E:b=a:=M b (by rw [q];simp)
    subst E
    rw [B] at e;cases e
    have d':Data.seq vs.toArray _=Data.dict es A:=d
    cases d'
  have g:∀ {b:Addr} {m:Str->Option Value},s₁.heap.Ns b m->(pY s₁.heap H).Ns b m:=fun {b m} ⟨o,es,A,e,d,r⟩=>⟨o,es,A,c e (G e d),d,r⟩
  have p:K.In (pY s₁.heap H):=fun b o e=>c (N b o e) (by
   cases q:H b with
   | none=>rfl
   | some u =>
    have E:b=a:=M b (by rw [q];simp)
    subst E
    rw [Z (by rw [q];simp)] at e;cases e)
  have U:Mod K mg (pY s₁.heap H):=⟨p,g y,⟨mb,g f,C⟩,let ⟨mc,h1,h2⟩:=t;⟨mc,g h1,h2⟩⟩
  have S:Env0 P w K mg (pY s₁.heap H) callerA [] s₁ H:=⟨rfl,U,fun b o e=>Ce e,Nat.le_of_eq (xq _ _),trivial,fun b f=>absurd (show b ∈ ([]:List Addr) from f) (by simp),hok,.of_eq T⟩
  refine codeAny_mono ((F _ p (g y)).run callerA [] s₁ H ⟨[.ref a],[]⟩ [.ref a] [.ref a] _ _ hr S (i s₁ (.ref a)) (.cons rfl .nil) (D H L hS)) fun r s' h=>?_
  cases r with
  | error e=>exact (I H e s' h).elim
  | ok fl =>
   cases fl with
   | next=>exact False.elim h
   | brk=>exact False.elim h
   | cont=>exact False.elim h
   | ret u =>
    obtain ⟨v,H',os,bare,un,j,R,q⟩:=h
    have X:v=.bl true:=q
    subst X
    obtain rfl:u=Value.bool true:=R
    refine ⟨rfl,OldK.of_keep fun b o e=>?_,os,bare⟩
    cases q:H b with
    | none=>exact un.keep b o e q (by intro z;exact absurd (show b ∈ ([]:List Addr) from z) (by simp)) (by simp)
    | some u =>
     rcases L b with z | ⟨ob,xs,z⟩
     ·rw [q] at z;cases z
     ·have W:=un.frzs b ob _ z
      obtain ⟨e1,_⟩:=hok b _ z
      obtain ⟨Y,_⟩:=j b _ W
      rw [e] at e1;cases e1
      exact Y
 cases J:K.lookup a with
 | some o =>
  have e:=N a o J
  rw [B] at e
  cases e
  refine core (fun _=>none) (fun _=>.inl rfl) (.inr ⟨_,vs.toArray,_,J,rfl,rfl,rfl,by rw [Gy,lenV];exact O,by simpa using Q⟩) (fun b u z=>by have l:(none:Option HO)=some u:=z;cases l) (fun b z=>absurd rfl z) fun z=>absurd rfl z
 | none =>
  refine core (fun b=>if b=a then some (.frz { cls:=.type "list",data:=.seq vs.toArray } (.lst (ns.map V.int))) else none) (fun b=>?_) (.inl (.inr ⟨{ cls:=.type "list",data:=.seq vs.toArray },if_pos rfl⟩)) (fun b u z=>?_) (fun b z=>?_) fun _=>J
  ·by_cases f:b=a
   ·exact .inr ⟨_,_,if_pos f⟩
   ·exact .inl (if_neg f)
  ·by_cases f:b=a
   ·have l:=(if_pos f).symm.trans z
    cases l
    subst f
    exact ⟨B,by rw [Go];exact O,vs,_,Q,B⟩
   ·have l:=(if_neg f).symm.trans z
    cases l
  ·by_cases f:b=a
   ·exact f
   ·exact absurd (if_neg f) z
end L2
namespace L2
open PySem PySem.Spec PyProof.Rows
end L2
namespace L2
open PySem PySem.Spec PyProof.Rows
abbrev CX0:CXT:=fun _ _ _ _ _ _=>False
abbrev E0:XK:=fun _ _ _=>False
theorem pass0:uN CX0 X E0:=fun _ _ _ _ _ _ _ h=>h.elim
structure Fun (K:FG) (x qual:Str) (st:Stmt) (f:Addr) (fd:FuncData):Prop where
 ex:∃ (oc:Value) (od:Option Addr) (kV doc pm:Value) (an:Option Addr) (cdv ct:Value) (osl:Array (Option Value)),
  fd=PySem.W.fnOf x qual (aQ st) (aE st) (ad st) .none kV doc pm an cdv ct/\K.lookup f=some ⟨oc,od,.func fd,osl⟩/\PySem.W.codeIn K cdv qual=true
 kp:PySem.W.keepIn K (.ref f)=true
section
variable {P:Program} {w:World} {K:FG} {mg:Str->Option Value} {base:Heap}
theorem Fun.ok {st:Stmt} {k:Nat} (F:Fun K x qual st f fd) (S:FnScope N ps (ad st)) (len:∀ c H Q E,sp c H Q E->c.length=ps.length) (b:∀ (a:Value) (A:Around) (outer:List Env) (s:Shared) (H:Hp) (c:List V) (Q:VK) (E:XK),Room k (A.deeper (envOfC qual (ad st) s.heap.objs.size f a))->sp c H Q E ->
   ∃ t,PSs (d8 CX0 P w K mg base N qual (ad st) f a A outer s H E).nox (aE st) t/\t { nx:=fun _ H'=>Q .non H',rt:=Q } (gh N c) H):FnOk P w K mg base CX0 (k+1) f fd ps sp:=by
 obtain ⟨l,m,kV,doc,pm,an,a,ct,i,rfl,j,e⟩:=F.ex
 refine Du j e S len fun A outer s H c Q E g d=>?_
 obtain ⟨t,h,q⟩:=b a A outer s H c Q E g d
 exact ⟨t,h.nox,q⟩
theorem Fun.binds {st:Stmt} (F:Fun K x qual st f fd) (h:∀ (kV doc pm:Value) (an:Option Addr) (a ct:Value) (us:List Value),us.length=ps.length->bindArgs (PySem.W.fnOf x qual (aQ st) (aE st) (ad st) .none kV doc pm an a ct) ⟨us,[]⟩=pure (ps.zip us)):Binds K fd ps []:=by
 obtain ⟨d,e,kV,doc,pm,an,a,ct,c,rfl,g,b⟩:=F.ex
 exact .all (h kV doc pm an a ct)
theorem FH {st:Stmt} {kV doc pm a ct:Value} (l:K.lookup f=some ⟨oc,od,.func (PySem.W.fnOf x qual (aQ st) (aE st) (ad st) .none kV doc pm an a ct),osl⟩) (c:PySem.W.codeIn K a qual=true) (k:PySem.W.keepIn K (.ref f)=true):Fun K x qual st f (PySem.W.fnOf x qual (aQ st) (aE st) (ad st) .none kV doc pm an a ct):=⟨⟨oc,od,kV,doc,pm,an,a,ct,osl,rfl,l,c⟩,k⟩
end
theorem hu_of {k:Nat} (a:Room k A):A.units+1 < cLine:=Nat.lt_of_le_of_lt (Nat.add_le_add_left (by decide:1<=64) _) a.units
theorem wu {n:Nat} (h:n<=1000):n < sizeLine:=Nat.lt_of_le_of_lt h (by decide)
def Same (H H':Hp):Prop:=∀ b o,H b=some o->H' b=some o
theorem Same.refl (H:Hp):Same H H:=fun _ _ h=>h
theorem Same.trans (a:Same H H1) (b:Same H1 H2):Same H H2:=fun c o h=>b c o (a c o h)
theorem Same.free (e:Same H H') (h:H' l=Option.none):H l=Option.none:=by
 cases q:H l with
 | none=>rfl
 | some o =>
  rw [e l o q] at h
  cases h
end L2
end
section
namespace L2
open PySem PySem.Spec PyProof.Rows
section
variable {prog:Program} {w:World} {A:Around} {E:Value->Shared->Prop} {s:Shared}
theorem qF (ty:s.TypeIs (.ref d) "dict") (h:wpAny (model prog w) A.in1 (dictSet d k v) Q E s) :
  wpAny (model prog w) A (setItem (.ref d) k v) Q E s:=by
 unfold setItem
 refine F9 (F7 (wpAny_sequenceKey ty (by decide) (F7 (wpAny_callSpecial?_slot ty slot_dict_setitem (wpAny_call_entry slot_dict_setitem ty entry_dict_setitem ?_ (args_dict_setitem _ _ _))))))
 refine F7 (wpAny_notOrdered_dict ty ?_)
 refine (?_:wpAny _ _ (dictSet d k v >>= _) _ _ s)
 exact F7 (wpAny_mono h (fun _ _ z=>F8 ⟨_,rfl,F8 z⟩) fun _ _ z=>z)
theorem nQ {c:Int} {b:Nat} {F:Option Nat->Prop} (a:s.heap.get? d=some o) (g:o.ExactDict) (hd:o.data=.dict es b) (hz:es.size<=sizeLine) (find:wpAny (model prog w) A (dictFind d key c) (fun r s'=>s'=s/\F r) E s) (old:∀ i h' o',F (some i)->h'.get? d=some o'->o'.ExactDict->o'.data=.dict (es.modify i fun e=>{ e with val:=v }) b->Heap.SameBut d s.heap h'->Q () { s with heap:=h' }) (new:∀ h' o',F none->h'.get? d=some o'->o'.ExactDict->o'.data=.dict (es.push ⟨c,key,v⟩) (b+1)->Heap.SameBut d s.heap h'->Q () { s with heap:=h' }) :
  wpAny (model prog w) A (dictSetHashed d key c v) Q E s:=by
 unfold dictSetHashed
 refine F9 (F7 (wpAny_mono find ?_ fun _ _ z=>z))
 rintro (_ | i) _ ⟨rfl,f⟩
 ·exact F7 (wpAny_rule (wpAny_updateDictKeys (hz:=hz) a hd (new _ _ f (GE _ a (Obj.isFreed_of_dict (Obj.data_mapDictKeys hd _))) (g.mapDictKeys _) (Obj.data_mapDictKeys hd _) (Heap.SameBut.update ..))))
 ·exact F7 (wpAny_rule (F7 (wpAny_updateDict a hd (wpAny_point (old i _ _ f (GE _ a (Obj.isFreed_of_dict (Obj.data_mapDict hd _))) (g.mapDict _) (Obj.data_mapDict hd _) (Heap.SameBut.update ..))))))
end
section
variable {prog:Program} {w:World} {K:Type} [DecidableEq K] {A:Around} {E:Value->Shared->Prop} {s:Shared} {d:Addr} {k:K}
section
variable {knd:HeapKind prog w K}
def DictOfHE (knd:HeapKind prog w K) (h:Heap) (d:Addr) (xs:List (K × Addr × Value)):Prop :=
 ∃ o es a,h.get? d=some o/\o.ExactDict/\o.data=.dict es a/\es.toList=xs.map (entryOfKey knd)/\(∀ x ∈ xs,knd.is h x.1 x.2.1)/\(xs.map (·.1)).Nodup/\a=es.size
theorem DictOfHE.of (x:DictOfHE knd h d xs):h.DictOfH knd d xs:=let ⟨o,es,b,h1,h2,h3,e,a,c,_⟩:=x;⟨o,es,b,h1,h2,h3,e,a,c⟩
theorem wS {y:Addr × Value} (a:(xs.map (·.1)).Nodup) (h:k ∉ xs.map (·.1)):((xs ++ [(k,y)]).map (·.1)).Nodup:=by grind
theorem jg (hu:knd.room A) (b:knd.is s.heap k a) (hm:DictOfHE knd s.heap d xs) (n:∀ h',DictOfHE knd h' d (storedH xs k a v)->Heap.SameBut d s.heap h'->Q () { s with heap:=h',toks:=s.toks+knd.draws k }) (hsz:xs.length<=sizeLine:=by size_fits):wpAny (model prog w) A (dictSet d (.ref a) v) Q E s:=by
 obtain ⟨o,es,t,m,r,hd,he,c,l,rfl⟩:=hm
 unfold dictSet
 refine F9 (F7 (knd.pyHash hu b ?_))
 refine nQ (s:={ s with toks:=s.toks+knd.draws k }) (F:=fun | none=>∀ (j:Nat) (p:Addr × Value),xs[j]? ≠ some (k,p) | some j=>∃ p,xs[j]?=some (k,p)) m r hd (size_of_entries he ▸ hsz)
  (wpAny_dictFind_heap (s:={ s with toks:=s.toks+knd.draws k }) hu b m hd he c l (fun z=>⟨rfl,z⟩) fun j p z=>⟨rfl,p,z⟩) ?_ ?_
 ·rintro i h' o' ⟨p,f⟩ g1 g2 g3 h
  have at':=storedH_old (atKey_of_get l f) a v
  refine n h' ⟨o',_,_,g1,g2,g3,?_,?_,?_,?_⟩ h <;> try rw [at']
  ·rw [Array.toList_modify,he]
   exact modify_map_putAt (entryOfKey knd) _ k v (fun _ _=>rfl) l f
  ·intro x g
   obtain ⟨y,q,rfl⟩:=Gs.mp g
   have:=knd.keeps (c y q) m hd h
   by_cases e:y.1=k <;> simpa [putAt,e] using this
  ·exact (keys_map_putAt xs k v).symm ▸ l
  ·exact (Array.size_modify).symm
 ·intro h' o' f g1 g2 g3 h
  have at':=storedH_new (atKey_none_of_get f) a v
  refine n h' ⟨o',_,_,g1,g2,g3,?_,?_,?_,?_⟩ h <;> try rw [at']
  ·simp [he,entryOfKey]
  ·intro x g
   rcases Gk.mp g with g | g
   ·exact knd.keeps (c x g) m hd h
   ·cases GK.mp g;exact knd.keeps b m hd h
  ·exact wS l (not_mem_keys_of_get f)
  ·simp
theorem nh (hu:knd.room A.in1) (b:knd.is s.heap k a) (hm:DictOfHE knd s.heap d xs) (c:∀ h',DictOfHE knd h' d (storedH xs k a v)->Heap.SameBut d s.heap h'->Q () { s with heap:=h',toks:=s.toks+knd.draws k }) (hsz:xs.length<=sizeLine:=by size_fits):wpAny (model prog w) A (setItem (.ref d) (.ref a) v) Q E s :=
 qF hm.of.typeIs (jg (hsz:=hsz) hu b hm c)
end
section
variable {knd:KeyKind prog w K} {key:Value}
theorem iF (a:knd.is k key=true) (hm:DictOfE knd s.heap d kvs) (h:∀ h',DictOfE knd h' d (stored kvs k v)->Heap.SameBut d s.heap h'->Q () { s with heap:=h',toks:=s.toks+1 }) (hsz:kvs.length<=sizeLine:=by size_fits):wpAny (model prog w) A (dictSet d key v) Q E s:=by
 obtain ⟨o,⟨es⟩,p,l,n,hd,g,b,j,rfl⟩:=hm
 have same:=b.findIdx k
 have hz:(⟨es⟩:Array DictEntry).size<=sizeLine:=by have:=b.length;simp at this ⊢;omega
 unfold dictSet
 refine F9 (F7 (knd.pyHash a ?_))
 refine nQ (s:={ s with toks:=s.toks+1 }) (F:=fun r=>es.findIdx? (fun e=>knd.is k e.key)=r) l n hd hz
  (wpAny_dictFind_of (s:={ s with toks:=s.toks+1 }) a l hd g ⟨rfl,by simp⟩) ?_ ?_
 ·intro i h' o' f g1 g2 g3 c
  have at':stored kvs k v=_:=if_pos (any_of_findIdx_some (same.symm.trans f))
  refine h h' ⟨o',_,_,g1,g2,g3,g.modify _ _,?_,?_,(Array.size_modify).symm⟩ c <;> rw [at']
  ·simpa using b.modify j f v
  ·exact (keys_map_store kvs k v).symm ▸ j
 ·intro h' o' f g1 g2 g3 c
  have no:=not_mem_of_findIdx_none (same.symm.trans f)
  have at':stored kvs k v=_:=if_neg fun z=>by
   obtain ⟨x,m,e⟩:=List.any_eq_true.mp z
   exact no (Gs.mpr ⟨x,m,of_decide_eq_true e⟩)
  refine h h' ⟨o',_,_,g1,g2,g3,g.push a _,?_,?_,by simp⟩ c <;> rw [at']
  ·simpa using b.append a (knd.hash k) v
  ·grind
theorem lR (a:knd.is k key=true) (hm:DictOfE knd s.heap d kvs) (b:∀ h',DictOfE knd h' d (stored kvs k v)->Heap.SameBut d s.heap h'->Q () { s with heap:=h',toks:=s.toks+1 }) (hsz:kvs.length<=sizeLine:=by size_fits):wpAny (model prog w) A (setItem (.ref d) key v) Q E s :=
 qF hm.of.typeIs (iF (hsz:=hsz) a hm b)
end
end
section
variable {κ:Type} [DecidableEq κ]
def k9 (kvs:List (κ × V)) (k:κ):Option V:=(kvs.find? fun a=>decide (a.1=k)).map (·.2)
def fN (kvs:List (κ × V)) (k:κ) (v:V):List (κ × V) :=
 if (kvs.any fun a=>decide (a.1=k))=true then kvs.map (fun a=>if a.1=k then (a.1,v) else a) else kvs ++ [(k,v)]
theorem jv {p:κ × V} {k:κ} (e:p.1=k):k9 (p :: r) k=some p.2:=by simp [k9,List.find?_cons,e]
theorem jw {p:κ × V} {k:κ} (e:¬ p.1=k):k9 (p :: r) k=k9 r k:=by simp [k9,List.find?_cons,e]
theorem qz (k:κ):∀ kvs:List (κ × V),(kvs.any fun a=>decide (a.1=k))=(k9 kvs k).isSome
 | []=>rfl
 | p :: r=>by
  rw [List.any_cons]
  by_cases e:p.1=k
  ·simp only [jv e,GA e,Bool.true_or,Option.isSome_some]
  ·rw [jw e,GB e,Bool.false_or];exact qz k r
theorem kY (kvs:List (κ × V)) (k:κ) (v:V):(fN kvs k v).length<=kvs.length+1:=by
 unfold fN
 split
 ·rw [Go];omega
 ·grind
theorem RelO.isSome_eq (r:RelO o u):o.isSome=u.isSome:=by
 cases o with
 | none=>cases u with
  | none=>rfl
  | some _=>exact (show False from r).elim
 | some _=>cases u with
  | none=>exact (show False from r).elim
  | some _=>rfl
theorem RelO.getD (r:RelO o u) (a:RelV d d'):RelV (o.getD d) (u.getD d'):=by
 cases o with
 | none=>cases u with
  | none=>exact a
  | some _=>exact (show False from r).elim
 | some _=>cases u with
  | none=>exact (show False from r).elim
  | some _=>exact r
theorem KV.val (r:KV kvs vs) (k:κ):RelO (k9 kvs k) (valueAt vs k):=by
 unfold KV at r
 induction r with
 | nil=>exact True.intro
 | @cons p q ps qs h t ih =>
  obtain ⟨h1,h2⟩:=h
  by_cases e:p.1=k
  ·have a:q.1=k:=h1.symm.trans e
   have b:valueAt (q :: qs) k=some q.2:=by simp [valueAt,List.find?_cons,a]
   rw [jv e,b];exact h2
  ·have a:¬ q.1=k:=fun z=>e (h1.trans z)
   have b:valueAt (q :: qs) k=valueAt qs k:=by simp [valueAt,List.find?_cons,a]
   rw [jw e,b];exact ih
theorem KV.any (r:KV kvs vs) (k:κ):(kvs.any fun a=>decide (a.1=k))=vs.any fun a=>decide (a.1=k):=by
 unfold KV at r
 induction r with
 | nil=>rfl
 | cons h t ih=>rw [List.any_cons,List.any_cons,ih,h.1]
theorem KV.repl (r:KV kvs vs) (k:κ) (b:RelV y u) :
  KV (kvs.map fun a=>if a.1=k then (a.1,y) else a) (vs.map fun a=>if a.1=k then (a.1,u) else a):=by
 unfold KV at r ⊢
 induction r with
 | nil=>exact .nil
 | @cons p q ps qs h t ih =>
  rw [Gz,Gz]
  refine .cons ?_ ih
  grind
theorem KV.put (r:KV kvs vs) (k:κ) (a:RelV y u):KV (fN kvs k y) (stored vs k u):=by
 unfold fN stored
 rw [r.any k]
 by_cases e:(vs.any fun b=>decide (b.1=k))=true
 ·rw [if_pos e,if_pos e];exact r.repl k a
 ·rw [if_neg e,if_neg e];exact Paired.snoc r ⟨rfl,a⟩
theorem KV.length {kvs:List (κ × V)} (r:KV kvs vs):kvs.length=vs.length:=Paired.length r
end
theorem vH (r:RelV (kV k) u):(bM P w).is k u=true:=by
 cases k with
 | inl i=>obtain ⟨t,e⟩:=(show ∃ t,u=Value.int i t from r);subst e;exact rF P w i t
 | inr x=>obtain ⟨t,e⟩:=(show ∃ t,u=Value.str x t from r);subst e;exact rE P w x t
theorem oO:∀ {ks:List Key} {us:List Value},Vals (ks.map kV) us->ItemsAre (bM P w) ks us
 | [],_,r=>by rw [List.map_nil] at r;cases r;exact .nil
 | k :: ks,_,r=>by
  rw [Gz] at r
  cases r with
  | cons h t=>exact .cons (vH h) (oO t)
abbrev KT (H:Hp):List (List Key × V)->List (List Key × Addr × Value)->Prop:=Paired fun p q=>p.1=q.1/\H q.2.1=some (.tup (p.1.map kV))/\RelV p.2 q.2.2
theorem KT.val (r:KT H kvs xs) (k:List Key):RelO (k9 kvs k) ((atKey xs k).map (·.2)):=by
 induction r with
 | nil=>exact True.intro
 | @cons p q ps qs h t ih =>
  obtain ⟨h1,_,h2⟩:=h
  by_cases e:p.1=k
  ·have a:q.1=k:=h1.symm.trans e
   have b:atKey (q :: qs) k=some q.2:=by simp [atKey,List.find?_cons,a]
   rw [jv e,b];exact h2
  ·have a:¬ q.1=k:=fun z=>e (h1.trans z)
   have b:atKey (q :: qs) k=atKey qs k:=by simp [atKey,List.find?_cons,a]
   rw [jw e,b];exact ih
theorem KT.repl (r:KT H kvs xs) (k:List Key) (b:RelV y u) :
  KT H (kvs.map fun a=>if a.1=k then (a.1,y) else a) (xs.map (putAt k u)):=by
 induction r with
 | nil=>exact .nil
 | @cons p q ps qs h t ih =>
  rw [Gz,Gz]
  refine .cons ?_ ih
  obtain ⟨h1,h2,h3⟩:=h
  unfold putAt
  grind
theorem KT.put (r:KT H kvs xs) (k:List Key) (c:H b=some (.tup (k.map kV))) (a:RelV y u) :
  KT H (fN kvs k y) (storedH xs k b u):=by
 have e:(kvs.any fun d=>decide (d.1=k))=(atKey xs k).isSome:=by
  rw [qz,(r.val k).isSome_eq,Option.isSome_map]
 unfold fN storedH
 rw [e]
 by_cases q:(atKey xs k).isSome=true
 ·rw [if_pos q,if_pos q];exact r.repl k a
 ·rw [if_neg q,if_neg q];exact Paired.snoc r ⟨rfl,c,a⟩
theorem KT.keeps (r:KT H kvs xs) (a:∀ b ys,H b=some (.tup ys)->H' b=some (.tup ys)):KT H' kvs xs :=
 Paired.mapP r fun _ _ z=>⟨z.1,a _ _ z.2.1,z.2.2⟩
section
variable {P:Program} {w:World} {H:Hp} {h:Heap} {a:Addr}
theorem De (ok:HOk P w H h) (e:Rd H a u):ObjOk P w H h a u:=e.ok ok
theorem uq (ok:HOk P w H h) (e:Rd H a (.dK kvs)):kvs.length<=sizeLine/\(a == sysModules)=false/\∃ b,KV kvs b/\DictOfE (bM P w) h a b :=
 show ObjOk P w H h a (.dK kvs) from De ok e
theorem Dx (ok:HOk P w H h) (e:Rd H a (.dK kvs)):kvs.length<=sizeLine/\(a == sysModules)=false/\∃ b,KV kvs b/\h.DictOf (bM P w) a b:=let ⟨z,y,b,r,d⟩:=uq ok e;⟨z,y,b,r,d.of⟩
theorem pS (ok:HOk P w H h) (e:H a=some (.tup (ks.map kV))):(tupleKind (bM P w)).is h ks a:=by
 obtain ⟨_,its,r,o,h1,h2,n,h3⟩:=(show ObjOk P w H h a (.tup (ks.map kV)) from ok a _ e)
 exact ⟨o,its.toArray,n,h1,h2,congrArg Prod.fst h3,by simpa using oO r⟩
theorem uo (ok:HOk P w H h) (e:Rd H a (.dT kvs)):kvs.length<=sizeLine/\(a == sysModules)=false /\
  ∃ xs,KT H kvs xs/\DictOfHE (tupleKind (bM P w)) h a xs:=by
 obtain ⟨z,y,xs,r,o,es,d,h1,h2,h3,f,c⟩:=(show ObjOk P w H h a (.dT kvs) from De ok e)
 refine ⟨z,y,xs,r,o,es,d,h1,h2,h3,f,fun x b=>?_,c⟩
 have all:∀ {l:List (List Key × V)} {m:List (List Key × Addr × Value)},KT H l m->∀ x ∈ m,(tupleKind (bM P w)).is h x.1 x.2.1:=by
  intro l m q
  induction q with
  | nil=>intro x b;exact nomatch b
  | @cons p q ps qs hq t ih =>
   intro x b
   rcases Gh.mp b with e | b
   ·subst e
    exact pS ok (by rw [<- hq.1];exact hq.2.1)
   ·exact ih x b
 exact all r x b
theorem Dw (ok:HOk P w H h) (e:Rd H a (.dT kvs)):kvs.length<=sizeLine/\(a == sysModules)=false /\
  ∃ xs,KT H kvs xs/\h.DictOfH (tupleKind (bM P w)) a xs:=let ⟨z,y,xs,r,d⟩:=uo ok e;⟨z,y,xs,r,d.of⟩
end
def DGet (H:Hp) (a:Addr) (y:V) (r:Option V):Prop :=
 (∃ kvs k,Rd H a (.dK kvs)/\y=kV k/\r=k9 kvs k)\/∃ kvs k b,Rd H a (.dT kvs)/\y=.ref b/\H b=some (.tup (k.map kV))/\r=k9 kvs k
def DPut (H:Hp) (a:Addr) (y v:V) (H':Hp):Prop :=
 (∃ kvs k,H a=some (.dK kvs)/\y=kV k/\kvs.length < sizeLine/\H'=upd H a (.dK (fN kvs k v))) \/
 ∃ kvs k b,H a=some (.dT kvs)/\y=.ref b/\H b=some (.tup (k.map kV))/\kvs.length < sizeLine/\H'=upd H a (.dT (fN kvs k v))
theorem DGet.t (e:H a=some (.dT kvs)) (c:H b=some (.tup (k.map kV))):DGet H a (.ref b) (k9 kvs k):=.inr ⟨kvs,k,b,.inl e,rfl,c,rfl⟩
theorem DPut.t (e:H a=some (.dT kvs)) (c:H b=some (.tup (k.map kV))) (d:kvs.length < sizeLine) :
  DPut H a (.ref b) v (upd H a (.dT (fN kvs k v))):=.inr ⟨kvs,k,b,e,rfl,c,d,rfl⟩
section
variable {X:Cx} {pins:List (Addr × Obj)} {σ:St} {H:Hp} {s:Shared} {a:Addr} {y v:V} {u r:Value} {o:Option V} {A:Around} {E:Value->Shared->Prop}
theorem Inv.big (I:Inv X pins σ H s):sysModules < s.heap.objs.size:=by
 have h:mainGlobals < s.heap.objs.size:=(I.mod.glob.keeps I.bk).lt
 exact Nat.lt_trans (by decide) h
theorem xD (hu:A.units+1 < cLine) (I:Inv X pins σ H s) (g:DGet H a y (some v)) (j:RelV y u) (h:∀ d s',Inv X pins σ H s'->RelV v d->Q d s') :
  wpAny (model X.prog X.w) A (getItem (.ref a) u) Q E s:=by
 rcases g with ⟨kvs,k,e,f,l⟩ | ⟨kvs,k,b,e,f,m,l⟩
 ·subst f
  obtain ⟨z,hd,q,rel,dd⟩:=Dx I.hok e
  obtain ⟨d,hw,c⟩:=RelO.some_of (v:=v) (o:=valueAt q k) (by rw [l];exact rel.val k)
  exact wpAny_getItem_of (vH j) dd.mapOf hw (h d _ (I.tok _) c)
 ·subst f
  cases (show u=Value.ref b from j)
  obtain ⟨z,hd,xs,rel,dd⟩:=Dw I.hok e
  obtain ⟨d,hw,c⟩:=RelO.some_of (v:=v) (o:=(atKey xs k).map (·.2)) (by rw [l];exact rel.val k)
  obtain ⟨p,n,i⟩:=Ge.mp hw
  refine wpAny_getItem_heap (tupleKind_room_in1 hu) (pS I.hok m) dd n ?_
  rw [i]
  exact h d _ (I.tok _) c
theorem lF {t':Nat} (I:Inv X pins σ H s) (d:Mut (H a)) (f:Heap.SameBut a s.heap h') (he:∃ q,h'.get? a=some q) (new:ObjOk X.prog X.w (upd H a ob) h' a ob) :
  Inv X pins σ (upd H a ob) { s with heap:=h',toks:=t' } :=
 I.write (x:=a) (e:=a) d (.inl rfl) (fun b q c z=>(f.2 b c).trans z) he new
theorem Aw (z:kvs.length<=sizeLine) (hd:(a == sysModules)=false) (rel:KV kvs vs) (dd:DictOfE (bM P w) h' a vs) :
  ObjOk P w H' h' a (.dK kvs):=⟨z,hd,vs,rel,dd⟩
theorem xC (hu:A.units+1 < cLine) (I:Inv X pins σ H s) (g:DPut H a y v H') (o:RelV y u) (x:RelV v r) (h:∀ s',Inv X pins σ H' s'->Q () s') :
  wpAny (model X.prog X.w) A (setItem (.ref a) u r) Q E s:=by
 rcases g with ⟨kvs,k,e,n,l,i⟩ | ⟨kvs,k,b,e,n,p,l,i⟩
 ·subst n i
  obtain ⟨z,hd,C,rel,dd⟩:=uq I.hok (.inl e)
  have hz:C.length<=sizeLine:=by rw [<- rel.length];exact z
  have m:(fN kvs k v).length<=sizeLine:=by have:=kY kvs k v;omega
  refine lR (hsz:=hz) (vH o) dd fun h' d j=>h _ ?_
  have he:∃ q,h'.get? a=some q:=let ⟨q,_,_,f,_⟩:=d;⟨q,f⟩
  exact lF I (by rw [e];exact True.intro) j he (Aw m hd (rel.put k x) d)
 ·subst n i
  cases (show u=Value.ref b from o)
  obtain ⟨z,hd,xs,rel,dd⟩:=uo I.hok (.inl e)
  have hz:xs.length<=sizeLine:=by rw [<- Paired.length rel];exact z
  have m:(fN kvs k v).length<=sizeLine:=by have:=kY kvs k v;omega
  refine nh (hsz:=hz) (tupleKind_room_in1 hu) (pS I.hok p) dd fun h' d j=>h _ ?_
  obtain ⟨q,es,F,f,h2,h3,D,_,B⟩:=d
  refine lF I (by rw [e];exact True.intro) j ⟨q,f⟩ ⟨m,hd,_,(rel.put k p x).keeps fun c ys t=>?_,q,es,F,f,h2,h3,D,B⟩
  rw [ao (Dl t e (fun z=>nomatch z))]
  exact t
end
theorem sk (I:Inv X pins σ H s) (g:DGet H a y o):s.TypeIs (.ref a) "dict":=by
 rcases g with ⟨kvs,k,e,_,_⟩ | ⟨kvs,k,b,e,_,_,_⟩
 ·obtain ⟨_,_,c,_,dd⟩:=Dx I.hok e
  exact dd.typeIs
 ·obtain ⟨_,_,xs,_,dd⟩:=Dw I.hok e
  exact dd.typeIs
theorem Ax (h:Heap) (a:sysModules < h.objs.size):ObjOk P w H (h.push { cls:=.type "dict",data:=.dict #[] }) h.objs.size (.dK []) :=
 ⟨Nat.zero_le _,beq_eq_false_iff_ne.mpr (Ne.symm (Gx a)),[],.nil,_,#[],0,Gn _ rfl,⟨rfl,rfl,rfl⟩,rfl,(fun _ h=>by simp at h),.nil,List.nodup_nil,rfl⟩
theorem sj (h:Heap) (a:sysModules < h.objs.size):ObjOk P w H (h.push { cls:=.type "dict",data:=.dict #[] }) h.objs.size (.dT []) :=
 ⟨Nat.zero_le _,beq_eq_false_iff_ne.mpr (Ne.symm (Gx a)),[],.nil,_,#[],0,Gn _ rfl,⟨rfl,rfl,rfl⟩,rfl,rfl,List.nodup_nil,rfl⟩
def DW:TE:=fun _ H Q=>∀ p,H p=none->Q (.ref p) (upd H p (.dT []))
section
variable {X:Cx} {pos:Pos}
theorem zy:PE X (.Dict [] [] pos) DW:=fun pins s σ H Q I h =>
 wpAny_Dict_empty ⟨.ref s.heap.objs.size,_,I.laid (a:=s.heap.objs.size) (o:=.dT []) (t':=s.toks) (fun _ _ q=>Gd _ q) (Gv _) (sj s.heap I.big),rfl,h _ (I.hok.fresh (Gv _))⟩
end
end L2
namespace L2
open PySem PySem.Spec PyProof.Rows
end L2
end
section
namespace L2
open PySem PySem.Spec PyProof.Rows
def ll (cells:List (Str × Addr)) (cs:List (Str × Addr)) (x:Str × NameKind):List (Str × Addr) :=
 if x.2 == .free then (match cells.lookup x.1 with | some c=>(x.1,c) :: cs | none=>cs) else cs
def clo (cells:List (Str × Addr)) (names:List (Str × NameKind)):List (Str × Addr):=names.foldl (ll cells) []
theorem mL {α β:Type} {f:α->β->Sem (ForInStep β)} {g:β->α->β}:∀ {l:List α} {c:β},(∀ x ∈ l,∀ c,f x c=pure (.yield (g c x)))->forIn l c f=pure (l.foldl g c)
 | [],c,_=>rfl
 | x :: l,c,h=>by
  rw [List.forIn_cons,h x Ga,pure_bind]
  exact mL fun y a=>h y (Gb _ a)
theorem iJ (h:∀ x ∈ scope.names,x.2=.free->∃ c,env.cells.lookup x.1=some c):closureFor scope env=pure (clo env.cells scope.names):=by
 simp only [closureFor]
 rw [mL (g:=ll env.cells) (fun x f c=>by
  obtain ⟨n,kind⟩:=x
  unfold ll
  by_cases b:kind=.free
  ·subst b
   obtain ⟨a,e⟩:=h _ f rfl
   have i:env.cells.lookup n=some a:=e
   simp [cellOf,i]
  ·have d:(kind == NameKind.free)=false:=by simpa using b
   simp [d])]
 rfl
theorem oR:∀ {l:List (Str × NameKind)} {cs:List (Str × Addr)},(∀ y d,cs.lookup y=some d->cells.lookup y=some d)->(l.foldl (ll cells) cs).lookup x=some c->cells.lookup x=some c
 | [],cs,h,e=>h x c e
 | y :: l,cs,h,e=>by
  refine oR (l:=l) (cs:=ll cells cs y) (fun z d q=>?_) e
  unfold ll at q
  split at q
  ·cases b:cells.lookup y.1 with
   | none=>rw [b] at q;exact h z d q
   | some a =>
    rw [b] at q
    simp only [List.lookup_cons] at q
    cases hz:z == y.1 with
    | true=>rw [hz] at q;have:=eq_of_beq hz;subst this;rw [b];exact q
    | false=>rw [hz] at q;exact h z d q
  ·exact h z d q
theorem qa (e:(clo cells l).lookup x=some c):cells.lookup x=some c:=oR (fun _ _ q=>by simp at q) e
theorem mM (b:cells.lookup x=some c):∀ {l:List (Str × NameKind)} {cs:List (Str × Addr)},cs.lookup x=some c->(l.foldl (ll cells) cs).lookup x=some c
 | [],_,e=>e
 | y :: l,cs,e=>by
  refine mM b (l:=l) (cs:=ll cells cs y) ?_
  unfold ll
  split
  ·cases d:cells.lookup y.1 with
   | none=>exact e
   | some a =>
    simp only [List.lookup_cons]
    cases hz:x == y.1 with
    | true=>have:=eq_of_beq hz;subst this;rw [b] at d;exact d.symm
    | false=>exact e
  ·exact e
theorem oT (a:cells.lookup x=some c):∀ {l:List (Str × NameKind)} {cs:List (Str × Addr)},(x,NameKind.free) ∈ l->(l.foldl (ll cells) cs).lookup x=some c
 | [],_,m=>by simp at m
 | y :: l,cs,m=>by
  rcases Gh.mp m with rfl | m
  ·refine mM a (l:=l) ?_
   simp [ll,a]
  ·exact oT a (l:=l) (cs:=ll cells cs y) m
theorem vV (a:cells.lookup x=some c) (m:(x,NameKind.free) ∈ l):(clo cells l).lookup x=some c:=oT a m
theorem jG {env:Env}:∀ {names:List (Str × NameKind)} {x:Str},names.lookup x=some .free ->
  (names.map fun (n,k)=>if (k == NameKind.free && env.scope.kind == .function && env.kindOf n == some .cell) then (n,NameKind.cell) else (n,k)).lookup x=some .cell \/
  (names.map fun (n,k)=>if (k == NameKind.free && env.scope.kind == .function && env.kindOf n == some .cell) then (n,NameKind.cell) else (n,k)).lookup x=some .free
 | [],_,h=>by simp at h
 | (n,k) :: r,x,h=>by
  have b:=@jG env r x
  show List.lookup x ((if (k == NameKind.free && env.scope.kind == .function && env.kindOf n == some .cell)=true then (n,NameKind.cell) else (n,k)) :: _)=_ \/
   List.lookup x ((if (k == NameKind.free && env.scope.kind == .function && env.kindOf n == some .cell)=true then (n,NameKind.cell) else (n,k)) :: _)=_
  cases a:x == n with
  | true =>
   simp only [List.lookup_cons,a] at h
   cases h
   split
   ·left;simp [List.lookup_cons,a]
   ·right;simp [List.lookup_cons,a]
  | false =>
   simp only [List.lookup_cons,a] at h
   split
   ·simp only [List.lookup_cons,a];exact b h
   ·simp only [List.lookup_cons,a];exact b h
theorem l7 {env:Env}:∀ {names:List (Str × NameKind)} {x:Str},(∀ y ∈ names,y.2 ≠ .cell) ->
  ((names.map fun (n,k)=>if (k == NameKind.free && env.scope.kind == .function && env.kindOf n == some .cell) then (n,NameKind.cell) else (n,k)).lookup x=some .cell \/
  (names.map fun (n,k)=>if (k == NameKind.free && env.scope.kind == .function && env.kindOf n == some .cell) then (n,NameKind.cell) else (n,k)).lookup x=some .free)->(x,NameKind.free) ∈ names
 | [],_,_,h=>by simp at h
 | (n,k) :: r,x,hc,h=>by
  have d:=@l7 env r x (fun y c=>hc y (Gb _ c))
  have f:=hc (n,k) Ga
  have h':List.lookup x ((if (k == NameKind.free && env.scope.kind == .function && env.kindOf n == some .cell)=true then (n,NameKind.cell) else (n,k)) :: (r.map fun (n,k)=>if (k == NameKind.free && env.scope.kind == .function && env.kindOf n == some .cell) then (n,NameKind.cell) else (n,k)))=some .cell \/
   List.lookup x ((if (k == NameKind.free && env.scope.kind == .function && env.kindOf n == some .cell)=true then (n,NameKind.cell) else (n,k)) :: (r.map fun (n,k)=>if (k == NameKind.free && env.scope.kind == .function && env.kindOf n == some .cell) then (n,NameKind.cell) else (n,k)))=some .free:=h
  cases a:x == n with
  | true =>
   have e:=eq_of_beq a
   subst e
   by_cases hf:k=.free
   ·subst hf;exact Ga
   ·exfalso
    have b:(k == NameKind.free)=false:=by simpa using hf
    simp [b,List.lookup_cons] at h'
    rcases h' with q | q
    ·exact f q
    ·exact hf q
  | false =>
   refine Gb _ (d ?_)
   split at h'
   ·simpa only [List.lookup_cons,a] using h'
   ·simpa only [List.lookup_cons,a] using h'
def aR (X:Cx) (NY:List Str) (scope:Scope) (s:Shared) (H:Hp) (C:Addr) (fp:List Addr):Cx where
 prog:=X.prog
 w:=X.w
 K:=X.K
 mg:=X.mg
 base:=X.base
 A:=X.A
 N:=NY
 s₀:=s
 H₀:=H
 env:=compEnvC scope (clo X.env.cells scope.names) C X.env
 outer:=X.stack
 stack:=X.stack
 ex:=fp
 fn:=fun _=>false
 calm:=X.calm
 pn:=[]
 xe:=fun _ _=>False
def cap (ix:List (Option Nat)) (σ:St):St:=ix.map fun o=>match o with | some i=>(σ[i]?).getD none | none=>none
def iG (sc:Scope) (b:List Str) (a:Scope) (NY:List Str) (ix:List (Option Nat)):Bool :=
 sc.kind == .function && sc.names.all (fun y=>y.2 != .cell) && sc.names.all (fun y=>y.2 != .local || sc.names.lookup y.1 == some .local) && sc.names.all (fun y=>y.2 != .free || sc.names.lookup y.1 == some .free)
  && sc.names.all (fun y=>y.2 != .free || (a.names.lookup y.1 == some .cell || a.names.lookup y.1 == some .free))
  && ix.length == NY.length && (NY.zip ix).all fun p=>match p.2 with | none=>true | some i=>(b[i]? == some p.1) && sc.names.contains (p.1,NameKind.free)
structure CompOk (sc:Scope) (XN:List Str) (Xsc:Scope) (NY:List Str) (ix:List (Option Nat)):Prop where
 kind:sc.kind=.function
 nocell:∀ y ∈ sc.names,y.2 ≠ .cell
 loc:∀ y ∈ sc.names,y.2=.local->sc.names.lookup y.1=some .local
 fre:∀ y ∈ sc.names,y.2=.free->sc.names.lookup y.1=some .free
 out:∀ y ∈ sc.names,y.2=.free->Xsc.names.lookup y.1=some .cell\/Xsc.names.lookup y.1=some .free
 len:ix.length=NY.length
 cap:∀ (j:Nat) x i,NY[j]?=some x->ix[j]?=some (some i)->XN[i]?=some x/\(x,NameKind.free) ∈ sc.names
theorem CompOk.of (h:iG sc XN Xsc NY ix=true):CompOk sc XN Xsc NY ix:=by
 simp only [iG,Bool.and_eq_true,List.all_eq_true,beq_iff_eq] at h
 obtain ⟨⟨⟨⟨⟨⟨h1,h2⟩,h3⟩,f⟩,b⟩,g⟩,c⟩:=h
 refine ⟨h1,fun y a=>by simpa using h2 y a,fun y a e=>?_,fun y a e=>?_,fun y a e=>?_,g,fun j x i e1 d=>?_⟩
 ·have:=h3 y a;rw [e] at this;simpa using this
 ·have:=f y a;rw [e] at this;simpa using this
 ·have:=b y a;rw [e] at this;simpa using this
 ·have m:(x,some i) ∈ NY.zip ix:=by
   refine Gq (i:=j) ?_
   rw [List.getElem?_zip_eq_some]
   exact ⟨e1,d⟩
  have:=c _ m
  simpa using this
section
variable {X:Cx}
theorem FpOk.of_upd (f:FpOk X pins H b) (h:b ≠ D):FpOk X pins (upd H D o) b:=⟨by rw [ao h];exact f.1,f.2⟩
theorem HOk.track (x:HOk P w H h) (f:H a=none) (new:ObjOk P w (upd H a o) h a o):HOk P w (upd H a o) h:=fun b u e=>by
 by_cases d:b=a
 ·subst d;rw [aC] at e;cases e;exact new
 ·rw [ao d] at e
  exact (x b u e).stay (fun c v _ q=>q) (fun c q=>by rw [ao (aS q f)];exact q) fun c xs q=>by rw [ao (aS q f)];exact q
def PTs (Y:Cx) (ifs:List Expr) (t:TT):Prop :=
 ∀ (pins:List (Addr × Obj)) (s:Shared) (σ:St) (H:Hp) (Q:Bool->Hp->Prop),Inv Y pins σ H s->t σ H Q ->
  wpAny (model Y.prog Y.w) Y.A (forIn ifs true fun c r=>if r=true then do let ok <- isTrue c Y.env (eval c Y.env);pure (ForInStep.yield ok) else pure (ForInStep.yield r)) (TP Y pins σ Q) Y.xe s
def tYes:TT:=fun _ H Q=>Q true H
theorem BU:PTs Y [] tYes:=fun pins s σ H Q I h=>wpAny_tests_nil ⟨H,I,h⟩
theorem BT (h:PT Y c t):PTs Y [c] t:=fun pins s σ H Q I q=>wpAny_tests_one (h pins s σ H Q I q)
def sS (J:It) (g:TG) (tc:TT) (te:TE) (Z:List V->Hp->Prop) (τ0:St) (H1:Hp):Prop :=
 ∃ W:Nat->Nat->List V->St->Hp->Prop,(∃ m,W 0 m [] τ0 H1)/\∀ i m ys τ H,W i m ys τ H->ys.length < sizeLine /\
  ((J.stop i H/\Z ys H)\/(J.go i H/\∃ N:List V->St->Hp->Prop,(∀ a τ' H',N a τ' H'->∃ d,d < m/\W (i+1) d a τ' H')/\∀ x H',J.yld i H x H'->g x τ H' fun τ2 H2=>tc τ2 H2 fun b c =>
   if b=true then te τ2 c fun y e=>N (ys ++ [y]) τ2 e else N ys τ2 c))
def Da (a:TI) (g:TG) (tc:TT) (te:TE) (ix:List (Option Nat)):TE:=fun σ H Q =>
 a σ H fun J H1=>sS J g tc te (fun ys H2=>∀ p,H2 p=none->Q (.ref p) (upd H2 p (.lst ys))) (cap ix σ) H1
theorem ut (d:CompOk scope X.N X.env.scope NY ix) (I:Inv X pins σ H s) (f:∀ b ∈ fp,FpOk X pins H b) (j:s.heap.objs.size<=C) (t:∀ b ∈ fp,b < s.heap.objs.size) (K:s4.os=s.os) (D:s4.gens=s.gens) (keep:∀ b o,s.heap.get? b=some o->s4.heap.get? b=some o) (ns:s4.heap.Ns C fun _=>none):Inv (aR X NY scope s H C fp) [] (cap ix σ) H s4:=by
 have L:FpOk X pins H C:=I.fpOk j (I.hok.fresh j)
 have cls:∀ x c,(clo X.env.cells scope.names).lookup x=some c->X.env.cells.lookup x=some c:=fun x c e=>qa e
 have h:∀ x,(x,NameKind.free) ∈ scope.names->∃ c,X.env.cells.lookup x=some c:=fun x m=>by
  rcases d.out _ m rfl with q | q
  ·exact I.ok.has x (.inl q)
  ·exact I.ok.has x (.inr q)
 refine ⟨⟨I.ok.mod,d.kind,I.ok.glob,I.ok.blt,j,fun x y c e1 n=>I.ok.inj x y c (cls x c e1) (cls y c n),fun x F=>?_,fun x c e _=>(Gw e).elim,fun e=>I.ok.hd e,I.ok.frames,.inl rfl,fun b g=>⟨Gx (GC (t b g) j),fun x c e=>(f b g).2.2.2.2.1 x c (cls x c e)⟩,
  I.bs,GQ I.ok.bsz I.sz,fun b o e g=>?_,fun b g hz=>?_,I.stack,I.stkFree⟩,K,by rw [D];exact I.bare,Un.kept keep,⟨_,ns,fun i x v e1 n R=>?_⟩,fun x c e=>?_,L.1,fun x c e=>I.freeC x c (cls x c e),fun p P=>absurd (show p ∈ ([]:List (Addr × Obj)) from P) (by simp),I.hok.kept keep,?_⟩
 ·have m:(x,NameKind.free) ∈ scope.names:=l7 d.nocell F
  obtain ⟨c,e⟩:=h x m
  exact ⟨c,vV e m⟩
 ·rcases (f b g).2.2.2.1 with z | z
  ·exact I.ok.noex b o e z
  ·exact absurd (GC (Gj e) (GQ I.ok.bsz z)) (Nat.lt_irrefl _)
 ·rcases Gh.mp (I.stkSub b hz) with e | e
  ·exact (f b g).2.1 e
  ·exact (f b g).2.2.1 e
 ·-- a captured name
  have q:∃ k,ix[i]?=some (some k)/\σ[k]?=some (some v):=by
   unfold cap at n
   grind
  obtain ⟨k,B,ev⟩:=q
  obtain ⟨E,m⟩:=d.cap i x k e1 B
  obtain ⟨S,J,O⟩:=I.loc
  have G:Vis X.env.scope x:=by
   rcases d.out _ m rfl with q | q
   ·exact .inr (.inl q)
   ·exact .inr (.inr q)
  obtain ⟨u,r,l⟩:=O k x v E ev G
  refine ⟨u,r,.inr ?_⟩
  rcases l with ⟨A,_⟩ | ⟨_,c,M,Q⟩
  ·exfalso
   rcases d.out _ m rfl with q | q
   ·have:=A.symm.trans q;cases this
   ·have:=A.symm.trans q;cases this
  ·obtain ⟨o,w,hd⟩:=Q
   exact ⟨jG (d.fre _ m rfl),c,vV M m,o,keep c o w,hd⟩
 ·obtain ⟨v,o,w,hd⟩:=I.cell x c (cls x c e)
  exact ⟨v,o,keep c o w,hd⟩
 ·show (cap ix σ).length=NY.length
  unfold cap
  rw [Go]
  exact d.len
theorem iI (I:Nat->Shared->Prop) (turn:∀ n s,I n s->wpAny (model prog w) A (pyNext it) (fun r d=>match r with
   | none=>R (.ok .next) d
   | some v=>wpAny (model prog w) A (letOwnedTupleGo target it v) (fun _ a=>wpAny (model prog w) A (assign target env v) (fun _ f =>
     wpAny (model prog w) A (forIn ifs true fun c r=>if r=true then do let ok <- isTrue c env (eval c env);pure (ForInStep.yield ok) else pure (ForInStep.yield r)) (fun ok b =>
      if ok=true then wpAny (model prog w) A (eval elt env) (fun x i =>
       wpAny (model prog w) A (call (.builtin "list.append") [acc,x]) (fun _ k=>∃ m,m < n/\I m k) (fun _ _=>False) i) (fun _ _=>False) b
      else ∃ m,m < n/\I m b) (fun _ _=>False) f) (fun _ _=>False) a) (fun _ _=>False) d) (fun _ _=>False) s) (n:Nat) (h:I n s) :
  codeAny (model prog w) A (.compLoop (.ListComp elt [⟨target,iter,ifs,0⟩] scope pos) 0 it acc env) R s:=by
 refine codeAny_loop rfl I (fun n s q=>?_) n h
 show wpAny _ A ((compTurn (.ListComp elt [⟨target,iter,ifs,0⟩] scope pos) 0 it acc env).onRaise (fun x=>do noteFrame x env;theTreesLotGoes x)) _ _ s
 refine wpAny_noted ?_
 rw [compTurn_list]
 refine F7 (wpAny_standAt (F7 (wpAny_mono (turn n s q) (fun r d g=>?_) fun _ _ h'=>h'.elim)))
 cases r with
 | none=>exact F8 g
 | some v =>
  refine F7 (wpAny_mono g (fun _ a e=>?_) fun _ _ h'=>h'.elim)
  refine F7 (wpAny_mono e (fun _ f p=>F7 (wpAny_mono p (fun ok b j=>?_) fun _ _ h'=>h'.elim)) fun _ _ h'=>h'.elim)
  cases ok with
  | false=>exact F8 ⟨rfl,j⟩
  | true =>
   exact F7 (F7 (wpAny_mono j (fun x i o=>F7 (wpAny_mono o (fun _ k l=>F8 (F8 ⟨rfl,l⟩)) fun _ _ h'=>h'.elim)) fun _ _ h'=>h'.elim))
theorem su {RR:Value->Addr->Result->Shared->Prop} (hc:X.calm=true) (ck:CompOk scope X.N X.env.scope NY ix) (hg:∀ s H C fp,PG (aR X NY scope s H C fp) tg g) (ht:∀ s H C fp,PTs (aR X NY scope s H C fp) ifs tc) (he:∀ s H C fp,PE (aR X NY scope s H C fp) elt te) (I:Inv X pins σ H s) (T:Turn X.prog X.w X.K tg J fp it tn) (st:tn 0 s.heap) (f:∀ b ∈ fp,FpOk X pins H b) (hW:sS J g tc te Z (cap ix σ) H) (cm:∀ D C s' ys H' m,s'.heap.Ns C m->H' D=none->FpOk X pins (upd H' D (.lst ys)) C->Inv X pins σ (upd H' D (.lst ys)) s'->Z ys H'->RR (.ref D) C (.ok .next) s') :
  wpAny (model X.prog X.w) X.A (newList []) (fun acc s₃=>wpAny (model X.prog X.w) X.A (newFunctionEnv scope X.env.globals (clo X.env.cells scope.names) [] X.env.qual none .none (some X.env)) (fun F s₄ =>
   codeAny (model X.prog X.w) X.A (.compStart (.ListComp elt [⟨tg,iter,ifs,0⟩] scope pos) 0 (.ref it) acc { F with scope:=relabel scope X.env }) (RR acc F.locals) s₄) E s₃) E s:=by
 obtain ⟨W,⟨m0,w0⟩,turn⟩:=hW
 refine wpAny_newObj_type (wpAny_newFunctionEnv ck.nocell (by intro y hy;simp at hy) (fun h₁ k j=>?_) ck.kind)
 dsimp only at k j ⊢
 generalize P:s.heap.push { cls:=.type "list",dict:=none,data:=.seq ([]:List Value).toArray }=H2 at k j ⊢
 have V:H2.objs.size=s.heap.objs.size+1:=by rw [<- P,GO]
 have B:s.heap.objs.size ≠ H2.objs.size:=by rw [V];exact Gx (Nat.lt_succ_self _)
 have h:s.heap.objs.size<=H2.objs.size:=by rw [V];exact Nat.le_succ _
 generalize M:s.heap.objs.size=D at *
 generalize hC:H2.objs.size=C at *
 have below:∀ b o,s.heap.get? b=some o->b < D:=fun b o e=>by rw [<- M];exact Gj e
 have old:∀ b o,s.heap.get? b=some o->h₁.get? b=some o:=fun b o e=>j.extBut b o (Gx (GC (below b o e) h)) (Gd _ (P ▸ Gd _ e))
 have O:H2.get? D=some { cls:=.type "list",dict:=none,data:=.seq ([]:List Value).toArray }:=by
  rw [<- P,<- M];exact Gn _ rfl
 have ar:h₁.PlainList D #[]:=⟨_,j.extBut _ _ B (Gd _ O)⟩
 have ax:∀ b ∈ fp,b < s.heap.objs.size:=fun b a=>by
  obtain ⟨o,e,_⟩:=T.obj 0 _ st b a
  exact Gj e
 have l:∀ b ∈ fp,b < D:=fun b a=>by rw [<- M];exact ax b a
 have IY:Inv (aR X NY scope s H C fp) [] (cap ix σ) H { s with heap:=h₁,toks:=s.toks+([]:List (Str × Value)).length } :=
  ut ck I f (by rw [M];exact h) ax rfl rfl old k
 have bt:H D=none:=I.hok.fresh (by rw [M];exact Gv _)
 have t:∀ b ∈ frs X.stack,b < D:=fun b a=>by
  obtain ⟨_,o,ho,_⟩:=I.stack.mem a
  exact below b o ho
 have loop:∀ s₃:Shared,s₃ = { s with heap:=h₁,toks:=s.toks+([]:List (Str × Value)).length } ->
   codeAny (model X.prog X.w) X.A (.compLoop (.ListComp elt [⟨tg,iter,ifs,0⟩] scope pos) 0 (.ref it) (.ref D) (aR X NY scope s H C fp).env) (RR (.ref D) C) s₃:=by
  rintro s₃ rfl
  refine iI (fun n s'=>∃ i ys τ H' its,Inv (aR X NY scope s H C fp) [] τ H' s'/\H' D=none/\s'.heap.PlainList D its/\Vals ys its.toList/\tn i s'.heap/\(∀ b ∈ fp,H' b=none)/\W i n ys τ H') ?_ m0
   ⟨0,[],cap ix σ,H,#[],IY,bt,ar,.nil,T.keep _ _ _ st fun b _ o e=>old b o e,fun b a=>(f b a).1,w0⟩
  rintro n s3 ⟨i,ys,τ,S,its,I3,d3,l3,v3,az,U,w3⟩
  obtain ⟨nl,e3⟩:=id l3
  have Y:Inv (aR X NY scope s H C fp) [(D,{ cls:=.type "list",data:=.seq its nl })] τ S s3:=I3.pins_of fun p hp=>by
   have e:p=(D,{ cls:=.type "list",data:=.seq its nl }):=by simpa using hp
   subst e
   exact ⟨e3,d3,B,fun z=>Nat.lt_irrefl _ (t D z),fun v z=>by cases z⟩
  have L:∀ {H':Hp} {pl:List (Addr × Obj)},(∀ b ∈ fp,H' b=none)->(∀ p ∈ pl,p.1=D)->∀ b ∈ fp,FpOk (aR X NY scope s H C fp) pl H' b:=fun hn hp b a =>
   ⟨hn b a,Gx (GC (l b a) h),fun z=>by
    rcases Gh.mp (I.stkSub b z) with e | e
    ·exact (f b a).2.1 e
    ·exact (f b a).2.2.1 e,.inl a,fun x c e=>(f b a).2.2.2.2.1 x c (qa e),fun p cv=>by
    have e:p.1=D:=hp p ((Gk.mp cv).elim (fun z=>absurd (show p ∈ ([]:List (Addr × Obj)) from z) (by simp)) fun z=>z)
    rw [e]
    exact Nat.ne_of_gt (l b a)⟩
  obtain ⟨zl,step⟩:=turn i n ys τ S w3
  have single:∀ p ∈ [(D,({ cls:=.type "list",data:=.seq its nl }:Obj))],p.1=D:=fun p hp=>by
   have e:p=(D,{ cls:=.type "list",data:=.seq its nl }):=by simpa using hp
   rw [e]
  rcases step with ⟨stop,qn⟩ | ⟨go,N,hN,step⟩
  ·refine wpAny_mono (T.done (aR X NY scope s H C fp) rfl rfl rfl hc i _ s3 τ S (fun _ _=>False) Y (L U single) az stop) (fun r s4 ⟨hr,R⟩=>?_) fun _ _ e=>e
   subst hr
   obtain ⟨mC,b3,_⟩:=id R.loc
   obtain ⟨e4,d4,_⟩:=R.pin (D,{ cls:=.type "list",data:=.seq its nl }) (by simp [aR])
   have a5:∀ b o,s.heap.get? b=some o->b ≠ D:=fun b o e=>Gx (below b o e)
   have G:=R.base
   refine cm D C s4 ys S mC b3 d4 ?_ ?_ qn
   ·exact (I.fpOk (by rw [M];exact h) (by exact R.free)).of_upd (Ne.symm B)
   ·refine I.call' (ch:=fp) R.os (H':=upd S D (.lst ys)) ⟨G.keep,G.slot,fun b o e n hx=>?_,G.there,fun b xs e=>?_,fun b o u e=>?_,fun b ps e=>?_⟩ ?_ R.bare fun b a=>?_
    ·rw [ao (a5 b o e)];exact G.free b o e n hx
    ·have q:=G.tups b xs e;rw [ao (aS q d4)];exact q
    ·have q:=G.frzs b o u e;rw [ao (aS q d4)];exact q
    ·obtain ⟨more,q⟩:=G.tbls b ps e;exact ⟨more,by rw [ao (aS q d4)];exact q⟩
    ·exact R.hok.track d4 ⟨Nat.le_of_lt zl,its.toList,nl,v3,by simpa using e4⟩
    ·exact ⟨(f b a).2.2.2.1,(f b a).2.1,(f b a).2.2.2.2.1,(f b a).2.2.2.2.2⟩
  ·refine wpAny_mono (T.item (aR X NY scope s H C fp) rfl rfl rfl hc i _ s3 τ S (fun _ _=>False) Y (L U single) az go) (fun r s4 ⟨u,hr,h4⟩=>?_) fun _ _ e=>e
   subst hr
   refine wpAny_mono h4 (fun _ s5 ⟨x,H5,I5,r5,y5,Q,a6⟩=>?_) fun _ _ e=>e
   have b4:=I5.pinned (L a6 single) (T.obj _ _ Q)
   refine wpAny_mono (hg s H C fp _ s5 τ H5 x u _ b4 r5 (step x H5 y5)) (fun _ s6 ⟨τ6,H6,I6,q6⟩=>?_) fun _ _ e=>e
   refine wpAny_mono (ht s H C fp _ s6 τ6 H6 _ I6 q6) (fun b s7 ⟨H7,I7,q7⟩=>?_) fun _ _ e=>e
   have after:∀ {s':Shared} {H':Hp},Inv (aR X NY scope s H C fp) ([(D,{ cls:=.type "list",data:=.seq its nl })] ++ me fp s5.heap) τ6 H' s'->tn (i+1) s'.heap/\(∀ b ∈ fp,H' b=none)/\H' D=none/\s'.heap.PlainList D its:=fun {s' H'} I' =>
    ⟨T.keep _ _ _ Q fun b a o e=>(I'.pin (b,o) (Gg _ (Gg _ (fR a e)))).1,fun b a=>by
     obtain ⟨o,e,d⟩:=T.obj _ _ Q b a
     exact (I'.pin (b,o) (Gg _ (Gg _ (fR a e)))).2.1,(I'.pin (D,_) (Gg _ (Gf _ (GK.mpr rfl)))).2.1,
     nl,(I'.pin (D,_) (Gg _ (Gf _ (GK.mpr rfl)))).1⟩
   cases b with
   | false =>
    rw [if_neg Gw]
    rw [if_neg Gw] at q7
    obtain ⟨m',hm,w7⟩:=hN _ _ _ q7
    obtain ⟨a1,a2,a3,a4⟩:=after I7
    exact ⟨m',hm,i+1,ys,τ6,H7,its,I7.pins_of (fun _ z=>absurd z (by simp)),a3,a4,v3,a1,a2,w7⟩
   | true =>
    rw [if_pos rfl]
    rw [if_pos rfl] at q7
    refine wpAny_mono (he s H C fp _ s7 τ6 H7 _ I7 q7) (fun y s8 ⟨yv,H8,I8,r8,n8⟩=>?_) fun _ _ e=>e
    obtain ⟨m',hm,w8⟩:=hN _ _ _ n8
    obtain ⟨a1,a2,a3,a4⟩:=after I8
    have c0:ys.length=its.size:=by simpa using v3.length
    have hsz:its.size<=sizeLine:=by omega
    refine wpAny_list_append_plain (hsz:=hsz) a4 fun h9 l9 ae=>?_
    have I9:Inv (aR X NY scope s H C fp) [] τ6 H8 { s8 with heap:=h9,toks:=s8.toks }:=(I8.pins_of (pins':=[]) fun _ z=>absurd z (by simp)).turned (it:=D) (fun b o a e=>(ae.2 b a).trans e) a3 B (.inr (by show s.heap.objs.size<=D;rw [M];exact Gv _)) (fun x c e z=>?_) fun p z=>absurd (show p ∈ ([]:List (Addr × Obj)) from z) (by simp)
    ·refine ⟨m',hm,i+1,ys ++ [yv],τ6,H8,its.push y,I9,a3,l9,?_,T.keep _ _ _ a1 fun b a o e=>(ae.2 b (Gx (l b a))).trans e,a2,w8⟩
     rw [Array.toList_push]
     exact v3.append (.cons r8 .nil)
    ·obtain ⟨v,o,ho,_⟩:=I.cell x c (qa e)
     exact Nat.lt_irrefl _ (z ▸ below c o ho)
 exact codeAny_compStart_list (loop _ rfl) (T.self X.A 0 _ _ _ (T.keep _ _ _ st fun b _ o e=>old b o e) (loop _ rfl))
theorem B6 (NY:List Str) (ix:List (Option Nat)) (E:X.calm=true) (hi:PI X tg iter wi) (d:∀ s H C fp,PG (aR X NY scope s H C fp) tg g) (k:∀ s H C fp,PTs (aR X NY scope s H C fp) ifs tc) (he:∀ s H C fp,PE (aR X NY scope s H C fp) elt te) (a:iG scope X.N X.env.scope NY ix=true) (n:∀ x,foldedSetIterable iter X.env x=pure x:=by intro _;rfl):PE X (.ListComp elt [⟨tg,iter,ifs,0⟩] scope pos) (Da wi g tc te ix):=by
 intro pins s σ H Q I h
 have a:=CompOk.of a
 rw [eval_ListComp]
 refine wpAny_comprehension_free (use:=none) rfl n (iJ (scope:=scope) (env:=X.env) fun x m e=>?_) a.kind a.loc (thn (hi pins s σ H _ I h) fun v s1 h1=>thn h1 fun u s2 h2=>?_)
 ·rcases a.out x m e with q | q
  ·exact I.ok.has x.1 (.inl q)
  ·exact I.ok.has x.1 (.inr q)
 ·obtain ⟨it,fp,F,J,H2,e,i,T,c,f2,l⟩:=h2
  subst e
  refine su (RR:=fun acc C=>compPost (model X.prog X.w) X.A X.xe none (EP X pins σ Q) acc C) E a d k he i T c f2 l ?_
  intro D C s' ys H' m j p r B z
  obtain ⟨f0,f1,f2,f,f4,y⟩:=r
  exact ⟨m,j,fun h' sb=>⟨.ref D,_,B.turned (t':=s'.toks) (fun b o t e=>(sb.2 b t).trans e) f0 f1 f f4 y,rfl,z D p⟩⟩
def Dc (i:Nat) (a:TI) (g:TG) (tc:TT) (te:TE) (ix:List (Option Nat)):TS:=fun D σ H =>
 a σ H fun J H1=>sS J g tc te (fun ys H2=>∀ p,H2 p=none->D.nx (σ.set i (some (.ref p))) (upd H2 p (.lst ys))) (cap ix σ) H1
theorem tM {i:Nat} (r:X.N.Nodup) (L:X.N[i]?=some y) (E:Loc X.env.scope y) (NY:List Str) (ix:List (Option Nat)) (hc:X.calm=true) (hi:PI X tg iter wi) (t:∀ s H C fp,PG (aR X NY scope s H C fp) tg g) (K:∀ s H C fp,PTs (aR X NY scope s H C fp) ifs tc) (he:∀ s H C fp,PE (aR X NY scope s H C fp) elt te) (c:iG scope X.N X.env.scope NY ix=true) (n:swapsWith (.ListComp elt [⟨tg,iter,ifs,0⟩] scope pos) (some (.Name y py)) spos.line X.env=pure true:=by rfl) (hf:X.fn y=true\/X.env.scope.names.lookup y=some .local:=by first | exact .inl rfl | exact .inr rfl | assumption) (O:∀ x,foldedSetIterable iter X.env x=pure x:=by intro _;rfl):PS X (.Assign [.Name y py] (.ListComp elt [⟨tg,iter,ifs,0⟩] scope pos) spos) (Dc i wi g tc te ix):=by
 intro pins s σ H D I h
 have c:=CompOk.of c
 rw [exec_Assign_Name_used _ _ _ _ n]
 refine F7 (wpAny_standAt (F7 ?_))
 show wpAny _ X.A (do let _ <- comprehension (.ListComp elt [⟨tg,iter,ifs,0⟩] scope pos) scope X.env _ (newList []) false (eval iter X.env) (some (assign (.Name y py) X.env))) _ _ s
 refine F7 (wpAny_mono (wpAny_comprehension_free (use:=some (assign (.Name y py) X.env)) (Q:=fun _ s'=>SP X pins D .next s') rfl O (iJ (scope:=scope) (env:=X.env) fun x m e=>?_) c.kind c.loc
  (thn (hi pins s σ H _ I h) fun v s1 h1=>thn h1 fun V s2 h2=>?_)) (fun _ s' G=>F8 (F8 G)) fun _ _ e=>e)
 ·rcases c.out x m e with q | q
  ·exact I.ok.has x.1 (.inl q)
  ·exact I.ok.has x.1 (.inr q)
 ·obtain ⟨it,fp,tn,J,H2,e,B,T,p,f2,M⟩:=h2
  subst e
  refine su (RR:=fun acc C=>compPost (model X.prog X.w) X.A X.xe (some (assign (.Name y py) X.env)) (fun _ s'=>SP X pins D .next s') acc C) hc c t K he B T p f2 M ?_
  intro k C s' ys H' m F P R Z Y
  obtain ⟨f0,f1,f2,u,f4,W⟩:=R
  show wpAny _ X.A (assign (.Name y py) X.env (.ref k)) _ _ _
  refine wpAny_assign_Name (nR Z r L E (v:=.ref k) rfl (fun l j ⟨a,sb,S⟩=>?_) hf)
  have f:C ≠ a:=by
   rcases S with e | e
   ·rw [e];exact f1
   ·exact fun z=>f4 y a e z.symm
  exact ⟨m,F.sameBut sb f,fun h' d=>⟨_,_,j.turned (t':=l.toks) (fun b o U e=>(d.2 b U).trans e) f0 f1 u f4 W,Y k P⟩⟩
end
end L2
end
section
namespace L2
open PySem PySem.Spec PyProof.Rows
section
variable {X:Cx}
inductive KindOf (K:FG) (H:Hp):V->String->Prop
 | int (i:Int):KindOf K H (.int i) "int"
 | bool (b:Bool):KindOf K H (.bl b) "bool"
 | str (x:Str):KindOf K H (.str x) "str"
 | non:KindOf K H .non "NoneType"
 | tuple {a:Addr} {xs:List V}:SqT K H a xs->KindOf K H (.ref a) "tuple"
 | list {a:Addr} {xs:List V}:SqL K H a xs->KindOf K H (.ref a) "list"
 | dK {a:Addr} {kvs}:H a=some (.dK kvs)->KindOf K H (.ref a) "dict"
 | dT {a:Addr} {kvs}:H a=some (.dT kvs)->KindOf K H (.ref a) "dict"
def lg (k t:String):Bool:=k == t || (k == "bool" && t == "int")
theorem Inv.clsK (I:Inv X pins σ H s) (h:KindOf X.K H (.ref a) k):∃ o,s.heap.get? a=some o/\o.cls=.type k:=by
 cases h with
 | tuple h=>obtain ⟨its,_,⟨o,e,c,_⟩,_⟩:=I.tuple h;exact ⟨o,e,c⟩
 | list h=>obtain ⟨its,_,⟨o,n,e,c,_⟩,_⟩:=I.list h;exact ⟨o,e,c⟩
 | dK h=>obtain ⟨_,_,_,_,o,_,_,e,c,_⟩:=I.hok a _ h;exact ⟨o,e,c.1⟩
 | dT h=>obtain ⟨_,_,_,_,o,_,_,e,c,_⟩:=I.hok a _ h;exact ⟨o,e,c.1⟩
theorem qf:CallR X (.builtin "isinstance") (fun xs H Q=>∃ x k,xs=[x,.ty "int"]/\KindOf X.K H x k/\Q (.bl (lg k "int")) H):=by
 intro pins s σ H xs us Q I r h
 obtain ⟨x,k,rfl,f,q⟩:=h
 obtain ⟨u,v,rfl,a,d⟩:=lK r
 cases (show v=Value.type "int" from d)
 cases f with
 | int i=>obtain ⟨tk,rfl⟩:=a;exact IsiPair.int_int ⟨.bl true,H,I,rfl,q⟩
 | bool b=>cases (show u=Value.bool b from a);exact IsiPair.bool_int ⟨.bl true,H,I,rfl,q⟩
 | str z=>obtain ⟨tk,rfl⟩:=a;exact IsiPair.str_int ⟨.bl false,H,I.tok _,rfl,q⟩
 | non=>cases (show u=Value.none from a);exact IsiPair.NoneType_int ⟨.bl false,H,I.tok _,rfl,q⟩
 | tuple hh=>cases a;obtain ⟨o,e,c⟩:=I.clsK (.tuple hh);exact IsiPair.tuple_int e c ⟨.bl false,H,I.tok _,rfl,q⟩
 | list hh=>cases a;obtain ⟨o,e,c⟩:=I.clsK (.list hh);exact IsiPair.list_int e c ⟨.bl false,H,I.tok _,rfl,q⟩
 | dK hh=>cases a;obtain ⟨o,e,c⟩:=I.clsK (.dK hh);exact IsiPair.dict_int e c ⟨.bl false,H,I.tok _,rfl,q⟩
 | dT hh=>cases a;obtain ⟨o,e,c⟩:=I.clsK (.dT hh);exact IsiPair.dict_int e c ⟨.bl false,H,I.tok _,rfl,q⟩
theorem nC:CallR X (.builtin "isinstance") (fun xs H Q=>∃ x k,xs=[x,.ty "bool"]/\KindOf X.K H x k/\Q (.bl (lg k "bool")) H):=by
 intro pins s σ H xs us Q I r h
 obtain ⟨x,k,rfl,f,q⟩:=h
 obtain ⟨u,v,rfl,a,d⟩:=lK r
 cases (show v=Value.type "bool" from d)
 cases f with
 | int i=>obtain ⟨tk,rfl⟩:=a;exact IsiPair.int_bool ⟨.bl false,H,I.tok _,rfl,q⟩
 | bool b=>cases (show u=Value.bool b from a);exact IsiPair.bool_bool ⟨.bl true,H,I,rfl,q⟩
 | str z=>obtain ⟨tk,rfl⟩:=a;exact IsiPair.str_bool ⟨.bl false,H,I.tok _,rfl,q⟩
 | non=>cases (show u=Value.none from a);exact IsiPair.NoneType_bool ⟨.bl false,H,I.tok _,rfl,q⟩
 | tuple hh=>cases a;obtain ⟨o,e,c⟩:=I.clsK (.tuple hh);exact IsiPair.tuple_bool e c ⟨.bl false,H,I.tok _,rfl,q⟩
 | list hh=>cases a;obtain ⟨o,e,c⟩:=I.clsK (.list hh);exact IsiPair.list_bool e c ⟨.bl false,H,I.tok _,rfl,q⟩
 | dK hh=>cases a;obtain ⟨o,e,c⟩:=I.clsK (.dK hh);exact IsiPair.dict_bool e c ⟨.bl false,H,I.tok _,rfl,q⟩
 | dT hh=>cases a;obtain ⟨o,e,c⟩:=I.clsK (.dT hh);exact IsiPair.dict_bool e c ⟨.bl false,H,I.tok _,rfl,q⟩
theorem mT:CallR X (.builtin "isinstance") (fun xs H Q=>∃ x k,xs=[x,.ty "tuple"]/\KindOf X.K H x k/\Q (.bl (lg k "tuple")) H):=by
 intro pins s σ H xs us Q I r h
 obtain ⟨x,k,rfl,f,q⟩:=h
 obtain ⟨u,v,rfl,a,d⟩:=lK r
 cases (show v=Value.type "tuple" from d)
 cases f with
 | int i=>obtain ⟨tk,rfl⟩:=a;exact IsiPair.int_tuple ⟨.bl false,H,I.tok _,rfl,q⟩
 | bool b=>cases (show u=Value.bool b from a);exact IsiPair.bool_tuple ⟨.bl false,H,I.tok _,rfl,q⟩
 | str z=>obtain ⟨tk,rfl⟩:=a;exact IsiPair.str_tuple ⟨.bl false,H,I.tok _,rfl,q⟩
 | non=>cases (show u=Value.none from a);exact IsiPair.NoneType_tuple ⟨.bl false,H,I.tok _,rfl,q⟩
 | tuple hh=>cases a;obtain ⟨o,e,c⟩:=I.clsK (.tuple hh);exact IsiPair.tuple_tuple e c ⟨.bl true,H,I,rfl,q⟩
 | list hh=>cases a;obtain ⟨o,e,c⟩:=I.clsK (.list hh);exact IsiPair.list_tuple e c ⟨.bl false,H,I.tok _,rfl,q⟩
 | dK hh=>cases a;obtain ⟨o,e,c⟩:=I.clsK (.dK hh);exact IsiPair.dict_tuple e c ⟨.bl false,H,I.tok _,rfl,q⟩
 | dT hh=>cases a;obtain ⟨o,e,c⟩:=I.clsK (.dT hh);exact IsiPair.dict_tuple e c ⟨.bl false,H,I.tok _,rfl,q⟩
theorem xR {bs:List Bool}:((List.range bs.length).all fun i=>bs.getD i false)=bs.all id:=by
 rw [Bool.eq_iff_iff]
 simp only [List.all_eq_true,List.mem_range,id]
 constructor
 ·intro h b a
  obtain ⟨i,hi,rfl⟩:=List.mem_iff_getElem.mp a
  simpa [List.getD,hi] using h i hi
 ·intro h i hi
  simpa [List.getD,hi] using h _ (List.getElem_mem hi)
theorem AG (B:X.calm=true):CallR X (.builtin "all") (fun xs H Q=>∃ (a:Addr) (bs:List Bool),xs=[.ref a]/\SqL X.K H a (bs.map V.bl)/\Q (.bl (bs.all id)) H):=by
 intro pins s σ H xs us Q I r h
 obtain ⟨a,bs,rfl,n,q⟩:=h
 obtain ⟨u,rfl,j⟩:=eY r
 cases j
 obtain ⟨its,l,p,hz⟩:=I.list n
 have k:=l.length
 rw [Go] at k
 have f:a < s.heap.objs.size:=by obtain ⟨o,_,e,_⟩:=id p;exact Gj e
 refine call_all_walk (wpAny_pyIter_list p.isList ?_)
 refine ⟨s.heap.objs.size,_,_,_,_,_,fun i=>bs.getD i false,rfl,Walks.list (show X.A.in1.handled=none from I.ok.hd B) s.heap.objs.size a (Gx f) its.toArray,⟨⟨_,Gn _ rfl,rfl,rfl⟩,p.isList.at fun o e=>Gd _ e⟩,?_,?_⟩
 ·intro i v s' w C y g
  have c:its[i]?=some v:=by simpa using y
  have hi:i < bs.length:=by
   have:=(Gp.mp c).1
   omega
  obtain ⟨u,hu,j⟩:=l.get (i:=i) (x:=V.bl (bs[i])) (by simp [hi])
  rw [c] at hu
  cases hu
  cases (show v=Value.bool bs[i] from j)
  refine GP ?_
  have e:bs.getD i false=bs[i]:=by simp [List.getD,hi]
  have d:w (bs.getD i false) s':=g
  rw [e] at d
  exact d
 ·intro h' tk z
  have m:Inv X pins σ H { s with heap:=h',toks:=tk }:=I.kept fun b o e=>z b o (by
   intro hm
   have t:b=s.heap.objs.size:=by simpa using hm
   exact absurd (t ▸ Gj e) (Nat.lt_irrefl _)) (Gd _ e)
  refine ⟨.bl (bs.all id),H,m,?_,q⟩
  show Value.bool _=Value.bool _
  rw [Gy,<- k,xR]
def Ite (K:FG) (a:Addr):It :=
 ⟨fun i H=>∃ xs x,SqL K H a xs/\xs[i]?=some x,fun i H x H'=>∃ T y,x=.ref T/\H T=none/\H'=upd H T (.tup [.int i,y])/\∀ xs,SqL K H a xs->xs[i]?=some y,fun i H=>∃ xs,SqL K H a xs/\xs.length<=i⟩
theorem Inv.two {tk:Nat} (I:Inv X pins σ H s) (g:FpOk X pins H e) (f:FpOk X pins H it) (k:∀ b o,b ≠ e->b ≠ it->s.heap.get? b=some o->h'.get? b=some o):Inv X pins σ H { s with heap:=h',toks:=tk }:=by
 have i:∀ b u,H b=some u->b ≠ e/\b ≠ it:=fun b u q=>⟨aS q g.1,aS q f.1⟩
 have a:∀ b,b ∉ [e,it]->b ≠ e/\b ≠ it:=fun b h=>⟨fun z=>h (by simp [z]),fun z=>h (by simp [z])⟩
 refine I.step (g':=s.gens) (d':=s.drawn) (ch:=[e,it]) (fun b h=>?_) (fun b o _ _ d q _=>k b o (a b d).1 (a b d).2 q) (fun b o _ _ d q _=>⟨o.slots,k b o (a b d).1 (a b d).2 q⟩) (fun _ _ _ _ n=>n)
  (fun b o d q=>⟨o,k b o (a b d).1 (a b d).2 q⟩) (fun _ _ q=>q) (fun _ _ _ q=>q) (fun b ps q=>⟨#[],by rw [q];simp⟩) (fun m hm=>?_) (fun b u q=>?_) I.bare
 ·have j:b=e\/b=it:=by simpa using h
  rcases j with rfl | rfl
  ·exact ⟨g.2.2.2.1,g.2.1,g.2.2.2.2.1,g.2.2.2.2.2⟩
  ·exact ⟨f.2.2.2.1,f.2.1,f.2.2.2.2.1,f.2.2.2.2.2⟩
 ·obtain ⟨o,es,p,l,r⟩:=hm
  exact ⟨o,es,p,k _ o (Ne.symm g.2.1) (Ne.symm f.2.1) l,r⟩
 ·refine (I.hok b u q).stay (fun c v d z=>?_) (fun _ z=>z) fun _ _ z=>z
  grind
theorem Inv.trackT (I:Inv X pins σ H s) (J:Inv X pins σ H s0) (f:s0.heap.objs.size<=T) (h:IsTupD s.heap T its.toArray) (G:Vals xs its) (hz:xs.length<=sizeLine):Inv X pins σ (upd H T (.tup xs)) s:=by
 have l:H T=none:=J.hok.fresh f
 obtain ⟨e1,A,y,a,r,C,E,w,B,j,g⟩:=id I
 have d:∀ b,H b=none->∀ o,s0.heap.get? b=some o->upd H T (.tup xs) b=none:=fun b D o e=>by
  rw [ao (Gx (GC (Gj e) f))];exact D
 have i:∀ b u,H b=some u->upd H T (.tup xs) b=some u:=fun b u e=>by rw [ao (aS e l)];exact e
 have k:X.s₀.heap.objs.size<=T:=GQ J.sz f
 refine ⟨e1,A,y,⟨a.keep,a.slot,fun b o q n h=>?_,a.there,fun b ys q=>i _ _ (a.tups b ys q),fun b o u q=>i _ _ (a.frzs b o u q),fun b ps q=>?_⟩,r,C,?_,fun x c q=>?_,fun p m=>?_,?_,g⟩
 ·rw [ao (Gx (GC (Gj q) k))];exact a.free b o q n h
 ·obtain ⟨more,z⟩:=a.tbls b ps q;exact ⟨more,i _ _ z⟩
 ·rw [ao (Gx (GC J.lt f))];exact E
 ·obtain ⟨v,o,F,_⟩:=J.cell x c q
  exact d c (w x c q) o F
 ·obtain ⟨a1,a2,t⟩:=B p m
  exact ⟨a1,d p.1 a2 p.2 (J.pin p m).1,t⟩
 ·exact j.track l ⟨hz,its,G,h⟩
theorem wn {P:Program} {w:World} {K:FG} {elts:List Expr} {k:Nat} {pos:Pos} (a e it:Addr) (j:e ≠ it):Turn P w K (.Tuple elts k pos) (Ite K a) [e,it] e (fun i h=>(∃ old,IsEnum h e it i old)/\h.IsListIter it a i) where
 mem:=by simp
 obj:=fun i h st b g=>by
  obtain ⟨⟨old,he⟩,o,m,c,d⟩:=st
  have L:b=e\/b=it:=by simpa using g
  rcases L with rfl | rfl
  ·exact ⟨_,he,fun v z=>by cases z⟩
  ·exact ⟨o,m,fun v z=>by rw [d] at z;cases z⟩
 keep:=fun i h h' st k=>⟨let ⟨old,he⟩:=st.1;⟨old,k e (by simp) _ he⟩,st.2.at fun o q=>k it (by simp) o q⟩
 item:=by
  intro X N hw M O i pins s σ H E I hf st G
  subst N hw M
  obtain ⟨xs,x,A,J⟩:=G
  obtain ⟨its,F,p,hz⟩:=I.list A
  obtain ⟨u,hu,U⟩:=F.get J
  obtain ⟨⟨old,he⟩,hit⟩:=st
  refine wpAny_pyNext_enum_item he hit p.isList (x:=u) (by simpa using hu) j fun h' B n Q hsz W=>?_
  refine ⟨_,rfl,wpAny_letOwnedTupleGo_enum B fun y t f=>?_⟩
  have l:e < s.heap.objs.size:=Gj he
  have R:Inv X pins σ H { s with heap:=y,toks:=s.toks+1 }:=I.two (hf e (by simp)) (hf it (by simp)) fun b o hb1 hb2 q=>(f.2 b hb1).trans (W b o hb1 hb2 q)
  have D:y.get? s.heap.objs.size=some { cls:=.type "tuple",data:=.seq #[.int i s.toks,u] }:=(f.2 _ (Nat.ne_of_gt l)).trans Q
  have S:=R.trackT (s0:=s) (T:=s.heap.objs.size) (xs:=[.int i,x]) (its:=[.int i s.toks,u]) I (Gv _) ⟨_,D,rfl,_,rfl⟩ (.cons ⟨_,rfl⟩ (.cons U .nil)) (by show 2<=sizeLine;decide)
  refine ⟨.ref s.heap.objs.size,_,S,rfl,⟨_,x,rfl,I.hok.fresh (Gv _),rfl,fun ys hy=>by rw [I.list_inj hy A];exact J⟩,⟨⟨_,by simpa using t⟩,?_⟩,fun b g=>?_⟩
  ·obtain ⟨o,m,r⟩:=n
   exact ⟨o,(f.2 it (Ne.symm j)).trans m,r⟩
  ·have C:b < s.heap.objs.size:=by
    have L:b=e\/b=it:=by simpa using g
    rcases L with rfl | rfl
    ·exact l
    ·obtain ⟨o,m,r⟩:=hit;exact Gj m
   rw [ao (Gx C)]
   exact (hf b g).1
 done:=by
  intro X N hw M O i pins s σ H E I hf st G
  subst N hw M
  obtain ⟨xs,A,J⟩:=G
  obtain ⟨its,F,p,hz⟩:=I.list A
  obtain ⟨⟨old,he⟩,hit⟩:=st
  have hl:=F.length
  obtain ⟨f0,f1,f2,Z,f4,V⟩:=hf it (by simp)
  exact wpAny_pyNext_enum_end (I.ok.hd O) he hit p.isList (by simp;omega) fun h' Y=>⟨rfl,I.turned (t':=s.toks) (fun b o g q=>Y b o g q) f0 f1 Z f4 V⟩
 self:=fun _ _ _ _ _ st h=>let ⟨_,he⟩:=st.1;wpAny_pyIter_enum he h
def Ds (K:FG) (ta:TA):TI:=fun σ H R=>ta σ H fun b H1=>∃ a,b=[.ref a]/\(∃ xs,SqL K H1 a xs)/\R (Ite K a) H1
theorem B5 {k:Nat} (f:Gl X "enumerate") (hm:X.mg "enumerate"=none) (o:PA X [a] ta) (m:starEach [a] X.env=[(false,eval a X.env)]:=by rfl):PI X (.Tuple elts k tp) (.Call (.Name "enumerate" p) [a] [] pos) (Ds X.K ta):=by
 intro pins s σ H R I h
 refine Call_ (kj I f hm boot_enumerate (PyProof.Rows.callWith_type1 (thn (o pos pins s σ H _ I h) fun us s1 ⟨t,H1,d,l,i⟩=>?_) m rfl))
 obtain ⟨a,e,⟨xs,j⟩,q⟩:=i
 subst e
 obtain ⟨u,rfl,n⟩:=eY l
 cases n
 obtain ⟨its,w,pl,hz⟩:=d.list j
 refine call_enumerate_list pl.isList fun h' he hit hsz r=>?_
 refine wpAny_pyIter_enum he ?_
 have g:Inv X pins σ H1 { s1 with heap:=h' }:=d.kept (t':=s1.toks) r
 refine ⟨s1.heap.objs.size+1,[s1.heap.objs.size+1,s1.heap.objs.size],_,_,H1,rfl,g,wn a _ _ (Nat.succ_ne_self _),⟨⟨_,he⟩,hit⟩,fun b v=>?_,q⟩
 have c:s1.heap.objs.size<=b:=by
  grind
 exact d.fpOk c (d.hok.fresh c)
end
end L2
end
section
namespace L2
open PySem PySem.Spec PyProof.Rows
structure Callee (P:Program) (w:World) (K:FG) (mg:Str->Option Value) (base:Heap) (x:Str) (k:Nat) (ps:List Str) (sp:Sp):Prop where
 ex:∃ (f:Addr) (fd:FuncData),FnOk P w K mg base CX0 k f fd ps sp/\mg x=some (.ref f)/\PySem.W.keepIn K (.ref f)=true/\Binds K fd ps []
structure DefAt (K:FG) (mg:Str->Option Value) (x:Str) (st:Stmt) (f:Addr) (fd:FuncData):Prop where
 fn:Fun K x x st f fd
 mg:mg x=some (.ref f)
def Def (K:FG) (mg:Str->Option Value) (x:Str) (st:Stmt):Prop:=∃ f fd,DefAt K mg x st f fd
theorem Def.callee {K:FG} {st:Stmt} {k:Nat} (D:Def K mg x st) (b:∀ (kV doc pm:Value) (an:Option Addr) (a ct:Value) (us:List Value),us.length=ps.length->bindArgs (PySem.W.fnOf x x (aQ st) (aE st) (ad st) .none kV doc pm an a ct) ⟨us,[]⟩=pure (ps.zip us)) (h:∀ f fd,Fun K x x st f fd->FnOk P w K mg base CX0 k f fd ps sp):Callee P w K mg base x k ps sp :=
 let ⟨f,fd,d⟩:=D
 ⟨f,fd,h f fd d.fn,d.mg,d.fn.kp,d.fn.binds b⟩
section
variable {X:Cx} {x:Str} {p pos:Pos} {e:Expr} {es:List Expr} {t:TA} {k:Nat} {ps:List Str} {sp:Sp}
def tFn (sp:Sp) (t:TA):TE:=fun σ H Q=>t σ H fun a H1=>sp a H1 Q E0
theorem pe_fn (c:Callee X.prog X.w X.K X.mg X.base x k ps sp) (l:Room k X.A) (g:PA X (e :: es) t) (j:Gl X x:=by rfl) (a:(x == ("__debug__":Str))=false:=by decide)
  (he:starEach (e :: es) X.env=(false,eval e X.env) :: starEach es X.env:=by rfl) (b:(backTo pos (starEach es X.env)).any (·.1)=false:=by rfl):PE X (.Call (.Name x p) (e :: es) [] pos) (tFn sp t):=by
 obtain ⟨f,fd,F,hm,n,m⟩:=c.ex
 have h:=B8 (pos:=pos) (p:=p) (dvs:=[]) (E:=E0) F l j hm n m .nil pass0 g a he b
 intro pins s σ H Q I q
 refine h pins s σ H Q I ?_
 show t σ H fun d H1=>sp (d ++ []) H1 Q E0
 have i:t σ H (fun d H1=>sp d H1 Q E0):=q
 simpa using i
end
def But (p:Addr) (H H':Hp):Prop:=∀ b o,H b=some o->b ≠ p->H' b=some o
theorem But.trans (a:But p H H1) (b:But p H1 H2):But p H H2:=fun c o h n=>b c o (a c o h n) n
abbrev Pt:=Int × Int
def a8 (p q r:Pt):Int:=(q.1 - p.1) * (r.2 - p.2) - (q.2 - p.2) * (r.1 - p.1)
def Small (p:Pt):Prop:=-(2 ^ 62) < p.1/\p.1 < 2 ^ 62/\-(2 ^ 62) < p.2/\p.2 < 2 ^ 62
def Rising (ps:List Pt):Prop:=∀ (i j:Nat) (p q:Pt),i < j->ps[i]?=some p->ps[j]?=some q->p.1 < q.1
def NoLine (ps:List Pt):Prop:=∀ (i j k:Nat) (p q r:Pt),i < j->j < k->ps[i]?=some p->ps[j]?=some q->ps[k]?=some r->a8 p q r ≠ 0
structure GoodSh (ps:List Pt):Prop where
 pos:0 < ps.length
 most:ps.length<=24
 small:∀ p ∈ ps,Small p
 rising:Rising ps
 noline:NoLine ps
def xP:Expr->Option Int
 | .Constant (.int i) _ _=>some i
 | _=>none
theorem vv:∀ {es:List Expr} (ns:List Int),es.map xP=ns.map some->PA X es (fun _ H Q=>Q (ns.map V.int) H)
 | [],[],_=>mj
 | [],_ :: _,h=>by simp at h
 | _ :: _,[],h=>by simp at h
 | e :: es,n :: ns,h=>by
  simp only [Gz,List.cons.injEq] at h
  obtain ⟨h1,h2⟩:=h
  have a:=vv (X:=X) ns h2
  cases e with
  | Constant c j pos =>
   cases c with
   | int i =>
    have b:i=n:=by simpa [xP] using h1
    subst b
    exact fP pG a
   | _=>simp [xP] at h1
  | _=>simp [xP] at h1
def kQ:List Pt->List (Pt × Pt)
 | []=>[]
 | p :: r=>r.map (fun q=>(p,q)) ++ kQ r
theorem oE:∀ {ps:List Pt} {i j:Nat} {p q:Pt},i < j->ps[i]?=some p->ps[j]?=some q->(p,q) ∈ kQ ps
 | [],_,_,_,_,_,h,_=>by simp at h
 | a :: r,0,0,_,_,h,_,_=>by omega
 | a :: r,0,j+1,p,q,_,h1,h2=>by
  simp at h1 h2;subst h1
  exact Gf _ (Gs.mpr ⟨q,Gq h2,rfl⟩)
 | a :: r,i+1,0,_,_,h,_,_=>by omega
 | a :: r,i+1,j+1,p,q,h,h1,h2=>Gg _ (oE (ps:=r) (i:=i) (j:=j) (by omega) (by simpa using h1) (by simpa using h2))
theorem rf:∀ {ps:List Pt} {p q:Pt},(p,q) ∈ kQ ps->∃ i j:Nat,i < j/\ps[i]?=some p/\ps[j]?=some q
 | [],_,_,h=>by simp [kQ] at h
 | a :: r,p,q,h=>by
  rcases Gk.mp h with h | h
  ·obtain ⟨z,hz,e⟩:=Gs.mp h
   cases e
   obtain ⟨j,b,e⟩:=List.mem_iff_getElem.mp hz
   exact ⟨0,j+1,by omega,rfl,by simp [b,e]⟩
  ·obtain ⟨i,j,h0,h1,h2⟩:=rf h
   exact ⟨i+1,j+1,by omega,by simpa using h1,by simpa using h2⟩
theorem oA:∀ ps:List Pt,(kQ ps).length<=ps.length * ps.length
 | []=>by simp [kQ]
 | a :: r=>by
  have b:=oA r
  simp only [kQ,GF,Go,GG]
  have:(r.length+1) * (r.length+1)=r.length * r.length+2 * r.length+1:=by
   rw [Nat.add_mul,Nat.mul_add];omega
  omega
def AX (ps:List Pt) (z:Pt):Prop:=∀ (i j:Nat) (p q:Pt),i < j->ps[i]?=some p->ps[j]?=some q->a8 p q z ≠ 0
def above (ps:List Pt) (x y:Int):Nat:=((kQ ps).filter fun pr=>decide (a8 pr.1 pr.2 (x,y)<=0)).length
theorem AA {α:Type} {p q:α->Bool}:∀ {l:List α},(∀ a ∈ l,p a=true->q a=true)->(l.filter p).length<=(l.filter q).length
 | [],_=>by simp
 | a :: l,h=>by
  have d:=AA (l:=l) fun b f=>h b (Gb _ f)
  have g:=h a Ga
  cases c:p a with
  | true=>rw [List.filter_cons_of_pos c,List.filter_cons_of_pos (g c)];simpa using d
  | false =>
   rw [List.filter_cons_of_neg (by simp [c])]
   cases e:q a with
   | true=>rw [List.filter_cons_of_pos e];simp;omega
   | false=>rw [List.filter_cons_of_neg (by simp [e])];exact d
theorem Az {α:Type} {p q:α->Bool}:∀ {l:List α} {z:α},(∀ a ∈ l,p a=true->q a=true)->z ∈ l->q z=true->p z=false->(l.filter p).length < (l.filter q).length
 | [],_,_,hz,_,_=>by simp at hz
 | a :: l,z,h,hz,h1,h2=>by
  have d:∀ b ∈ l,p b=true->q b=true:=fun b g=>h b (Gb _ g)
  rcases Gh.mp hz with rfl | hz
  ·rw [List.filter_cons_of_neg (by simp [h2]),List.filter_cons_of_pos h1]
   have:=AA d
   simp;omega
  ·have e:=Az d hz h1 h2
   have i:=h a Ga
   cases c:p a with
   | true=>rw [List.filter_cons_of_pos c,List.filter_cons_of_pos (i c)];simpa using e
   | false =>
    rw [List.filter_cons_of_neg (by simp [c])]
    cases f:q a with
    | true=>rw [List.filter_cons_of_pos f];simp;omega
    | false=>rw [List.filter_cons_of_neg (by simp [f])];exact e
theorem wb (p q:Pt) (x y:Int):a8 p q (x,y+1)=a8 p q (x,y)+(q.1 - p.1):=by
 unfold a8
 grind
theorem AS {x y:Int} (R:Rising ps) {i j:Nat} (a:i < j) (hi:ps[i]?=some p) (c:ps[j]?=some q) (h0:a8 p q (x,y)=0):above ps x (y+1) < above ps x y:=by
 refine Az (z:=(p,q)) (fun pr b h=>?_) (oE a hi c) (by simp [h0]) ?_
 ·obtain ⟨f,e,h',e1,d⟩:=rf (p:=pr.1) (q:=pr.2) b
  have:=R f e _ _ h' e1 d
  have h:=of_decide_eq_true h
  rw [wb] at h
  exact GA (by omega)
 ·have:=R i j _ _ a hi c
  show decide (a8 p q (x,y+1)<=0)=false
  rw [wb,h0]
  exact GB (by omega)
theorem AT (ps:List Pt) (x y:Int):above ps x y<=ps.length * ps.length:=GQ (List.length_filter_le _ _) (oA ps)
theorem di {α:Type} {l:List α} {z a:α} {i:Nat} (h:(l ++ [z])[i]?=some a):(l[i]?=some a/\i < l.length)\/(a=z/\i=l.length):=by grind
theorem Rising.snoc (R:Rising ps) (h:∀ p ∈ ps,p.1 < z.1):Rising (ps ++ [z]):=fun i j p q a h1 h2=>by
 rcases di h1 with ⟨a1,b1⟩ | ⟨rfl,b1⟩
 ·rcases di h2 with ⟨a2,b2⟩ | ⟨rfl,b2⟩
  ·exact R i j p q a a1 a2
  ·exact h p (Gq a1)
 ·rcases di h2 with ⟨a2,b2⟩ | ⟨rfl,b2⟩
  ·omega
  ·omega
theorem NoLine.snoc (N:NoLine ps) (F:AX ps z):NoLine (ps ++ [z]):=fun i j k p q r a b h1 h2 h3=>by
 rcases di h1 with ⟨a1,b1⟩ | ⟨rfl,b1⟩
 ·rcases di h2 with ⟨a2,b2⟩ | ⟨rfl,b2⟩
  ·rcases di h3 with ⟨d,c⟩ | ⟨rfl,c⟩
   ·exact N i j k p q r a b a1 a2 d
   ·exact F i j p q a a1 a2
  ·rcases di h3 with ⟨d,c⟩ | ⟨rfl,c⟩ <;> omega
 ·rcases di h2 with ⟨a2,b2⟩ | ⟨rfl,b2⟩ <;> omega
def jj (a b c:Int) (p:Pt):Pt:=(a * p.1+c,b * p.2)
theorem uJ (a b c:Int) (p q r:Pt):a8 (jj a b c p) (jj a b c q) (jj a b c r)=(a * b) * a8 p q r:=by
 unfold a8 jj
 grind
theorem Rising.scale {a b c:Int} (g:0 < a) (R:Rising ps):Rising (ps.map (jj a b c)):=fun i j p q d h1 h2=>by
 rw [Gu] at h1 h2
 obtain ⟨f,e1,rfl⟩:=Ge.mp h1
 obtain ⟨e,h,rfl⟩:=Ge.mp h2
 have:=R i j f e d e1 h
 have h3:a * f.1 < a * e.1:=Int.mul_lt_mul_of_pos_left this g
 show a * f.1+c < a * e.1+c
 omega
theorem NoLine.scale {a b c:Int} (n:0 < a) (o:0 < b) (N:NoLine ps):NoLine (ps.map (jj a b c)):=fun i j k p q r e d h1 h2 h3=>by
 rw [Gu] at h1 h2 h3
 obtain ⟨m,e1,rfl⟩:=Ge.mp h1
 obtain ⟨h,l,rfl⟩:=Ge.mp h2
 obtain ⟨f,g,rfl⟩:=Ge.mp h3
 rw [uJ]
 exact Int.mul_ne_zero (Int.mul_ne_zero (by omega) (by omega)) (N i j k m h f e d e1 l g)
section InBlock
variable {X:Cx} {NY:List Str} {scope:Scope} {s:Shared} {H:Hp} {C:Addr} {fp:List Addr}
end InBlock
end L2
end
section
namespace L2
open PySem PySem.Spec PyProof.Rows
mutual
inductive DV (K:FG) (H:Hp):V->PyData->Prop
 | non:DV K H .non .none
 | bl (b:Bool):DV K H (.bl b) (.bool b)
 | int (i:Int):DV K H (.int i) (.int i)
 | str (x:Str):DV K H (.str x) (.str x)
 | tup {a:Addr} {xs:List V} {ds:List PyData}:SqT K H a xs->DVs K H xs ds->DV K H (.ref a) (.tuple ds)
 | lst {a:Addr} {xs:List V} {ds:List PyData}:SqL K H a xs->DVs K H xs ds->DV K H (.ref a) (.list ds)
inductive DVs (K:FG) (H:Hp):List V->List PyData->Prop
 | nil:DVs K H [] []
 | cons {x:V} {d:PyData} {xs:List V} {ds:List PyData}:DV K H x d->DVs K H xs ds->DVs K H (x :: xs) (d :: ds)
end
section
variable {X:Cx} {pins:List (Addr × Obj)} {σ:St} {H:Hp} {s:Shared}
mutual
theorem DV.reads (I:Inv X pins σ H s):∀ {v:V} {d:PyData} {u:Value},DV X.K H v d->RelV v u->∃ as,Reads s.heap u d as
 | _,_,u,.non,r=>by cases (show u=Value.none from r);exact ⟨_,.none⟩
 | _,_,u,.bl b,r=>by cases (show u=Value.bool b from r);exact ⟨_,.bool b⟩
 | _,_,u,.int i,r=>by obtain ⟨t,rfl⟩:=r;exact ⟨_,.int i t⟩
 | _,_,u,.str x,r=>by obtain ⟨t,rfl⟩:=r;exact ⟨_,.str x t⟩
 | _,_,u,.tup (a:=a) h rs,r=>by
  cases (show u=Value.ref a from r)
  obtain ⟨its,f,⟨o,e,c,n,d⟩,_⟩:=I.tuple h
  obtain ⟨as,q⟩:=DVs.reads I rs f
  exact ⟨_,.tuple e c d (by simpa using q)⟩
 | _,_,u,.lst (a:=a) h rs,r=>by
  cases (show u=Value.ref a from r)
  obtain ⟨its,f,⟨o,n,e,c,_,d⟩,_⟩:=I.list h
  obtain ⟨as,q⟩:=DVs.reads I rs f
  exact ⟨_,.list e c d (by simpa using q)⟩
theorem DVs.reads (I:Inv X pins σ H s):∀ {v:List V} {d:List PyData} {us:List Value},DVs X.K H v d->Vals v us->∃ as,ReadsAll s.heap us d as
 | _,_,_,.nil,.nil=>⟨_,.nil⟩
 | _,_,_,.cons h r,.cons q t=>by
  obtain ⟨as,e1⟩:=DV.reads I h q
  obtain ⟨bs,a⟩:=DVs.reads I r t
  exact ⟨_,.cons e1 a⟩
end
end
section
variable {X:Cx}
theorem xI (f:X.A.guards=some []) (hu:X.A.units+64 < cLine):CallR X (.builtin "repr") (fun xs H Q=>∃ (a:Addr) (d:PyData),xs=[.ref a]/\DV X.K H (.ref a) d/\d.showable=true/\d.hasDict=false/\d.depth<=16/\d.shown.length<=sizeLine/\Q (.str d.shown) H):=by
 intro pins s σ H xs us Q I r h
 obtain ⟨a,d,rfl,hd,h1,h2,h3,g,q⟩:=h
 obtain ⟨u,rfl,c⟩:=eY r
 cases (show u=Value.ref a from c)
 obtain ⟨as,b⟩:=DV.reads I hd rfl
 exact repr_of_reads' b h1 (PyData.noDict_hsm h2) f (by omega) (fun _ _ e=>e) (fun h' j tk i=>⟨.str d.shown,H,I.kept i,⟨_,rfl⟩,q⟩) g
end
end L2
end
section
namespace L2
open PySem PySem.Spec PyProof.Rows
abbrev zK (i:Int):Str:=Str.ofString (toString i)
def dig (m:Nat):List Nat:=(Nat.toDigits 10 m).map Char.toNat
theorem numC (i:Int):(zK i).cps.toList=if i < 0 then 45 :: dig i.natAbs else dig i.natAbs:=by
 cases i with
 | ofNat m =>
  rw [if_neg (by simp)]
  exact PySem.W.KIN.signs_num m
 | negSucc m =>
  rw [if_pos (by exact Int.negSucc_lt_zero m)]
  unfold zK
  rw [PyProof.Rows.signs_ofString]
  show (("-" ++ toString (Nat.succ m)):String).toList.map Char.toNat=45 :: dig (Nat.succ m)
  rw [String.toList_append,List.map_append]
  show [45] ++ ((Nat.repr (m+1)).toList.map Char.toNat)=_
  rw [Nat.toList_repr]
  rfl
theorem CU {m k:Nat} (a:0 < k) (h:m < 10 ^ k):(dig m).length<=k:=by
 unfold dig
 rw [Go]
 exact (Nat.length_toDigits_le_iff (by decide) a).mpr h
theorem zJ {i:Int} (h0:-(2 ^ 62) < i) (h1:i < 2 ^ 62):(zK i).length<=20:=by
 have e:(zK i).length=(zK i).cps.toList.length:=by simp [Str.length]
 have hd:(dig i.natAbs).length<=19:=CU (by decide) (by omega)
 rw [e,numC]
 split
 ·simp only [GG];omega
 ·omega
end L2
end
section
namespace L2
open PySem PySem.Spec PyProof.Rows
end L2
end
section
namespace L2
open PySem PySem.Spec PyProof.Rows
end L2
end
section
namespace L2
open PySem PySem.Spec PyProof.Rows
end L2
end
section
namespace L2
open PySem PySem.Spec PyProof.Rows
end L2
end
section
namespace L2
open PySem PySem.Spec PyProof.Rows
end L2
end
section
namespace L2
open PySem PySem.Spec PyProof.Rows
end L2
end
section
namespace L2
open PySem PySem.Spec PyProof.Rows
end L2
end
section
namespace L2
open PySem PySem.Spec PyProof.Rows
end L2
end
section
namespace L2
open PySem PySem.Spec PyProof.Rows
end L2
end
section
namespace PySem
open Sem (wp)
end PySem
end
section
namespace L2
open PySem PySem.Spec PyProof.Rows
end L2
end
section
namespace L2
open PySem PySem.Spec PyProof.Rows
end L2
end
section
namespace L2
open PySem PySem.Spec PyProof.Rows
section
variable {X:Cx}
theorem zQ:MtR X "list.index" (fun x D H Q=>∃ (a:Addr) (xs:List V) (k:V) (j:Nat),x=.ref a/\D=[k]/\SqL X.K H a xs/\gu k=true/\xs.all gu=true/\(∃ y,xs[j]?=some y/\eqV y k=true)/\(∀ (i:Nat) (y:V),i < j->xs[i]?=some y->eqV y k=false)/\Q (.int j) H):=by
 intro pins s σ H x D v us Q I N U h
 obtain ⟨a,xs,k,j,rfl,rfl,R,M,fx,⟨y,C,S⟩,A,q⟩:=h
 cases N
 obtain ⟨u,rfl,P⟩:=eY U
 obtain ⟨its,r,⟨o,n,e,L,hd,E⟩,hz⟩:=I.list R
 obtain ⟨w,hw,g⟩:=r.get C
 have hlen:=r.length
 have T:j < its.length:=(Gp.mp hw).1
 have G:∀ z ∈ xs,gu z=true:=List.all_eq_true.mp fx
 have hit:eqU k its.toArray[j]=true:=by
  have e1:its.toArray[j]=w:=by
   have:=(Gp.mp hw).2
   simpa using this
  rw [e1,p6 g (G y (Gq C))]
  exact S
 have no:∀ m (hm:m < its.toArray.size),m < j->eqU k its.toArray[m]=false:=fun m hm l=>by
  have b:m < xs.length:=by simp at hm;omega
  obtain ⟨O,f,t⟩:=r.get (Gi b)
  have e1:its.toArray[m]=O:=by
   have:=(Gp.mp f).2
   simpa using this
  rw [e1,p6 t (G _ (List.getElem_mem _))]
  exact A m _ l (Gi b)
 have J:s.heap.get? a=some { cls:=.type "list",dict:=none,data:=.seq its.toArray n,slots:=o.slots }:=by
  rw [e]
  obtain ⟨c,d,dt,sl⟩:=o
  dsimp only at L hd E
  subst L hd E
  rfl
 have B:(j:Int) < 2 ^ 63 - 1:=by
  have:sizeLine < 2 ^ 60:=by decide
  omega
 refine call_meets F.slot_list_index ⟨_,J,rfl⟩ F.entry_list_index (F.args_list_index_2 _ _) (SeqAt.list_indexAt a its.toArray n none o.slots u (eqU k) j (by simpa using T) B hit no) ⟨J,fun z p=>mw P M r fx z (by simpa using p),?_⟩
 exact ⟨.int j,H,I.tok _,⟨_,rfl⟩,q⟩
end
end L2
end
section
namespace PyProof.Rows
open PySem
end PyProof.Rows
end
section
namespace L2
open PySem PySem.Spec PyProof.Rows
theorem ju:∀ {us:List Value} {ns:List Int},IntsAre us ns->Vals (ns.map V.int) us
 | _,_,.nil=>.nil
 | _,_,.cons n t h=>.cons ⟨t,rfl⟩ (ju h)
end L2
end
section
namespace L2
open PySem PySem.Spec PyProof.Rows
end L2
end
section
namespace L2
open PySem PySem.Spec PyProof.Rows
def IsNts (h:Heap) (b:Addr) (n:List Int):Prop:=∃ it:Array Value,IsTup h b it/\IntsAre it.toList n
end L2
end
section
namespace L2
open PySem PySem.Spec PyProof.Rows
abbrev a9 (f:Bool):SortKind:=(sortPriv% PySem.Builtin.KeyKind.tuples) f
section
variable {prog:Program} {w:World} {A:Around} {E:Value->Shared->Prop} {s:Shared}
theorem tU (f:Bool) {a b:Int} (h:Q (decide (a < b)) s):wpAny (model prog w) A (oneLt' f (.int a t) (.int b u)) Q E s:=by
 cases f with
 | true=>exact oneLt_int h
 | false =>
  rw [oneLt'_eq]
  simp only [GL,if_false]
  refine F7 (HT.rcLt_int A s a t b u prog w E _ ?_)
  exact GP h
theorem oI (f:Bool) (n m:Nat) {k:Option Bool × Unit->Sem Bool} (l:∀ p q i c,g ((p,q),i) c=(do
          let b <- eqBool p q
          if (!b)=true then do
            let r <- oneLt' (f && i == 0) p q
            pure (ForInStep.done (some r,()))
          else pure (ForInStep.yield (none,())))) (h:∀ b,k (some b,())=pure b) (d:k (none,())=pure (decide (n < m))):∀ (j ws:List Value) (ns ms:List Int) (i:Nat),IntsAre j ns->IntsAre ws ms->ns.length+m=ms.length+n->Q (HT.lexLt ns ms) s ->
    wpAny (model prog w) A (forIn ((j.zip ws).zipIdx i) ((none,()):Option Bool × Unit) g) (fun r s'=>wpAny (model prog w) A (k r) Q E s') E s
  | [],ws,ns,ms,i,h1,h2,hl,q=>by
    cases h1
    have e:HT.lexLt [] ms=decide (n < m):=by
      cases ms with
      | nil=>simp at hl;rw [HT.lexLt_nil_nil];exact (GB (by omega)).symm
      | cons a ms=>simp at hl;rw [HT.lexLt_nil_cons];exact (GA (by omega)).symm
    rw [e] at q
    rw [List.zip_nil_left]
    simp only [List.zipIdx_nil,List.forIn_nil]
    refine F8 ?_
    rw [d]
    exact F8 q
  | v :: j,[],ns,ms,i,h1,h2,hl,q=>by
    cases h2
    cases h1 with
    | cons a t h1 =>
    rename_i ns
    have e:HT.lexLt (a :: ns) []=decide (n < m):=by
      simp at hl;rw [HT.lexLt_cons_nil];exact (GB (by omega)).symm
    rw [e] at q
    rw [List.zip_nil_right]
    simp only [List.zipIdx_nil,List.forIn_nil]
    refine F8 ?_
    rw [d]
    exact F8 q
  | v :: j,u :: ws,ns,ms,i,h1,h2,hl,q=>by
    cases h1 with
    | cons a t h1 =>
    cases h2 with
    | cons b t2 h2 =>
    rename_i ns ms
    rw [List.zip_cons_cons,List.zipIdx_cons,List.forIn_cons,l]
    rw [HT.lexLt_cons] at q
    refine F7 (F7 ((intKind prog w).eqBool (a:=a) (b:=b) (by simp [intKind,Value.isInt]) (by simp [intKind,Value.isInt]) ?_))
    by_cases e:a=b
    · rw [if_pos e] at q
      rw [GA e]
      simp only [Bool.not_true,GL,if_false]
      refine F8 ?_
      exact oI f n m l h d j ws ns ms (i+1) h1 h2 (by simp at hl;omega) q
    · rw [if_neg e] at q
      rw [GB e]
      simp only [Bool.not_false,if_true]
      refine F7 (tU _ (F8 (F8 ?_)))
      rw [h]
      exact F8 q
theorem xi (k:IsNts s.heap a x) (l:IsNts s.heap b y) (h:Q (HT.lexLt x y) s):wpAny (model prog w) A (keyLt' (a9 f) (.ref a) (.ref b)) Q E s:=by
 obtain ⟨d,⟨p,e1,c1,t,m⟩,g⟩:=k
 obtain ⟨c,⟨r,j,c2,q,i⟩,e⟩:=l
 refine F7 (listItems_at e1 m ?_)
 refine F7 (listItems_at j i ?_)
 refine F7 ?_
 have n:x.length=d.size:=by rw [<- g.length];simp
 have o:y.length=c.size:=by rw [<- e.length];simp
 exact oI f d.size c.size (fun _ _ _ _=>rfl) (fun _=>rfl) rfl d.toList c.toList x y 0 g e (by omega) h
end
end L2
end
section
namespace L2
open PySem PySem.Spec PyProof.Rows
end L2
end
section
namespace L2
open PySem PySem.Spec PyProof.Rows
section
variable {prog:Program} {w:World} {A:Around} {E:Value->Shared->Prop} {s:Shared}
theorem ul (v:Value):firstOfTuple' v=(do
  if (<- typeOf v) != .type "tuple" then return none
  return (<- Builtin.List.listItems v)[0]?):=rfl
theorem oU (f:IsNts s.heap b n) (h0:n ≠ []) (h:∀ i t,Q (some (.int i t)) s):wpAny (model prog w) A (firstOfTuple' (.ref b)) Q E s:=by
 obtain ⟨it,⟨o,e,c,k,d⟩,j⟩:=f
 rw [ul]
 refine F7 (wpAny_typeOf (T:="tuple") ⟨o,e,c⟩ ?_)
 rw [if_neg (by decide)]
 refine F7 (listItems_at e d ?_)
 cases a:it.toList with
 | nil=>rw [a] at j;cases j;exact absurd rfl h0
 | cons v vs =>
  rw [a] at j
  cases j with
  | cons i t j =>
   have:it[0]?=some (.int i t):=by rw [<- Array.getElem?_toList,a];rfl
   rw [this]
   exact F8 (h i t)
theorem mP:∀ (bs:List Addr),(∀ b ∈ bs,∃ n,n ≠ []/\IsNts s.heap b n)->(∀ (a:List Value) (ns:List Int),IntsAre a ns->a.length=bs.length->Q (a.map some) s) ->
  wpAny (model prog w) A ((bs.map Value.ref).mapM firstOfTuple') Q E s
 | [],_,q=>by
  simp only [List.map_nil,List.mapM_nil]
  exact F8 (q [] [] .nil rfl)
 | b :: bs,h,q=>by
  rw [Gz,List.mapM_cons]
  obtain ⟨n,h0,d⟩:=h b Ga
  refine F7 (oU d h0 fun i t=>?_)
  refine F7 (mP bs (fun c f=>h c (Gb _ f)) fun a ns hi e=>?_)
  exact F8 (q (.int i t :: a) (i :: ns) (.cons i t hi) (by simp [e]))
theorem z8 (h2:bs ≠ []) (d:∀ b ∈ bs,∃ n,n ≠ []/\IsNts s.heap b n) (h:Q (a9 true) s):wpAny (model prog w) A (keyKind' (bs.map Value.ref).toArray) Q E s:=by
 rw [keyKind'_eq,List.mapM_toArray]
 refine F7 ?_
 rw [map_eq_pure_bind]
 refine F7 (mP bs d fun a ns hi e=>F8 ?_)
 have f:(a.map some).toArray.all (·.isSome)=true:=by simp
 rw [if_pos f]
 refine F7 (wpAny_rule ?_)
 have hf:(a.map some).toArray.filterMap id=a.toArray:=by simp
 rw [hf,oneTypeOnly'_eq,List.mapM_toArray,mapM_typeOf_ints hi]
 simp only [map_pure,pure_bind]
 cases a with
 | nil=>exact absurd (GV.mp e.symm) h2
 | cons v a =>
  have c:((List.map (fun _=>Value.type "int") (v :: a)).toArray.all fun x=>x == Value.type "int")=true:=by
   simp only [List.all_toArray,List.all_map,List.all_eq_true]
   intro _ _
   rfl
  have h0:(List.map (fun _=>Value.type "int") (v :: a)).toArray[0]?=some (Value.type "int"):=by simp
  rw [h0]
  simp only [c,if_true,pure_bind,Option.any_some]
  exact F8 h
end
end L2
end
section
namespace L2
open PySem PySem.Spec PyProof.Rows
theorem IsNts.at (x:IsNts h b n) (e:∀ o,h.get? b=some o->h'.get? b=some o):IsNts h' b n:=by
 obtain ⟨it,⟨o,e1,r⟩,j⟩:=x
 exact ⟨it,⟨o,e o e1,r⟩,j⟩
structure NRow (h:Heap) (bs:List Addr) (ns:List (List Int)):Prop where
 len:ns.length=bs.length
 at':∀ (i:Nat) (b:Addr) (n:List Int),bs[i]?=some b->ns[i]?=some n->IsNts h b n/\n ≠ []
 asc:∀ (i:Nat) (x y:List Int),ns[i]?=some y->ns[i+1]?=some x->HT.lexLt x y=false
theorem NRow.keep (r:NRow h bs ns) (k:∀ b ∈ bs,∀ o,h.get? b=some o->h'.get? b=some o):NRow h' bs ns :=
 ⟨r.len,fun i b n e1 a=>⟨(r.at' i b n e1 a).1.at (k b (Gq e1)),(r.at' i b n e1 a).2⟩,r.asc⟩
end L2
end
section
namespace L2
open PySem PySem.Spec PyProof.Rows
end L2
end
section
namespace L2
open PySem PySem.Spec PyProof.Rows
end L2
end
section
namespace L2
open PySem PySem.Spec PyProof.Rows
theorem jt:∀ bs:List Addr,Vals (bs.map V.ref) (bs.map Value.ref)
 | []=>.nil
 | _ :: bs=>.cons rfl (jt bs)
end L2
end
section
namespace L2
open PySem
abbrev Up (xs:Array Nat):Prop:=xs.toList.Pairwise (· < ·)
theorem Up.at (h:Up xs) {i k:Nat} (a:i < k) (b:k < xs.size):xs[i]'(by omega) < xs[k]:=by
 have:=List.pairwise_iff_getElem.mp h i k (by simp;omega) (by simpa using b) a
 simpa using this
theorem AK (h:Up xs) (j:Nat):∀ (fuel lo hi:Nat),hi - lo<=fuel->lo<=hi->hi<=xs.size ->
  (∀ i (z:i < xs.size),i < lo->xs[i] < j)->(∀ i (z:i < xs.size),hi<=i->j<=xs[i]) ->
  (∀ i (z:i < xs.size),i < SetTable.below.go xs j fuel lo hi->xs[i] < j)/\(∀ i (z:i < xs.size),SetTable.below.go xs j fuel lo hi<=i->j<=xs[i])/\SetTable.below.go xs j fuel lo hi<=xs.size:=by
 intro fuel
 induction fuel with
 | zero =>
  intro lo hi f l z a b
  have e:lo=hi:=by omega
  subst e
  unfold SetTable.below.go
  exact ⟨a,b,z⟩
 | succ fuel ih =>
  intro lo hi f l z a b
  unfold SetTable.below.go
  by_cases g:lo < hi
  ·rw [if_pos g]
   have hm:(lo+hi) / 2 < xs.size:=by omega
   have m:xs.getD ((lo+hi) / 2) j=xs[(lo+hi) / 2]:=by simp [Array.getD,hm]
   dsimp only
   rw [m]
   by_cases c:xs[(lo+hi) / 2] < j
   ·rw [if_pos c]
    refine ih _ _ (by omega) (by omega) z (fun i k d=>?_) b
    by_cases e:i=(lo+hi) / 2
    ·subst e;exact c
    ·exact Nat.lt_trans (h.at (show i < (lo+hi) / 2 by omega) hm) c
   ·rw [if_neg c]
    refine ih _ _ (by omega) (by omega) (by omega) a (fun i k d=>?_)
    by_cases e:i=(lo+hi) / 2
    ·subst e;omega
    ·have:=h.at (show (lo+hi) / 2 < i by omega) k;omega
  ·rw [if_neg g]
   have e:lo=hi:=by omega
   subst e
   exact ⟨a,b,z⟩
theorem m5 (h:Up xs) (j:Nat):(∀ i (z:i < xs.size),i < SetTable.below xs j->xs[i] < j)/\(∀ i (z:i < xs.size),SetTable.below xs j<=i->j<=xs[i])/\SetTable.below xs j<=xs.size :=
 AK h j xs.size 0 xs.size (by omega) (by omega) (Gv _) (fun i z c=>by omega) (fun i z c=>by omega)
theorem uL (h:Up xs) {i:Nat} (hi:i < xs.size):SetTable.below xs (xs[i]+1)=i+1:=by
 obtain ⟨a,b,c⟩:=m5 h (xs[i]+1)
 generalize SetTable.below xs (xs[i]+1)=r at *
 by_cases l:r<=i
 ·have:=b i hi l;omega
 ·by_cases g:i+1 < r
  ·have h1:=a (i+1) (by omega) g
   have h2:=h.at (show i < i+1 by omega) (by omega)
   omega
  ·omega
theorem uK (h:Up xs):SetTable.below xs 0=0:=by
 obtain ⟨a,b,c⟩:=m5 h 0
 by_cases l:0 < SetTable.below xs 0
 ·have:=a 0 (by omega) l;omega
 ·omega
theorem wl (h:Up xs) {j:Nat} (m:(xs[SetTable.below xs j]? == some j)=false):Up (SetTable.insertAt xs (SetTable.below xs j) j):=by
 obtain ⟨a,b,c⟩:=m5 h j
 show (SetTable.insertAt xs (SetTable.below xs j) j).toList.Pairwise _
 rw [SetTable.toList_insertAt]
 generalize SetTable.below xs j=r at *
 have g:∀ x ∈ xs.toList.take r,x < j:=fun x d=>by
  obtain ⟨i,hi,rfl⟩:=List.mem_take_iff_getElem.mp d
  simp at hi
  exact a i (by omega) (by omega)
 have f:∀ x ∈ xs.toList.drop r,j < x:=fun x d=>by
  obtain ⟨i,hi,rfl⟩:=List.mem_drop_iff_getElem.mp d
  simp at hi
  have h1:=b (r+i) (by omega) (by omega)
  have h2:xs[r]'(by omega) ≠ j:=by
   intro e
   rw [Array.getElem?_eq_getElem (by omega),e] at m
   simp at m
  simp only [Array.getElem_toList]
  rcases Nat.eq_zero_or_pos i with e | e
  ·subst e
   simp only [Nat.add_zero] at h1 ⊢
   omega
  ·have h3:=h.at (show r < r+i by omega) (by omega)
   have n:=b r (by omega) (Gv _)
   omega
 have l:(xs.toList.take r ++ xs.toList.drop r).Pairwise (· < ·):=by rw [List.take_append_drop];exact h
 rw [List.pairwise_append] at l ⊢
 refine ⟨l.1,List.pairwise_cons.mpr ⟨f,l.2.1⟩,fun x d y k=>?_⟩
 rcases Gh.mp k with rfl | k
 ·exact g x d
 ·exact Nat.lt_trans (g x d) (f y k)
theorem wv {t:SetTable} {j:Nat} (h:∀ i,t.slot j ≠ .live i):(t.place[SetTable.below t.place j]? == some j)=false:=by
 cases e:(t.place[SetTable.below t.place j]? == some j) with
 | false=>rfl
 | true =>
  refine absurd ?_ (h (SetTable.below t.place j))
  unfold SetTable.slot
  simp only [e,if_true]
theorem zq {h:Int} {j:Nat}:∀ (n:Nat) (p:SetTable.Probe),(∀ x,p.dummy=some x->∀ i,t.slot x ≠ .live i) ->
  SetTable.probe.go t f h n p=some (.empty j d)->∀ i,t.slot (d.getD j) ≠ .live i:=by
 intro n
 induction n with
 | zero=>intro p _ e;simp [SetTable.probe.go] at e
 | succ n ih =>
  intro p k e
  have b:∀ q:SetTable.Probe,(t.advance q).dummy=q.dummy:=fun q=>by unfold SetTable.advance;split <;> rfl
  unfold SetTable.probe.go at e
  split at e
  ·rename_i c
   simp only [Option.some.injEq,SetTable.Met.empty.injEq] at e
   obtain ⟨e1,g⟩:=e
   cases hd:p.dummy with
   | none=>rw [<- g,hd,Option.getD_none,<- e1,c];exact fun i z=>by cases z
   | some x=>rw [<- g,hd,Option.getD_some];exact k x hd
  ·rename_i c
   refine ih _ (fun x a=>?_) e
   rw [b] at a
   simp only [Option.some.injEq] at a
   rw [<- a,c]
   exact fun i z=>by cases z
  ·split at e
   ·simp at e
   ·exact ih _ (fun x a=>k x (by rw [<- a,b])) e
theorem xt {t:SetTable} {h:Int} {j:Nat} (e:t.freeSlot h=some (j,b)):∀ i,t.slot j ≠ .live i:=by
 unfold SetTable.freeSlot at e
 split at e
 ·rename_i f d a
  simp only [Option.some.injEq,Prod.mk.injEq] at e
  rw [<- e.1]
  exact zq _ _ (fun x c=>by simp [SetTable.probeStart] at c) a
 ·cases e
structure Tab (b:Bool) (t:SetTable):Prop where
 up:Up t.place
 led:t.led=b
theorem xV (n:Nat):Up (Array.range n):=by
 show (Array.range n).toList.Pairwise _
 rw [Array.toList_range]
 exact List.pairwise_lt_range
theorem Tab.stand (h:Tab b t) (n:Nat):Tab b (t.standIn n):=⟨xV n,h.led⟩
theorem Tab.or (h:Tab b t) (n:Nat):Tab b (t.orStandIn n):=by
 unfold SetTable.orStandIn
 split
 ·exact h
 ·exact h.stand n
theorem Tab.new (h:Tab b t) (es:Array (Int × Value)) (k:Int) (x:Value):Tab b (layNew t es k x).2.1:=by
 unfold layNew
 split
 ·rename_i j d e
  have z:Tab b (t.put j).1:=⟨wl h.up (wv (xt e)),h.led⟩
  exact z.or _
 ·exact h.stand _
theorem Tab.all (h:Tab b t) (es:Array (Int × Value)) (n:Nat):Tab b (relayAll t es n).2.1:=by
 unfold relayAll
 split
 ·rename_i t' order e
  dsimp only
  split
  ·unfold SetTable.relaid SetTable.laid at e
   simp only [Option.bind_eq_bind,GJ,Option.pure_def,Option.some.injEq,Prod.mk.injEq] at e
   obtain ⟨k,_,e1,_⟩:=e
   subst e1
   refine ⟨?_,h.led⟩
   have aux:∀ (f:Nat->Option Nat) (m:Nat),((List.filterMap (fun j=>(f j).map (j,·)) (List.range m)).map (·.1)).Pairwise (· < ·):=fun f m=>by
    rw [List.pairwise_map,List.pairwise_filterMap]
    refine List.pairwise_lt_range.imp fun {a c} d x g y i=>?_
    rw [Ge] at g i
    obtain ⟨_,_,rfl⟩:=g
    obtain ⟨_,_,rfl⟩:=i
    exact d
   exact aux _ _
  ·exact h.stand _
 ·exact h.stand _
theorem Tab.off (h:Tab b t) (c:Bool):Tab b (if c=true then t else { t with plain:=false }):=by
 cases c
 ·exact ⟨h.up,h.led⟩
 ·exact h
end L2
end
section
namespace L2
open PySem PyProof.Rows
abbrev iA (w:World):Bool:=!w.params.followText "set-order"
def SetL (prog:Program) (w:World) (h:Heap) (a:Addr) (ns:List Int):Prop :=
 ∃ o es b t ms,h.get? a=some o/\o.ExactSet/\o.data=.set es b t/\ElemsOf (intKind prog w) es.toList/\IntsAre (es.toList.map (·.2)) ms/\ms.Perm ns/\es.size < scanBound/\t.fits es.size=true/\Tab (iA w) t
theorem SetL.keep (x:SetL prog w h a ns) (k:∀ o,h.get? a=some o->h'.get? a=some o):SetL prog w h' a ns :=
 let ⟨o,es,b,t,ms,e,r⟩:=x;⟨o,es,b,t,ms,k o e,r⟩
theorem SetL.typeIs {s:Shared} (x:SetL prog w s.heap a ns):s.TypeIs (.ref a) "set" :=
 let ⟨o,_,_,_,_,e,c,_⟩:=x;⟨o,e,c.1⟩
def met (ns:List Int) (k:Int):List Int:=if k ∈ ns then ns else ns ++ [k]
theorem eX:∀ {l:List (Int × Value)},ElemsOf (intKind prog w) l->∃ ms,IntsAre (l.map (·.2)) ms
 | [],_=>⟨[],.nil⟩
 | e :: l,h=>by
  obtain ⟨ms,hm⟩:=eX h.tail
  obtain ⟨⟨k,b,_⟩,_⟩:=h.head
  obtain ⟨t,a⟩:=Value.isInt_shape b
  refine ⟨k :: ms,?_⟩
  rw [Gz,a]
  exact .cons k t hm
theorem ko (p:List.Perm vs ws) (a:IntsAre vs ns) (b:IntsAre ws ms):ns.Perm ms:=by
 rw [<- a.nums,<- b.nums]
 exact p.map _
section
variable {prog:Program} {w:World} {A:Around} {E:Value->Shared->Prop} {s:Shared}
theorem xu {l:List (Int × Value)} {k:Int} (hi:IntsAre (l.map (·.2)) ms):(l.findIdx? (fun e=>(intKind prog w).is k e.2)).isSome=true ↔ k ∈ ms:=by
 induction l generalizing ms with
 | nil=>cases hi;simp
 | cons e l ih =>
  obtain ⟨h0,v⟩:=e
  rw [Gz] at hi
  cases hi with
  | cons n t hr =>
   rw [List.findIdx?_cons]
   by_cases c:k=n
   ·subst c
    rw [if_pos (intKind_is prog w k t)]
    simp
   ·have:(intKind prog w).is k (Value.int n t)=false:=by
     cases z:(intKind prog w).is k (Value.int n t) with
     | false=>rfl
     | true=>exact absurd ((intKind prog w).inj _ _ _ z (intKind_is prog w n t)) c
    rw [this]
    simp only [GL,if_false,Option.isSome_map,Gh,c,false_or]
    exact ih hr
theorem yH {k:Int} (hS:SetL prog w s.heap a ns) (O:ns.length+1 < scanBound) (h:∀ b h',Heap.SameBut a s.heap h'->SetL prog w h' a (met ns k)->Q b { s with heap:=h' }):wpAny (model prog w) A (setAddHashed a (.int k tk) (hashInt k)) Q E s:=by
 obtain ⟨o,es,N,t,ms,y,hex,hd,i,hi,B,T,hf,R⟩:=hS
 have hn:es.size=ns.length:=by rw [<- B.length_eq,<- hi.length,Go,Array.length_toList]
 have F:=xu (prog:=prog) (w:=w) (k:=k) hi
 unfold setAddHashed setAddHashedIn
 refine F9 (F7 (wpAny_setState_of y hd hf ?_))
 dsimp only
 rw [if_pos (byScan_of (x:=.int k tk) rfl T i)]
 refine F7 (F7 (wpAny_rule (F7 (wpAny_setScan_of (knd:=intKind prog w) (intKind_is prog w k tk) y hd hf i ?_))))
 cases S:List.findIdx? (fun e=>(intKind prog w).is k e.2) es.toList with
 | some j =>
  rw [S] at F
  have J:k ∈ ns:=B.mem_iff.mp (F.mp rfl)
  refine F8 (F8 ?_)
  have:=h false s.heap (Heap.SameBut.refl a s.heap) ⟨o,es,N,t,ms,y,hex,hd,i,hi,by rw [met,if_pos J];exact B,T,hf,R⟩
  exact this
 | none =>
  rw [S] at F
  have J:k ∉ ns:=fun z=>by have:=F.mpr (B.mem_iff.mpr z);simp at this
  have p:=layNew_perm t es (hashInt k) (.int k tk)
  have f1:=layNew_fits t es (hashInt k) (.int k tk)
  have t1:=R.new es (hashInt k) (.int k tk)
  generalize layNew t es (hashInt k) (.int k tk)=L at p f1 t1 ⊢
  obtain ⟨d,u,Y,P⟩:=L
  dsimp only at p f1 t1 ⊢
  rw [Array.toList_push] at p
  have n:ElemsOf (intKind prog w) d.toList:=(i.push (intKind_is prog w k tk) rfl).perm p
  obtain ⟨M,W⟩:=eX n
  have b1:d.size=es.size+1:=by have:=p.length_eq;simpa using this
  have q1:M.Perm (met ns k):=by
   have i0:IntsAre ((es.toList ++ [(hashInt k,Value.int k tk)]).map (·.2)) (ms ++ [k]):=by
    rw [List.map_append]
    exact hi.append (.cons k tk .nil)
   rw [met,if_neg J]
   exact (ko (p.map _) W i0).trans (B.append_right [k])
  have done:∀ (h1:Heap) (l:Obj) (f:Array (Int × Value)) (m:Nat) (g:SetTable),h1.get? a=some l->l.ExactSet->l.data=.set f m g->f.toList.Perm d.toList->g.fits f.size=true->Tab (iA w) g->Heap.SameBut a s.heap h1->Q true { s with heap:=h1 }:=by
   intro h1 l f m g g1 g2 g3 C X Z g7
   obtain ⟨H,V⟩:=eX (n.perm C)
   exact h true h1 g7 ⟨l,f,m,g,H,g1,g2,g3,n.perm C,V,(ko (C.map _) V W).trans q1,by have:=C.length_eq;simp at this;omega,X,Z⟩
  have U:∀ (b:Bool) {I:Shared} {G:Unit->Shared->Prop},G () I->wpAny (model prog w) A (match b with | true=>rule "set.scan.the-table-gave-way" | false=>pure ()) G E I:=fun b I G q=>by
   cases b
   ·exact F8 q
   ·exact wpAny_rule q
  have two:∀ (c:Bool),wpAny (model prog w) A (do
    storeSet a d (if c=true then u else { u with plain:=false })
    if (!Y && (if c=true then u else { u with plain:=false }).tooFull)=true then do
     let r:=relayAll (if c=true then u else { u with plain:=false }) d (SetTable.grown d.size)
     (match r.2.2 with | true=>rule "set.scan.the-table-gave-way" | false=>pure ())
     storeSet a r.1 r.2.1
     pure (some true)
    else pure (some true)) (fun r s'=>r=some true/\Q true s') E s:=by
   intro c
   have g:=t1.off c
   have f2:(if c=true then u else { u with plain:=false }).fits d.size=true:=by cases c <;> exact f1
   generalize (if c=true then u else { u with plain:=false })=v at g f2 ⊢
   refine F7 (wpAny_storeSet_of (hz:=fits_of_scanBound (by omega)) y hd ?_)
   have l:(s.heap.update a (Obj.putSet d v)).get? a=some { o with data:=.set d (N+1) v }:=by
    have:=GE (Obj.putSet d v) y (by rw [putSet_of d v hd];rfl)
    rw [putSet_of d v hd] at this
    exact this
   split
   ·have D:=relayAll_perm v d (SetTable.grown d.size)
    have K:=relayAll_fits v d (SetTable.grown d.size)
    have t3:=g.all d (SetTable.grown d.size)
    generalize relayAll v d (SetTable.grown d.size)=r at D K t3 ⊢
    obtain ⟨f,v2,g2⟩:=r
    dsimp only at D K t3 ⊢
    have b3:f.size=d.size:=by have:=D.length_eq;simpa using this
    refine F7 (U _ (F7 (wpAny_storeSet_of (hz:=fits_of_scanBound (by omega)) l rfl (F8 ⟨rfl,?_⟩))))
    have o2:((s.heap.update a (Obj.putSet d v)).update a (Obj.putSet f v2)).get? a=some { o with data:=.set f (N+1+1) v2 }:=by
     have:=GE (Obj.putSet f v2) l (by rw [putSet_of f v2 rfl];rfl)
     rw [putSet_of f v2 rfl] at this
     exact this
    exact done _ _ f _ v2 o2 hex rfl D K t3 ((Heap.SameBut.update _ a _).trans (Heap.SameBut.update _ a _))
   ·refine F8 ⟨rfl,?_⟩
    exact done _ _ d _ v l hex rfl (List.Perm.refl _) f2 g (Heap.SameBut.update _ a _)
  have fin:∀ (r:Option Bool) (s':Shared) {x:Sem Bool},r=some true/\Q true s'->wpAny (model prog w) A (match r with | some b=>pure b | none=>x) Q E s':=fun r s' x z=>by
   obtain ⟨rfl,q⟩:=z
   exact F8 q
  refine F7 (U _ ?_)
  split
  ·refine F7 (wpAny_of_eq (a:=true) rfl ?_)
   exact wpAny_mono (two true) (fun r s' z=>fin r s' z) fun _ _ z=>z
  ·refine F7 (F8 ?_)
   exact wpAny_mono (two true) (fun r s' z=>fin r s' z) fun _ _ z=>z
end
end L2
end
section
namespace L2
open PySem PyProof.Rows
theorem vz (ns:List Int) (k:Int):(met ns k).length<=ns.length+1:=by
 unfold met
 split <;> simp
theorem rG:∀ (ks ns:List Int),(ks.foldl met ns).length<=ns.length+ks.length
 | [],ns=>Gv _
 | k :: ks,ns=>by
  have a:=rG ks (met ns k)
  have b:=vz ns k
  simp only [List.foldl_cons,GG]
  omega
section
variable {prog:Program} {w:World} {A:Around} {E:Value->Shared->Prop}
theorem yC (B:A.handled=none) (p:I ≠ S) (z:l ≠ S) (D:l ≠ I) :
  ∀ (k i:Nat) (s:Shared) (ns ms:List Int),items.size - i=k->s.heap.IsTupleIter I l i->s.heap.IsTuple l items->IntsAre (items.toList.drop i) ms->SetL prog w s.heap S ns->ns.length+ms.length+1 < scanBound ->
   (∀ h' tk,SetL prog w h' S (ms.foldl met ns)->(∀ b o,b ≠ S->b ≠ I->s.heap.get? b=some o->h'.get? b=some o)->R (.ok (.ret .none)) { s with heap:=h',toks:=tk }) ->
   codeAny (model prog w) A (.builtin "set.update.loop" ⟨[.ref S,.ref I],[]⟩) R s:=by
 intro k
 induction k with
 | zero =>
  intro i s ns ms E hi f a m j g
  refine codeAny_builtin F.entry_set_update_loop ?_
  rw [Around.under_plainId F.plain_set_update_loop _]
  have e:ms=[]:=by
   rw [List.drop_eq_nil_of_le (by simp;omega)] at a
   cases a
   rfl
  subst e
  refine F7 (wpAny_pyNext_tuple_end (s:=s) B hi f (Array.getElem?_eq_none (by omega)) fun h' d=>?_)
  exact F8 (g h' s.toks (m.keep fun o e=>d _ _ (Ne.symm p) e) fun b o _ c e=>d _ _ c e)
 | succ k ih =>
  intro i s ns ms E hi f a m j g
  have lt:i < items.size:=by omega
  refine codeAny_builtin F.entry_set_update_loop ?_
  rw [Around.under_plainId F.plain_set_update_loop _]
  rw [List.drop_eq_getElem_cons (by simpa using lt)] at a
  generalize u:items.toList[i]=v at a
  have d:items[i]?=some v:=by rw [<- u,Array.getElem?_eq_getElem lt,Array.getElem_toList]
  cases a with
  | @cons n t _ ms' hr =>
   refine F7 (wpAny_pyNext_tuple_item (s:=s) hi f d fun h1 x s1=>?_)
   have C:SetL prog w h1 S ns:=m.keep fun o e=>s1.extBut _ _ (Ne.symm p) e
   have y:h1.IsTuple l items:=f.extBut s1.extBut D
   refine F7 (F9 (F9 (F7 ((intKind prog w).pyHash (k:=n) (intKind_is prog w n t) ?_))))
   refine yH (s:={ s with heap:=h1,toks:=s.toks+1 }) C (by simp only [GG] at j;omega) fun b h2 s2 q=>?_
   refine F8 ⟨plainId_quiet F.plain_set_update_loop _,?_⟩
   have G:=vz ns n
   refine ih (i+1) { s with heap:=h2,toks:=s.toks+1 } (met ns n) ms' (by omega) (x.extBut s2.extBut p) (y.extBut s2.extBut z) hr q (by simp only [GG] at j;omega) fun h3 h r k3=>?_
   exact g h3 h r fun b o c1 c2 e=>k3 b o c1 c2 (s2.extBut _ _ c1 (s1.extBut _ _ c2 e))
variable {s:Shared}
theorem Co (h:∀ o,o=({ cls:=.type "set",dict:=none,data:=.set #[] 0 (.fresh 0 0 (iA w)) }:Obj)->Q (.ref s.heap.objs.size) { s with heap:=s.heap.push o }) :
  codeAny (model prog w) A (.call (.builtin "set.__new__") ⟨[.type "set",a],[]⟩) (wants Q E) s:=by
 refine codeAny_of_tree ?_
 refine F7 (wpAny_of_eq (F.newCall_set_1 a) (F8 ⟨plainId_quiet F.plain_set_new _,codeAny_builtin F.entry_set_new ?_⟩))
 rw [Around.under_plainId F.plain_set_new _]
 have sub:=sub_set_self
 obtain ⟨b,g,d,tk,os⟩:=s
 wp_walk
 refine wpAny_askSetting ?_
 wp_walk
 exact h _ rfl
theorem qc (B:A.handled=none) (x:s.heap.IsTuple l items) (hi:IntsAre items.toList ns) (J:items.size+1 < scanBound) (h:∀ h' tk,SetL prog w h' s.heap.objs.size (ns.foldl met [])->(∀ b o,s.heap.get? b=some o->h'.get? b=some o)->Q (.ref s.heap.objs.size) { s with heap:=h',toks:=tk }) :
  wpAny (model prog w) A (call (.type "set") [.ref l]) Q E s:=by
 obtain ⟨c,tl,u⟩:=F.called_set.mro
 have made:=F.called_set.made
 have below:=F.called_set.sub
 have j:=F.called_set.notType
 have y:=F.called_set.canCreate
 have one:=F.typeCall_set_1 (.ref l)
 obtain ⟨i,g,d,tk,os⟩:=s
 refine wpAny_call (codeAny_of_tree (F8 ⟨Code.quiet_builtin _ (by decide +kernel),codeAny_builtin F.entry_type_call ?_⟩))
 rw [Around.under_plain (weight_type_call_type "set" [.ref l] []) rfl]
 repeat (any_goals (first | assumption | wp_step))
 refine codeAny_mono (Co (E:=E) (Q:=fun v r=>v=.ref i.objs.size/\r=⟨i.push { cls:=.type "set",dict:=none,data:=.set #[] 0 (.fresh 0 0 (iA w)) },g,d,tk,os⟩) fun o e=>by subst e;exact ⟨rfl,rfl⟩) ?_
 rintro (e | f) r m
 ·exact m
 cases f with
 | ret v =>
  obtain ⟨rfl,rfl⟩:=m
  have got:(i.push { cls:=.type "set",dict:=none,data:=.set #[] 0 (.fresh 0 0 (iA w)) }).get? i.objs.size=some { cls:=.type "set",dict:=none,data:=.set #[] 0 (.fresh 0 0 (iA w)) }:=Gn _ rfl
  have ty:(⟨i.push { cls:=.type "set",dict:=none,data:=.set #[] 0 (.fresh 0 0 (iA w)) },g,d,tk,os⟩:Shared).TypeIs (.ref i.objs.size) "set":=⟨_,got,rfl⟩
  have n:(i.push { cls:=.type "set",dict:=none,data:=.set #[] 0 (.fresh 0 0 (iA w)) }).IsTuple l items:=x.push _
  refine F7 (wpAny_isInstance ty sub_set_self (wpAny_ite_false rfl ?_))
  refine F7 (F9 (wpAny_callSpecial?_slot ty F.called_set.init (wpAny_call (codeAny_call_builtin F.called_set.init.plain F.entry_set_init (check_set_init_1 ty ?_)))))
  obtain ⟨⟨c2,G,H,s2⟩,h2,t,I,q⟩:=id n
  simp only at t q
  subst t q
  have C:=F.sub_tuple_set
  have D:=F.sub_tuple_frozenset
  wp_walk using wpAny_pyIter_tuple n
  have lt:l < i.objs.size:=by obtain ⟨_,e,_⟩:=x;exact Gj e
  refine yC (l:=l) (items:=items) (by simpa using B) (by rw [GO];exact Nat.ne_of_gt (Nat.lt_succ_self _)) (Gx lt) (by rw [GO];exact Gx (Nat.lt_succ_of_lt lt)) items.size 0 _ [] ns (by omega) ⟨_,Gn _ rfl,rfl,rfl⟩ (n.push _) (by simpa using hi) ⟨_,#[],0,_,[],Gd _ got,⟨rfl,rfl,rfl⟩,rfl,(fun e he=>by simp at he),.nil,List.Perm.refl _,by decide,rfl,⟨List.Pairwise.nil,rfl⟩⟩ (by have:=hi.length;simp at this;simp;omega) fun h' p S k=>?_
  wp_walk
  exact h h' p S fun b o e=>k b o (fun z=>by subst z;exact absurd (Gj e) (Nat.lt_irrefl _)) (fun z=>by have a:=Gj e;rw [z,GO] at a;exact absurd a (Nat.not_lt.mpr (Nat.le_succ _))) (Gd _ (Gd _ e))
 | _=>exact m.elim
end
end L2
end
section
namespace L2
open PySem PyProof.Rows
theorem B4 (f:Nat->Nat):∀ (n k:Nat) (left:List α) (out:Array α),left.length<=n->(pickOrder.go f n k left out).toList.Perm (out.toList ++ left):=by
 intro n
 induction n with
 | zero =>
  intro k left out h
  obtain rfl:left=[]:=GV.mp (by omega)
  simp [pickOrder.go]
 | succ n ih =>
  intro k left out h
  unfold pickOrder.go
  cases e:left[f k % left.length]? with
  | none =>
   have d:left.length<=f k % left.length:=List.getElem?_eq_none_iff.mp e
   have z:left.length=0:=by
    rcases Nat.eq_zero_or_pos left.length with z | z
    ·exact z
    ·have:=Nat.mod_lt (f k) z;omega
   obtain rfl:left=[]:=GV.mp z
   simp
  | some x =>
   have b:f k % left.length < left.length:=(Gp.mp e).1
   dsimp only
   refine (ih _ _ _ (by rw [List.length_eraseIdx];split <;> omega)).trans ?_
   rw [Array.toList_push,List.append_assoc]
   refine List.Perm.append_left _ ?_
   rw [List.eraseIdx_eq_take_drop_succ]
   have c:left=left.take (f k % left.length) ++ x :: left.drop (f k % left.length+1):=by
    rw [<- (Gp.mp e).2,<- List.drop_eq_getElem_cons b,List.take_append_drop]
   have p:=(List.perm_middle (a:=x) (l₁:=left.take (f k % left.length)) (l₂:=left.drop (f k % left.length+1))).symm
   rw [<- c] at p
   exact p
theorem wM (f:Nat->Nat) (xs:Array α):(pickOrder f xs).toList.Perm xs.toList:=by
 have:=B4 f xs.size 0 xs.toList #[] (by simp)
 simpa [pickOrder] using this
section
variable {prog:Program} {w:World} {A:Around} {E:Value->Shared->Prop}
theorem oW:∀ (n:Nat) (xs:List α) (s:Shared) {Q:List α->Shared->Prop},xs.length<=n->(∀ ys d',ys.Perm xs->Q ys { s with drawn:=d' })->wpAny (model prog w) A (drawOrder n xs) Q E s
 | 0,xs,s,Q,h,hQ=>by
  obtain rfl:xs=[]:=GV.mp (by omega)
  exact F8 (hQ [] s.drawn (List.Perm.refl _))
 | n+1,[],s,Q,h,hQ=>F8 (hQ [] s.drawn (List.Perm.refl _))
 | n+1,x :: xs,s,Q,h,hQ=>by
  unfold drawOrder
  refine F7 (fun Γ p hΓ=>?_)
  show Sem.wp _ _ (Sem.choose _ _ Sem.pure) _ _ _ _
  rw [Sem.wp_choose]
  refine ⟨by simp,?_⟩
  generalize hi:(model prog w).w.draws .order (s.drawn.get .order) % (x :: xs).length=i
  have lt:i < (x :: xs).length:=by rw [<- hi];exact Nat.mod_lt _ (by simp)
  refine (show wpAny (model prog w) A (pure i) _ E { s with drawn:=s.drawn.bump .order } from F8 ?_) Γ p hΓ
  obtain ⟨y,a⟩:∃ y,(x :: xs)[i]?=some y:=⟨_,Gi lt⟩
  rw [a]
  dsimp only
  refine F7 (oW n ((x :: xs).eraseIdx i) _ (by rw [List.length_eraseIdx,if_pos lt];simp at h ⊢;omega) fun ys d' c=>?_)
  refine F8 (hQ (y :: ys) d' ?_)
  refine (c.cons y).trans ?_
  rw [List.eraseIdx_eq_take_drop_succ]
  have b:x :: xs=(x :: xs).take i ++ y :: (x :: xs).drop (i+1):=by
   rw [<- (Gp.mp a).2,<- List.drop_eq_getElem_cons lt,List.take_append_drop]
  exact (List.perm_middle.symm).trans (by rw [<- b])
end
theorem slot_next:Slot "set_iterator" "__next__" "set_iterator.__next__" :=
 .of (owner:="set_iterator") (n:="__next__") (by rw [typeLookup_type,builtinLookup_eq_fast];kernel_rfl) (by decide +kernel) (by decide +kernel) (by decide +kernel) (by first | exact .inl (by decide +kernel) | exact .inr (by decide +kernel)) (by rw [isSubtype_type];kernel_rfl)
theorem mQ:entryFor table "set_iterator.__next__"=some Builtin.«set_iterator.__next__»:=entryFor_of_tree (by kernel_rfl)
theorem zA:Manifest.owners.lookup (String.ofList (['r','o','t','a','r','e','t','i','_','t','e','s']:List Char).reverse)=some Manifest.sig_set_iterator:=by kernel_rfl
theorem o6 (a:Value):argsOk "set_iterator.__next__" ⟨[a],[]⟩:=by
 unfold argsOk
 rw [signature?_of (id:="set_iterator.__next__") (n:=['_','_','t','x','e','n','_','_']) (o:=['r','o','t','a','r','e','t','i','_','t','e','s']) (by kernel_rfl) zA]
 kernel_rfl
theorem um:entryFor table "set.__iter__"=some Builtin.«frozenset.__iter__»:=entryFor_alias (id':="frozenset.__iter__") (by kernel_rfl) rfl (by decide +kernel) (by kernel_rfl)
def SIt (w : World) (h : Heap) (I a : Addr) (es : Array (Int × Value)) (b : Nat) (t : SetTable) (ord : List Value) (i : Nat) : Prop :=
  ∃ first, h.get? I = some { cls := .type "set_iterator", dict := none, data := .fields #[first, rawInt i, .ref a, rawInt es.size, rawInt b], slots := #[] } /\
    ((w.params.followText "set-order" = true /\ first = rawInt 0 /\ ord = (pickOrder (w.params.setOrder a b) es).toList.map (·.2)) \/
     (w.params.followText "set-order" = false /\ (!t.plain && es.size > 1) = false /\ (∃ k : Nat, first = rawInt k /\ SetTable.below t.place k = i) /\ ord = es.toList.map (·.2)) \/
     (∃ (T : Addr) (ps : List Nat), first = .ref T /\ T ≠ I /\ h.get? T = some { cls := .type "tuple", data := .seq (ps.map fun (p : Nat) => rawInt p).toArray } /\ ps.Perm (List.range es.size) /\ ord = ps.filterMap fun p => es[p]?.map (·.2)))
structure SAt (w:World) (h:Heap) (a:Addr) (es:Array (Int × Value)) (ep:Nat) (t:SetTable):Prop where
 at':∃ o,h.get? a=some o/\o.data=.set es ep t
 fits:t.fits es.size=true
 tab:Tab (iA w) t
section
variable {prog:Program} {w:World} {A:Around} {E:Value->Shared->Prop} {s:Shared}
theorem yB {d:Nat} {i:Nat} (H:SIt w s.heap I a es d t ord i) (M:SAt w s.heap a es d t) (c:ord[i]?=some v) (y:∀ h',SIt w h' I a es d t ord (i+1)->Heap.SameBut I s.heap h'->Q (some v) { s with heap:=h' }):wpAny (model prog w) A (pyNext (.ref I)) Q E s:=by
 obtain ⟨⟨o,f,hd⟩,hf,B⟩:=M
 obtain ⟨first,g1,m⟩:=H
 obtain ⟨n,g,O,tk,os⟩:=s
 have ty:(⟨n,g,O,tk,os⟩:Shared).TypeIs (.ref I) "set_iterator":=⟨_,g1,rfl⟩
 have led:=B.led
 unfold pyNext
 refine F7 (wpAny_attempt (wpAny_callSpecial?_slot ty slot_next (wpAny_call_entry slot_next ty mQ ?_ (o6 _))))
 rcases m with ⟨l,rfl,b⟩ | ⟨l,nd,⟨k,rfl,bk⟩,b⟩ | ⟨T,ps,rfl,D,gT,pp,b⟩
 ·have J:(model prog w).w.params.followText "set-order"=true:=l
  have h:(pickOrder (w.params.setOrder a d) es)[i]?.map (·.2)=some v:=by rw [<- c,b];simp
  obtain ⟨x,L,ex⟩:=Ge.mp h
  have at2:Option.map (fun e:Int × Value=>(e.2,Int.toNat 0)) (pickOrder (({ program:=(model prog w).prog,params:=(model prog w).w.params }:Setting).params.setOrder a d) es)[(i:Int).toNat]?=some (v,0):=by
   refine (show Option.map _ (pickOrder (w.params.setOrder a d) es)[(i:Int).toNat]?=_ from ?_)
   rw [Int.toNat_natCast,L,<- ex];rfl
  wp_walk using wpAny_setState_of f hd hf,wpAny_askSetting
  rw [at2]
  wp_walk
  exact ⟨_,rfl,F8 (y _ ⟨rawInt 0,GE _ (GE _ g1 rfl) rfl,.inl ⟨l,rfl,b⟩⟩ ((Heap.SameBut.update ..).trans (Heap.SameBut.update ..)))⟩
 ·have J:(model prog w).w.params.followText "set-order"=false:=l
  have C:t.led=true:=by rw [led];simp [iA,l]
  have lt:i < es.size:=by
   have:=(Gp.mp c).1
   rw [b] at this
   simpa using this
  have P:t.place.size=es.size:=by
   unfold SetTable.fits at hf
   rw [Bool.and_eq_true] at hf
   exact eq_of_beq hf.1
  have ev:es[i].2=v:=by
   rw [b,Gu,Array.getElem?_toList,Array.getElem?_eq_getElem lt] at c
   simpa using c
  have r:SetTable.below t.place (k:Int).toNat=i:=bk
  wp_walk using wpAny_setState_of f hd hf,wpAny_askSetting
  refine wpAny_ite_false (show decide ((!t.plain && decide (es.size > 1))=true)=false by rw [nd];rfl) ?_
  wp_walk
  rw [r,Array.getElem?_eq_getElem lt,Array.getElem?_eq_getElem (show i < t.place.size by omega)]
  wp_walk
  subst ev
  exact ⟨_,rfl,F8 (y _ ⟨rawInt (t.place[i]+1:Nat),GE _ (GE _ g1 rfl) rfl,.inr (.inl ⟨l,nd,⟨_,rfl,uL B.up (by omega)⟩,b⟩)⟩ ((Heap.SameBut.update ..).trans (Heap.SameBut.update ..)))⟩
 ·obtain ⟨p,x,u,j,ev⟩:∃ p x,ps[i]?=some p/\es[p]?=some x/\x.2=v:=by
   have all:∀ (l:List Nat),(∀ p ∈ l,p < es.size)->∀ i:Nat,(l.filterMap fun p=>es[p]?.map fun x:Int × Value=>x.2)[i]?=l[i]?.bind fun p=>es[p]?.map fun x:Int × Value=>x.2:=by
    intro l
    induction l with
    | nil=>intro _ i;simp
    | cons p l ih =>
     intro z i
     rw [List.filterMap_cons,Array.getElem?_eq_getElem (z p Ga)]
     cases i with
     | zero=>simp [Array.getElem?_eq_getElem (z p Ga)]
     | succ i=>simpa using ih (fun q F=>z q (Gb _ F)) i
   rw [b,all ps (fun p n=>List.mem_range.mp (pp.mem_iff.mp n))] at c
   obtain ⟨p,e1,K⟩:=GJ.mp c
   obtain ⟨x,N,G⟩:=Ge.mp K
   exact ⟨p,x,e1,N,G⟩
  wp_walk using wpAny_setState_of f hd hf,wpAny_askSetting
  rw [show (List.map (fun p:Nat=>rawInt p) ps).toArray[(i:Int).toNat]?=some (rawInt p) by simp [u]]
  wp_walk using wpAny_setState_of f hd hf,wpAny_askSetting
  rw [show es[(p:Int).toNat]?=some x from j]
  wp_walk
  subst ev
  exact ⟨_,rfl,F8 (y _ ⟨.ref T,GE _ g1 rfl,.inr (.inr ⟨T,ps,rfl,D,(Heap.SameBut.update ..).extBut _ _ D gT,pp,b⟩)⟩ (Heap.SameBut.update ..))⟩
theorem Bo {h:Nat} {i:Nat} (H:A.handled=none) (D:SIt w s.heap I a es h t ord i) (G:SAt w s.heap a es h t) (d:ord.length<=i) (j:∀ h',Heap.ExtBut I s.heap h'->Q none { s with heap:=h' }):wpAny (model prog w) A (pyNext (.ref I)) Q E s:=by
 obtain ⟨⟨o,n,hd⟩,hf,C⟩:=G
 obtain ⟨first,g1,m⟩:=D
 obtain ⟨r,g,J,tk,os⟩:=s
 have ty:(⟨r,g,J,tk,os⟩:Shared).TypeIs (.ref I) "set_iterator":=⟨_,g1,rfl⟩
 have led:=C.led
 have c:A.in1.handled=none:=H
 unfold pyNext
 refine F7 (wpAny_attempt (wpAny_callSpecial?_slot ty slot_next (wpAny_call_entry slot_next ty mQ ?_ (o6 _))))
 rcases m with ⟨l,rfl,f⟩ | ⟨l,nd,⟨k,rfl,bk⟩,f⟩ | ⟨T,ps,rfl,K,gT,pp,f⟩
 ·have F:(model prog w).w.params.followText "set-order"=true:=l
  have at2:Option.map (fun e:Int × Value=>(e.2,Int.toNat 0)) (pickOrder (({ program:=(model prog w).prog,params:=(model prog w).w.params }:Setting).params.setOrder a h) es)[(i:Int).toNat]?=none:=by
   refine (show Option.map _ (pickOrder (w.params.setOrder a h) es)[(i:Int).toNat]?=_ from ?_)
   rw [Int.toNat_natCast,Array.getElem?_eq_none (by rw [f] at d;simpa using d)];rfl
  wp_walk using wpAny_setState_of n hd hf,wpAny_askSetting
  rw [at2]
  wp_walk
  refine wpAny_raiseNew_none c ?_
  refine F7 (wpAny_isInstance (v:=.ref _) (T:="StopIteration") (b:=true) ?_ isSubtype_stop ?_)
  ·exact ⟨_,Gn _ rfl,rfl⟩
  ·exact F8 (j _ (((Heap.SameBut.update ..).extBut.push _).push _))
 ·have F:(model prog w).w.params.followText "set-order"=false:=l
  have z:t.led=true:=by rw [led];simp [iA,l]
  have ge:es.size<=i:=by rw [f] at d;simpa using d
  have u:SetTable.below t.place (k:Int).toNat=i:=bk
  wp_walk using wpAny_setState_of n hd hf,wpAny_askSetting
  refine wpAny_ite_false (show decide ((!t.plain && decide (es.size > 1))=true)=false by rw [nd];rfl) ?_
  wp_walk
  rw [u,Array.getElem?_eq_none ge]
  wp_walk
  refine wpAny_raiseNew_none c ?_
  refine F7 (wpAny_isInstance (v:=.ref _) (T:="StopIteration") (b:=true) ?_ isSubtype_stop ?_)
  ·exact ⟨_,Gn _ rfl,rfl⟩
  ·exact F8 (j _ (((Heap.SameBut.update ..).extBut.push _).push _))
 ·have len:∀ (l:List Nat),(∀ p ∈ l,p < es.size)->(l.filterMap fun p=>es[p]?.map fun x:Int × Value=>x.2).length=l.length:=by
   intro l
   induction l with
   | nil=>intro _;rfl
   | cons p l ih =>
    intro y
    rw [List.filterMap_cons,Array.getElem?_eq_getElem (y p Ga)]
    simpa using ih fun q B=>y q (Gb _ B)
  rw [f,len ps fun p r=>List.mem_range.mp (pp.mem_iff.mp r)] at d
  wp_walk using wpAny_setState_of n hd hf,wpAny_askSetting
  rw [show (List.map (fun p:Nat=>rawInt p) ps).toArray[(i:Int).toNat]?=none by simpa using d]
  wp_walk
  refine wpAny_raiseNew_none c ?_
  refine F7 (wpAny_isInstance (v:=.ref _) (T:="StopIteration") (b:=true) ?_ isSubtype_stop ?_)
  ·exact ⟨_,Gn _ rfl,rfl⟩
  ·exact F8 (j _ ((((Heap.SameBut.update ..).trans (Heap.SameBut.update ..)).extBut.push _).push _))
end
end L2
end
section
namespace L2
open PySem PyProof.Rows
section
variable {prog:Program} {w:World} {A:Around} {E:Value->Shared->Prop} {s:Shared}
theorem yE {h:Nat} (m:SAt w s.heap a es h t) (c:s.TypeIs (.ref a) "set") (hz:es.size<=sizeLine) (f:∀ h' I d' ord,s.heap.objs.size<=I->ord.Perm (es.toList.map (·.2))->SIt w h' I a es h t ord 0->(∀ b o,s.heap.get? b=some o->h'.get? b=some o)->Q (.ref I) { s with heap:=h',drawn:=d' }) :
  wpAny (model prog w) A (pyIter (.ref a)) Q E s:=by
 obtain ⟨⟨o,d,hd⟩,hf,n⟩:=m
 obtain ⟨i,g,j,tk,os⟩:=s
 refine wpAny_pyIter_slot c F.slot_set_iter (wpAny_call_entry F.slot_set_iter c um ?_ (F.args_set_iter_1 _))
 cases l:w.params.followText "set-order" with
 | true =>
  have k:(model prog w).w.params.followText "set-order"=true:=l
  wp_walk using wpAny_setState_of d hd hf,wpAny_askSetting
  exact ⟨_,rfl,"set_iterator",_,⟨_,Gn _ rfl,rfl⟩,slot_next.lookup,f _ i.objs.size j _ (Gv _) ((wM (w.params.setOrder a h) es).map _) ⟨rawInt 0,Gn _ rfl,.inl ⟨l,rfl,rfl⟩⟩ fun b o e=>Gd _ e⟩
 | false =>
  have k:(model prog w).w.params.followText "set-order"=false:=l
  cases nd:(!t.plain && decide (es.size > 1)) with
  | false =>
   wp_walk using wpAny_setState_of d hd hf,wpAny_askSetting
   refine wpAny_ite_false (show decide ((!w.params.followText "set-order" && (!t.plain && decide (es.size > 1)))=true)=false by rw [l,nd];rfl) ?_
   wp_walk using wpAny_setState_of d hd hf,wpAny_askSetting
   exact ⟨_,rfl,"set_iterator",_,⟨_,Gn _ rfl,rfl⟩,slot_next.lookup,f _ i.objs.size j _ (Gv _) (List.Perm.refl _) ⟨rawInt 0,Gn _ rfl,.inr (.inl ⟨l,nd,⟨0,rfl,uK n.up⟩,rfl⟩)⟩ fun b o e=>Gd _ e⟩
  | true =>
   wp_walk using wpAny_setState_of d hd hf,wpAny_askSetting
   refine wpAny_ite_true (show decide ((!w.params.followText "set-order" && (!t.plain && decide (es.size > 1)))=true)=true by rw [l,nd];rfl) ?_
   refine F7 (oW _ _ _ (by simp) fun ys d' pp=>?_)
   have q:ys.length=es.size:=by have:=pp.length_eq;simpa using this
   refine F7 (wpAny_newTuple ?_ (by simp;omega))
   refine F7 (F7 (wpAny_setState_of (Gd _ d) hd hf (F8 ?_)))
   wp_walk
   have pm:(ys.filterMap fun p=>es[p]?.map fun x:Int × Value=>x.2).Perm (es.toList.map (·.2)):=by
    refine (pp.filterMap _).trans ?_
    rw [<- filterMap_getElem?_range es,List.map_filterMap]
   refine ⟨_,rfl,"set_iterator",_,⟨_,Gn _ rfl,rfl⟩,slot_next.lookup,f _ _ d' _ ?_ pm ⟨.ref i.objs.size,Gn _ rfl,.inr (.inr ⟨_,ys,rfl,?_,Gd _ (Gn _ rfl),pp,rfl⟩)⟩ fun b o e=>Gd _ (Gd _ e)⟩
   ·rw [GO];exact Nat.le_succ _
   ·rw [GO];exact Gx (Nat.lt_succ_self _)
theorem SAt.keep {b:Nat} (x:SAt w h a es b t) (k:∀ o,h.get? a=some o->h'.get? a=some o):SAt w h' a es b t :=
 let ⟨⟨o,e,d⟩,f,t⟩:=x;⟨⟨o,k o e,d⟩,f,t⟩
theorem SIt.keep {d:Nat} {i:Nat} (x:SIt w h I a es d t ord i) (l:I ≠ S) (n:∀ T ps,h.get? T=some { cls:=.type "tuple",data:=.seq ps }->T ≠ S) (k:∀ b o,b ≠ S->h.get? b=some o->h'.get? b=some o):SIt w h' I a es d t ord i:=by
 obtain ⟨f,g,m⟩:=x
 refine ⟨f,k _ _ l g,?_⟩
 rcases m with m | m | ⟨T,ps,e1,e,c,j⟩
 ·exact .inl m
 ·exact .inr (.inl m)
 ·exact .inr (.inr ⟨T,ps,e1,e,k _ _ (n _ _ c) c,j⟩)
theorem CQ (y:A.handled=none) (D:a ≠ I) (g:S ≠ I) (B:S ≠ a) {r:Nat} (hz:ord.length<=sizeLine) (res:Value) :
  ∀ (k i:Nat) (s:Shared) (c:Nat),ord.length - i=k->i<=ord.length->SIt w s.heap I a es r t ord i->SAt w s.heap a es r t ->
  s.heap.get? S=some { cls:=.type "list",dict:=none,data:=.seq (ord.take i).toArray c,slots:=#[] } ->
  (∀ h' u tk,h'.get? S=some { cls:=.type "list",dict:=none,data:=.seq ord.toArray u,slots:=#[] }->(∀ b o,b ≠ I->b ≠ S->s.heap.get? b=some o->h'.get? b=some o)->R (.ok (.ret res)) { s with heap:=h',toks:=tk }) ->
  codeAny (model prog w) A (.builtin "list.extend.loop" ⟨[.ref S,.ref I,res],[]⟩) R s:=by
 intro k
 induction k with
 | zero =>
  intro i s c C hi hit hm f fin
  obtain rfl:i=ord.length:=by omega
  refine codeAny_builtin F.entry_extend_loop ?_
  rw [Around.under_plainId F.plain_extend_loop _]
  refine F7 (Bo (s:=s) (show A.in1.handled=none from y) hit hm (Gv _) fun h' p=>?_)
  rw [List.take_length] at f
  exact F8 (fin h' c s.toks (p S _ g f) fun b o d _ e=>p b o d e)
 | succ k ih =>
  intro i s c C hi hit hm f fin
  have lt:i < ord.length:=by omega
  refine codeAny_builtin F.entry_extend_loop ?_
  rw [Around.under_plainId F.plain_extend_loop _]
  refine F7 (yB (s:=s) (v:=ord[i]) hit hm (Gi lt) fun h1 l s1=>?_)
  have h:=s1.extBut _ _ g f
  refine F7 (wpAny_updateSeq h rfl (F8 ⟨plainId_quiet F.plain_extend_loop _,?_⟩) (by simp;omega) (by simp;omega))
  obtain ⟨c2,m⟩:∃ c2,(h1.update S (Obj.mapSeq (·.push ord[i]))).get? S=some (seqObj "list" ((ord.take i).toArray.push ord[i]) c2):=⟨_,get?_update_seq h (·.push ord[i])⟩
  have up:∀ b o,b ≠ S->h1.get? b=some o->(h1.update S (Obj.mapSeq (·.push ord[i]))).get? b=some o:=fun b o n e=>(Heap.SameBut.update ..).extBut _ _ n e
  have tk:(ord.take i).toArray.push ord[i]=(ord.take (i+1)).toArray:=by
   rw [List.take_add_one,Gi lt]
   simp
  rw [tk] at m
  refine ih (i+1) { s with heap:=h1.update S (Obj.mapSeq (·.push ord[i])) } c2 (by omega) lt (l.keep (S:=S) (Ne.symm g) (fun T ps e z=>by subst z;rw [h] at e;simp at e) up) ((hm.keep fun o e=>s1.extBut _ _ D e).keep fun o e=>up _ _ (Ne.symm B) e) m fun h3 x j g3 k3=>?_
  exact fin h3 x j g3 fun b o d q e=>k3 b o d q (up _ _ q (s1.extBut _ _ d e))
theorem Ag (ty:s.TypeIs (.ref d) "set") (h:Q false s):wpAny (model prog w) A (Builtin.List.listLengthHint (.ref d)) Q E s:=by
 unfold Builtin.List.listLengthHint
 refine F7 (wpAny_specialOf ty F.slot_set_len.lookup ?_)
 have cut:splitId "set.__len__"=some ("set","__len__"):=by kernel_rfl
 dsimp only
 simp only [cut]
 refine F7 (wpAny_isInstance ty (b:=true) sub_set_self (wpAny_ite_false rfl ?_))
 rw [if_pos (by kernel_rfl)]
 exact F7 (wpAny_typeOf ty (F8 h))
theorem sA {v:Nat} (R:A.handled=none) (G:SAt w s.heap a es v t) (ty:s.TypeIs (.ref a) "set") (hz:es.size<=sizeLine) (h:∀ h' d' tk ord,ord.Perm (es.toList.map (·.2))->s.heap.objs.size<=h'.objs.size->(∀ b o,s.heap.get? b=some o->h'.get? b=some o)->Q ord { s with heap:=h',drawn:=d',toks:=tk }):wpAny (model prog w) A (collect (.ref a)) Q E s:=by
 have lt:a < s.heap.objs.size:=by obtain ⟨⟨o,e,_⟩,_⟩:=G;exact Gj e
 obtain ⟨d,g,y,tk,os⟩:=s
 unfold collect
 refine F7 (wpAny_runValue (codeAny_builtin F.entry_proto_collect ?_))
 rw [Around.under_plainId F.plain_proto_collect _]
 refine F7 (wpAny_newObj_type (F8 ⟨plainId_quiet F.plain_list_iadd _,codeAny_builtin F.entry_list_iadd ?_⟩))
 rw [Around.under_plainId F.plain_list_iadd _]
 have U:(d.push { cls:=.type "list",data:=.seq ([]:List Value).toArray }).get? d.objs.size=some { cls:=.type "list",data:=.seq ([]:List Value).toArray }:=Gn _ rfl
 have a1:SAt w (d.push { cls:=.type "list",data:=.seq ([]:List Value).toArray }) a es v t:=G.keep fun o e=>Gd _ e
 have i:(⟨d.push { cls:=.type "list",data:=.seq ([]:List Value).toArray },g,y,tk,os⟩:Shared).TypeIs (.ref a) "set":=let ⟨o,e,c⟩:=ty;⟨o,Gd _ e,c⟩
 have V:(d.push { cls:=.type "list",data:=.seq ([]:List Value).toArray }).objs.size=d.objs.size+1:=GO ..
 have k1:∀ b o,d.get? b=some o->(d.push { cls:=.type "list",data:=.seq ([]:List Value).toArray }).get? b=some o:=fun b o e=>Gd _ e
 refine (show wpAny _ A.in1 (Builtin.List.listExtendWith (.ref d.objs.size) (.ref a) (.ref d.objs.size)) _ _ ⟨d.push { cls:=.type "list",data:=.seq ([]:List Value).toArray },g,y,tk,os⟩ from ?_)
 generalize d.push { cls:=.type "list",data:=.seq ([]:List Value).toArray }=H1 at *
 unfold Builtin.List.listExtendWith
 refine F7 (wpAny_typeOf i ?_)
 rw [if_neg (by
  have e1:Builtin.List.listSameRef (.ref d.objs.size) (.ref a)=false:=beq_false_of_ne (Nat.ne_of_gt lt)
  have P:(Value.type "set" == Value.type "list")=false:=by decide
  have O:(Value.type "set" == Value.type "tuple")=false:=by decide
  rw [e1,P,O]
  decide)]
 refine F7 (yE (s:=⟨H1,g,y,tk,os⟩) a1 i hz fun h2 I k ord j pm q k2=>?_)
 have p:(⟨h2,g,k,tk,os⟩:Shared).TypeIs (.ref a) "set":=let ⟨o,e,c⟩:=i;⟨o,k2 _ _ e,c⟩
 refine F7 (F9 (Ag p ?_))
 have j:H1.objs.size<=I:=j
 rw [V] at j
 have H:d.objs.size ≠ I:=Gx j
 have M:a ≠ I:=Gx (Nat.lt_trans lt j)
 have ol:ord.length=es.size:=by have:=pm.length_eq;simpa using this
 have l:h2.get? d.objs.size=some (seqObj "list" #[] 0):=k2 _ _ U
 have a2:SAt w h2 a es v t:=a1.keep fun o e=>k2 _ _ e
 refine wpAny_ite_true (by kernel_rfl) ?_
 refine F7 (wpAny_rule ?_)
 refine F7 (F7 (listUpdate_at (s:=⟨h2,g,k,tk,os⟩) l rfl ?_))
 obtain ⟨D,J⟩:∃ D,(h2.update d.objs.size (Obj.mapSeq (·.push Value.none))).get? d.objs.size=some (seqObj "list" (#[].push Value.none) D):=⟨_,get?_update_seq l (·.push Value.none)⟩
 refine listUpdate_at (s:=⟨h2.update d.objs.size (Obj.mapSeq (·.push Value.none)),g,k,tk,os⟩) J rfl ?_
 obtain ⟨m,B⟩:∃ m,((h2.update d.objs.size (Obj.mapSeq (·.push Value.none))).update d.objs.size (Obj.mapSeq (·.pop))).get? d.objs.size=some (seqObj "list" (#[].push Value.none).pop m):=⟨_,get?_update_seq J (·.pop)⟩
 have f:∀ b o,b ≠ d.objs.size->h2.get? b=some o->((h2.update d.objs.size (Obj.mapSeq (·.push Value.none))).update d.objs.size (Obj.mapSeq (·.pop))).get? b=some o:=fun b o n e=>(Heap.SameBut.update ..).extBut _ _ n ((Heap.SameBut.update ..).extBut _ _ n e)
 have x:=q.keep (S:=d.objs.size) (Ne.symm H) (fun T ps e z=>by subst z;rw [l] at e;simp [seqObj] at e) f
 have K:=a2.keep fun o e=>f _ _ (Gx lt) e
 have N:d.objs.size < ((h2.update d.objs.size (Obj.mapSeq (·.push Value.none))).update d.objs.size (Obj.mapSeq (·.pop))).objs.size:=Gj B
 generalize ((h2.update d.objs.size (Obj.mapSeq (·.push Value.none))).update d.objs.size (Obj.mapSeq (·.pop)))=H4 at *
 refine F8 ⟨plainId_quiet F.plain_extend_loop _,CQ (ord:=ord) R M H (Nat.ne_of_gt lt) (by omega) _ ord.length 0 ⟨H4,g,k,tk,os⟩ m (by omega) (Nat.zero_le _) x K (by simpa [seqObj] using B) fun L W u C k5=>?_⟩
 refine F7 (wpAny_load C ?_)
 refine F8 ?_
 have e:ord.toArray.toList=ord:=by simp
 refine e.symm ▸ h L k u ord pm ?_ fun b o e=>?_
 ·exact Nat.le_of_lt (Gj C)
 ·have r:=Gj e
  exact k5 b o (Gx (Nat.lt_trans r j)) (Gx r) (f _ _ (Gx r) (k2 _ _ (k1 _ _ e)))
end
end L2
end
section
namespace L2
open PySem PySem.Spec PyProof.Rows
section
variable {X:Cx}
abbrev Bq (X:Cx) (p:Addr) (ns:List Int):HO:=.ext fun h=>SetL X.prog X.w h p ns
theorem Inv.drew (I:Inv X pins σ H s):Inv X pins σ H { s with drawn:=d } :=
 ⟨I.ok,I.os,I.bare,I.base,I.loc,I.cell,I.free,I.freeC,I.pin,I.hok,I.len⟩
def rSet (X:Cx):List V->Hp->VK->Prop:=fun xs H Q=>∃ (l:Addr) (ns:List Int),xs=[.ref l]/\SqT X.K H l (ns.map V.int)/\ns.length < 64/\∀ p,H p=none->Q (.ref p) (upd H p (Bq X p (ns.foldl met [])))
theorem xH (g:X.calm=true):CallR X (.type "set") (rSet X):=by
 intro pins s σ H xs us Q I f h
 obtain ⟨l,ns,rfl,d,b,q⟩:=h
 obtain ⟨u,rfl,c⟩:=eY f
 cases (show u=Value.ref l from c)
 obtain ⟨its,r,p,hz⟩:=I.tuple d
 have hlen:=r.length
 refine qc (I.ok.hd g) (show s.heap.IsTuple l its.toArray from p) (by simpa using mF r) (by simp at hlen ⊢;unfold scanBound;omega) fun h' tk S k=>?_
 exact ⟨.ref s.heap.objs.size,_,I.laid (a:=s.heap.objs.size) (o:=Bq X s.heap.objs.size (ns.foldl met [])) (t':=tk) k (Gv _) ⟨S,(let ⟨o,_,_,_,_,e,_⟩:=S;⟨o,e⟩),fun h1 h2 x k=>x.keep k⟩,rfl,q _ (I.hok.fresh (Gv _))⟩
def zd (X:Cx):List V->Hp->VK->Prop:=fun xs H Q=>∃ (p:Addr) (ns:List Int),xs=[.ref p]/\H p=some (Bq X p ns)/\ns.length < 64/\∀ q,H q=none->∀ a:List Int,a.Perm ns->a.Pairwise (·<=·)->Q (.ref q) (upd H q (.lst (a.map V.int)))
theorem uw (J:X.calm=true):CallR X (.builtin "sorted") (zd X):=by
 intro pins s σ H xs us Q I w h
 obtain ⟨p,ns,rfl,F,i,q⟩:=h
 obtain ⟨u,rfl,B⟩:=eY w
 cases (show u=Value.ref p from B)
 obtain ⟨S,_,_⟩:=I.hok p _ F
 have ty:=S.typeIs (s:=s)
 obtain ⟨o,es,K,t,ms,E,hex,hd,x,hi,pm,D,hf,y⟩:=S
 have C:=I.ok.hd J
 have sz:es.size<=sizeLine:=fits_of_scanBound D
 refine Calls.call_function_entry kind_sorted plain_sorted entry_sorted (args_sorted1 _) (F7 (F8 (F7 (sA (show X.A.in1.handled=none from C) ⟨⟨o,E,hd⟩,hf,y⟩ ty sz fun h1 G l ord po j k1=>?_))))
 obtain ⟨ks,g⟩:∃ ks,IntsAre ord ks:=by
  have:∀ v ∈ ord,∃ n t,v=Value.int n t:=fun v k=>by
   have:=po.mem_iff.mp k
   exact hi.all v this
  clear po
  induction ord with
  | nil=>exact ⟨[],.nil⟩
  | cons v ord ih =>
   obtain ⟨n,t,rfl⟩:=this v Ga
   obtain ⟨ks,h⟩:=ih fun v k=>this v (Gb _ k)
   exact ⟨n :: ks,.cons n t h⟩
 have m:ks.Perm ns:=(ko po g hi).trans pm
 have ol:ord.length < 64:=by rw [g.length,m.length_eq];exact i
 refine F7 (wpAny_newList ?_)
 have got:(h1.push (seqObj "list" ord.toArray 0)).get? h1.objs.size=some (seqObj "list" ord.toArray 0):=Gn _ rfl
 refine F7 (F9 (wpAny_call_entry slot_list_sort ⟨_,got,rfl⟩ entry_list_sort (list_sort_tree got g ol fun out f a b c=>⟨_,rfl,F8 ⟨_,rfl,?_⟩⟩) (args_list_sort _)))
 obtain ⟨e,he⟩:=sortedHeap_at (out:=out) got
 have nl:f.length < 64:=by rw [b.length_eq,m.length_eq];exact i
 have keep:∀ (b:Addr) (u:Obj),s.heap.get? b=some u->(sortedHeap (h1.push (seqObj "list" ord.toArray 0)) h1.objs.size ord out).get? b=some u:=fun b u z=>by
  have r:=Gj z
  rw [sortedHeap_old (Gx (GC r j)) (by rw [GO];exact Nat.lt_succ_of_lt (GC r j))]
  exact Gd _ (k1 _ _ z)
 refine ⟨.ref h1.objs.size,_,(I.drew (d:=G)).laid (a:=h1.objs.size) (o:=.lst (f.map V.int)) (t':=l) keep j ⟨?_,out.toList,e,ju a,by rw [he]⟩,rfl,q _ (I.hok.fresh j) f (b.trans m) c⟩
 rw [Go]
 have:64<=sizeLine:=by decide
 omega
end
end L2
end
section
namespace L2
open PySem PySem.Spec PyProof.Rows
section
variable {X:Cx}
theorem re (h:wpAny (model prog w) A (eval k env) (fun x s1=>wpAny (model prog w) A (eval v env) (fun y s2=>wpAny (model prog w) A (dictSet s.heap.objs.size x y) (fun _ s3=>Q (.ref s.heap.objs.size) s3) E s2) E s1) E { s with heap:=s.heap.push { cls:=.type "dict",data:=.dict #[] } }) :
  wpAny (model prog w) A (eval (.Dict [some k] [v] pos) env) Q E s:=by
 rw [arm_eval_Dict]
 refine F7 (wpAny_standAt ?_)
 have e:=dictDisplay_pairs [(eval k env,(do let x <- eval v env;standAt pos;pure x:Sem Value))] (by simp) (by simp)
 refine (show wpAny (model prog w) A (dictDisplay ([(eval k env,(do let x <- eval v env;standAt pos;pure x:Sem Value))].map fun p=>(some p.1,p.2))) Q E s from ?_)
 rw [e]
 refine F7 ?_
 unfold subDict
 refine F7 (wpAny_alloc (F7 (F9 ?_)))
 rw [if_pos (by simp)]
 refine F7 ?_
 unfold evalPairs
 refine F7 (wpAny_mono h (fun x s1 h1=>?_) fun _ _ z=>z)
 refine F7 (F9 (F7 (wpAny_mono h1 (fun y s2 h2=>?_) fun _ _ z=>z)))
 refine F7 (wpAny_standAt (F8 ?_))
 refine F7 (F9 (F8 (F8 (F9 ?_))))
 simp only [List.forIn_cons,List.forIn_nil]
 refine F7 (F7 (F7 (wpAny_mono h2 (fun _ s3 h3=>?_) fun _ _ z=>z)))
 exact F8 (F8 (F8 (F8 (F8 h3))))
def tD1K (k:Key) (v:V):TE:=fun _ H Q=>∀ p,H p=none->Q (.ref p) (upd (upd H p (.dK [])) p (.dK [(k,v)]))
theorem EW (u:PE X k (tC (kV key))) (n:PE X v (tC d)):PE X (.Dict [some k] [v] pos) (tD1K key d):=by
 intro pins s σ H Q I q
 have l:=I.hok.fresh (Gv s.heap.objs.size)
 have g:=I.laid (a:=s.heap.objs.size) (o:=.dK []) (h':=s.heap.push { cls:=.type "dict",data:=.dict #[] }) (t':=s.toks) (fun _ _ q=>Gd _ q) (Gv _) (Ax s.heap I.big)
 refine re (thn (u pins _ σ _ (fun x H2=>x=kV key/\H2=upd H s.heap.objs.size (.dK [])) g ⟨rfl,rfl⟩) fun x s1 ⟨A,H1,i,j,e1,f⟩=>thn (n pins s1 σ H1 (fun y H2=>y=d/\H2=upd H s.heap.objs.size (.dK [])) i ⟨rfl,f⟩) fun y s2 ⟨c,H2,e,h,t,p⟩=>?_)
 subst e1 f t p
 obtain ⟨z,hd,w,rel,dd⟩:=uq e.hok (.inl aC)
 cases rel
 refine iF (hsz:=Nat.zero_le _) (vH j) dd fun h' b r=>?_
 have he:∃ q,h'.get? s.heap.objs.size=some q:=let ⟨q,_,_,m,_⟩:=b;⟨q,m⟩
 have hz:[(key,c)].length<=sizeLine:=(by decide:1<=sizeLine)
 exact ⟨.ref s.heap.objs.size,_,lF e (by rw [aC];exact True.intro) r he (Aw (kvs:=[(key,c)]) hz hd (KV.put (kvs:=[]) .nil key h) b),rfl,q _ l⟩
def tD1T (ns:List Int) (v:V):TE:=fun _ H Q=>∀ p,H p=none->∀ b,upd H p (.dT []) b=none->Q (.ref p) (upd (upd (upd H p (.dT [])) b (.tup (ns.map V.int))) p (.dT [(ns.map Sum.inl,v)]))
theorem EV {x1:Nat} (hu:X.A.units+1 < cLine) (h0:ns ≠ []) (hz:ns.length<=100) (M:es.map xP=ns.map some) (E:PE X v (tC d)):PE X (.Dict [some (.Tuple es x1 pos')] [v] pos) (tD1T ns d):=by
 intro pins s σ H Q I q
 have C:=I.hok.fresh (Gv s.heap.objs.size)
 have p:=I.laid (a:=s.heap.objs.size) (o:=.dT []) (h':=s.heap.push { cls:=.type "dict",data:=.dict #[] }) (t':=s.toks) (fun _ _ q=>Gd _ q) (Gv _) (sj s.heap I.big)
 have D:=zu (X:=X) (x1:=x1) (pos:=pos') (vv ns M)
 have len:(ns.map V.int).length<=sizeLine:=by rw [Go,sizeLine_eq];omega
 refine re (thn (D pins _ σ _ (fun x H2=>∃ b,x=.ref b/\upd H s.heap.objs.size (.dT []) b=none/\H2=upd (upd H s.heap.objs.size (.dT [])) b (.tup (ns.map V.int))) p ⟨len,fun b e=>⟨b,rfl,e,rfl⟩⟩) fun x s1 ⟨N,H1,u,B,b,e1,e,L⟩=>thn (E pins s1 σ H1 (fun y H2=>y=d/\H2=H1) u ⟨rfl,rfl⟩) fun y s2 ⟨r,H2,g,t,K,F⟩=>?_)
 subst e1 L K F
 have nb:b ≠ s.heap.objs.size:=fun z=>by rw [z,aC] at e;cases e
 cases (show x=Value.ref b from B)
 have j:upd (upd H s.heap.objs.size (.dT [])) b (.tup (ns.map V.int)) s.heap.objs.size=some (.dT []):=by rw [ao (Ne.symm nb),aC]
 have hb2:upd (upd H s.heap.objs.size (.dT [])) b (.tup (ns.map V.int)) b=some (.tup ((ns.map Sum.inl).map kV)):=by rw [aC,GT];rfl
 obtain ⟨z,hd,xs,rel,dd⟩:=uo g.hok (.inl j)
 cases rel
 refine jg (hsz:=Nat.zero_le _) (show (tupleKind (bM X.prog X.w)).room X.A from Nat.lt_of_succ_lt hu) (pS g.hok hb2) dd fun h' h G=>?_
 obtain ⟨m,i,f,k,h2,h3,J,_,n⟩:=h
 refine ⟨.ref s.heap.objs.size,_,lF (ob:=.dT [(ns.map Sum.inl,r)]) g (by rw [j];exact True.intro) G ⟨m,k⟩ ⟨(by decide:1<=sizeLine),hd,_,(KT.put (kvs:=[]) .nil (ns.map Sum.inl) hb2 t).keeps fun c ys l=>?_,m,i,f,k,h2,h3,J,n⟩,rfl,q _ C b e⟩
 rw [ao (Dl l j (fun z=>nomatch z))]
 exact l
end
end L2
end
section
namespace L2
open PySem PySem.Spec PyProof.Rows
def sW (l:Array Value):Obj:=seqObj "tuple" l 0
def ev (cmp:Nat->Nat->Option Bool) {α:Type} (m:Sem α):Option Addr->Option (α × Option Addr):=by
 induction m with
 | pure a=>exact fun p=>some (a,p)
 | rule _ k ih=>exact ih ()
 | load b _ k ih=>exact fun p=>match p with
  | none=>ih (sW #[]) (some b)
  | some a=>match cmp a b with
   | some true=>ih (sW #[Value.none]) none
   | some false=>ih (sW #[]) none
   | none=>none
 | _=>exact fun _=>none
theorem vO (m:Sem α) (f:α->Sem β):∀ p,ev cmp (m.bind f) p=(ev cmp m p).bind fun r=>ev cmp (f r.1) r.2:=by
 induction m with
 | pure a=>exact fun p=>rfl
 | rule _ k ih=>exact ih ()
 | load b _ k ih =>
  intro p
  cases p with
  | none=>exact ih _ _
  | some a =>
   show (match cmp a b with
    | some true=>ev cmp ((k (sW #[Value.none])).bind f) none
    | some false=>ev cmp ((k (sW #[])).bind f) none
    | none=>none)=Option.bind (match cmp a b with
    | some true=>ev cmp (k (sW #[Value.none])) none
    | some false=>ev cmp (k (sW #[])) none
    | none=>none) _
   grind
 | _=>exact fun _=>rfl
def tV (k:SortKind):Prop:=k=a9 true\/k=oneType'
structure Fol (φ:Keyed->Keyed) (st ps:SortSt):Prop where
 kind:tV (kindOf st)
 kind':kindOf ps=a9 true
 arr:arrOf st=(arrOf ps).map φ
 pend:pendingOf st=pendingOf ps
 mg:gallopOf st=gallopOf ps
 fail:failedOf st=none
 fail':failedOf ps=none
class EqRl (α:Type) where
instance:EqRl Nat:=⟨⟩
instance:EqRl Bool:=⟨⟩
instance:EqRl PUnit:=⟨⟩
instance {α:Type} [EqRl α]:EqRl (Option α):=⟨⟩
instance {α:Type} [EqRl α]:EqRl (Array α):=⟨⟩
instance {α β:Type} [EqRl α] [EqRl β]:EqRl (α × β):=⟨⟩
instance {α:Type} [EqRl α]:EqRl (ForInStep α):=⟨⟩
class Rl (φ:Keyed->Keyed) (α:Type) where
 rel:α->α->Prop
variable {φ:Keyed->Keyed}
instance rlO {α:Type} [Rl φ α]:Rl φ (Option α):=⟨fun x y=>match x,y with | none,none=>True | some a,some b=>Rl.rel φ a b | _,_=>False⟩
instance rlP {α β:Type} [Rl φ α] [Rl φ β]:Rl φ (α × β):=⟨fun x y=>Rl.rel φ x.1 y.1/\Rl.rel φ x.2 y.2⟩
instance rlF {α:Type} [Rl φ α]:Rl φ (ForInStep α):=⟨fun x y=>match x,y with | .done a,.done b=>Rl.rel φ a b | .yield a,.yield b=>Rl.rel φ a b | _,_=>False⟩
instance rlK:Rl φ Keyed:=⟨fun p i=>p = φ i⟩
instance rlA:Rl φ (Array Keyed):=⟨fun p i=>p=i.map φ⟩
instance rlS:Rl φ SortSt:=⟨Fol φ⟩
instance (priority:=high) rlE {α:Type} [EqRl α]:Rl φ α:=⟨Eq⟩
section
variable {prog:Program} {w:World} {A:Around} {E:Value->Shared->Prop} {s:Shared} {cmp:Nat->Nat->Option Bool} {α β:Type}
def Sim (prog:Program) (w:World) (A:Around) (E:Value->Shared->Prop) (s:Shared) (φ:Keyed->Keyed) (cmp:Nat->Nat->Option Bool) {α:Type} [Rl φ α] (m p:StateT SortSt Sem α):Prop :=
 ∀ st ps b c q,Fol φ st ps->ev cmp (p.run ps) none=some ((b,c),q)->∃ a d,Rl.rel φ a b/\Fol φ d c/\q=none/\∀ Q:α->SortSt->Prop,Q a d->wpS (model prog w) A E s m Q st
theorem aN [Rl φ α] {a b:α} (h:Rl.rel φ a b):Sim prog w A E s φ cmp (pure a) (pure b):=by
 intro st ps g c d f e
 cases e
 exact ⟨a,st,h,f,rfl,fun Q q=>wpS_pure q⟩
theorem cA [Rl φ α] [Rl φ β] {m p:StateT SortSt Sem α} {f g:α->StateT SortSt Sem β} (h:Sim prog w A E s φ cmp m p) (k:∀ a b,Rl.rel φ a b->Sim prog w A E s φ cmp (f a) (g b)):Sim prog w A E s φ cmp (m >>= f) (p >>= g):=by
 intro st ps t d o v e
 have e:ev cmp ((p.run ps).bind fun x=>(g x.1).run x.2) none=some ((t,d),o):=e
 rw [vO] at e
 obtain ⟨⟨⟨b,i⟩,y⟩,e1,u⟩:=GJ.mp e
 obtain ⟨a,st1,r,j,rfl,h1⟩:=h st ps b i y v e1
 obtain ⟨c,l,z,n,rfl,h2⟩:=k a b r st1 i t d o j u
 exact ⟨c,l,z,n,rfl,fun Q q=>wpS_bind (h1 _ (h2 Q q))⟩
theorem aD [EqRl α] [Rl φ β] {f g:α->StateT SortSt Sem β} (h:Sim prog w A E s φ cmp m p) (k:∀ a,Sim prog w A E s φ cmp (f a) (g a)):Sim prog w A E s φ cmp (m >>= f) (p >>= g) :=
 cA h fun a b (r:a=b)=>r ▸ k a
theorem bu [EqRl α] [Rl φ β] {f g:Option α->StateT SortSt Sem β} (h:Sim prog w A E s φ cmp m p) (c:Sim prog w A E s φ cmp (f none) (g none)) (ks:∀ a,Sim prog w A E s φ cmp (f (some a)) (g (some a))):Sim prog w A E s φ cmp (m >>= f) (p >>= g) :=
 cA h fun a b (r:a=b)=>r ▸ (match a with | none=>c | some a=>ks a)
theorem bD [Rl φ α] [Decidable c] {m n p q:StateT SortSt Sem α} (h1:c->Sim prog w A E s φ cmp m p) (h2:¬ c->Sim prog w A E s φ cmp n q):Sim prog w A E s φ cmp (if c then m else n) (if c then p else q):=by grind
theorem yx [Rl φ α] {m p:StateT SortSt Sem α} (h:∀ ps,ev cmp (p.run ps) none=none):Sim prog w A E s φ cmp m p:=fun st ps b a q f e=>by
 rw [h] at e
 cases e
theorem cV [Rl φ α]:Sim prog w A E s φ cmp m (unsupported t:Sem α):=yx fun _=>rfl
theorem kK [Rl φ α] (h : ∀ i x y, Rl.rel φ x y -> @Sim prog w A E s φ cmp _ rlF (f i x) (g i y)) : ∀ (l : List Nat) (x y : α), Rl.rel φ x y -> Sim prog w A E s φ cmp (forIn l x f) (forIn l y g)
  | [], x, y, r => by rw [List.forIn_nil, List.forIn_nil]; exact aN r
  | i :: l, x, y, r => by
    rw [List.forIn_cons, List.forIn_cons]
    refine @cA _ _ _ _ _ _ _ _ _ rlF _ _ _ _ _ (h i x y r) fun a b ab => ?_
    cases a <;> cases b <;> first | exact False.elim ab | skip
    · exact aN ab
    · exact kK h l _ _ ab
theorem fB [Rl φ α] {a b:Nat} {x y:α} (r:Rl.rel φ x y) (h:∀ i x y,Rl.rel φ x y->@Sim prog w A E s φ cmp _ rlF (f i x) (g i y)):Sim prog w A E s φ cmp (forIn [a:b] x f) (forIn [a:b] y g):=by
 rw [Std.Legacy.Range.forIn_eq_forIn_range',Std.Legacy.Range.forIn_eq_forIn_range']
 exact kK h _ _ _ r
theorem iN [EqRl α] {a b:Nat} {x:α} (h:∀ i x,Sim prog w A E s φ cmp (f i x) (g i x)):Sim prog w A E s φ cmp (forIn [a:b] x f) (forIn [a:b] x g):=by
 refine fB rfl fun i x y r=>?_
 cases r
 intro st ps b d q k e
 obtain ⟨c,j,r,gw⟩:=h i x st ps b d q k e
 refine ⟨c,j,?_,gw⟩
 obtain rfl:c=b:=r
 cases c <;> exact (rfl:_=_)
theorem uU:Sim prog w A E s φ cmp (get:StateT SortSt Sem SortSt) get:=by
 intro st ps b a q f e
 cases e
 exact ⟨st,st,f,f,rfl,fun Q q=>wpS_get q⟩
theorem dQ (h:∀ st ps,Fol φ st ps->Fol φ (f st) (g ps)):Sim prog w A E s φ cmp (modify f:StateT SortSt Sem PUnit) (modify g):=by
 intro st ps b a q c e
 cases e
 exact ⟨_,_,rfl,h st ps c,rfl,fun Q q=>wpS_modify q⟩
theorem Bj (h:Fol φ c a):Sim prog w A E s φ cmp (set c:StateT SortSt Sem PUnit) (set a):=by
 intro st ps b a q d e
 cases e
 exact ⟨_,_,rfl,h,rfl,fun Q q=>F8 ⟨rfl,q⟩⟩
theorem dP:Sim prog w A E s φ cmp (liftM (PySem.rule r:Sem Unit):StateT SortSt Sem Unit) (liftM (PySem.rule r:Sem Unit)):=by
 intro st ps b a q c e
 cases e
 exact ⟨_,st,rfl,c,rfl,fun Q q=>wpS_lift (wpAny_rule ⟨rfl,q⟩)⟩
theorem yA {i:Nat}:Sim prog w A E s φ cmp (elem' (arr.map φ) i) (elem' arr i):=by
 rw [elem'_eq,elem'_eq]
 cases e:arr[i]? with
 | none=>exact cV
 | some x =>
  have:(arr.map φ)[i]?=some (φ x):=by rw [Array.getElem?_map,e];rfl
  rw [this]
  exact aN rfl
theorem bJ [Rl φ α] {i:Nat} {f g:Keyed->StateT SortSt Sem α} (k:∀ u,Sim prog w A E s φ cmp (f (φ u)) (g u)):Sim prog w A E s φ cmp (elem' (arr.map φ) i >>= f) (elem' arr i >>= g) :=
 cA yA fun u u' (hu:u = φ u')=>hu ▸ k u'
end
def mR (bs:List Addr) (x:Keyed):Keyed:=match x.1 with
 | .ref i=>(.ref (bs.getD i 0),.ref (bs.getD i 0))
 | _=>(.none,.none)
def bB (ns:List (List Int)) (i j:Nat):Option Bool:=match ns[i]?,ns[j]? with
 | some x,some y=>some (HT.lexLt x y)
 | _,_=>none
section
variable {prog:Program} {w:World} {A:Around} {E:Value->Shared->Prop} {s:Shared} {bs:List Addr} {ns:List (List Int)}
theorem rX (h:∀ a,v ≠ .ref a):∃ t,Builtin.List.listItems v=Sem.unsupported t:=by
 cases v
 case ref a=>exact absurd rfl (h a)
 case builtin id =>
  by_cases b:(withoutEnding? id "#opaque").isSome=true
  ·have e:notAStandIn (.builtin id)=Sem.unsupported id:=if_pos b
   refine ⟨id,?_⟩
   show Sem.bind (Sem.bind (notAStandIn (.builtin id)) _) _=_
   rw [e]
   rfl
  ·have e:notAStandIn (.builtin id)=Sem.pure ():=if_neg b
   have c:Builtin.List.listItems (.builtin id)=Sem.bind (Sem.bind (notAStandIn (.builtin id)) _) _:=rfl
   rw [e] at c
   exact ⟨_,c⟩
 all_goals exact ⟨_,rfl⟩
theorem Cz (h:∀ a,v ≠ .ref a):∃ t,keyLt' (a9 true) v y=Sem.unsupported t:=by
 obtain ⟨t,e⟩:=rX h
 obtain ⟨G,e1⟩:∃ G,keyLt' (a9 true) v y=(Builtin.List.listItems v).bind G:=⟨_,rfl⟩
 exact ⟨t,by rw [e1,e];rfl⟩
theorem Cy (h:∀ a,v ≠ .ref a):∃ t,keyLt' (a9 true) (.ref i) v=(Builtin.List.listItems (.ref i)).bind fun _=>Sem.unsupported t:=by
 obtain ⟨t,e⟩:=rX h
 obtain ⟨G,e1⟩:∃ G:Array Value->Array Value->Sem Bool,keyLt' (a9 true) (.ref i) v=(Builtin.List.listItems (.ref i)).bind fun xs=>(Builtin.List.listItems v).bind (G xs):=⟨_,rfl⟩
 exact ⟨t,by rw [e1,e];rfl⟩
theorem wQ (l:IsNts s.heap a x) (q:IsNts s.heap b y) (hu:A.units < cLine) (h:Q (HT.lexLt x y) s):wpAny (model prog w) A (oneLt' true (.ref a) (.ref b)) Q E s:=by
 obtain ⟨r,⟨⟨c1,c,o,e⟩,e1,c1,u,i⟩,t⟩:=l
 obtain ⟨m,⟨⟨c2,f,n,d⟩,k,c2,j,g⟩,p⟩:=q
 simp only at c1 i c2 g
 subst c1 i c2 g
 rw [oneLt'_eq]
 simp only [if_true]
 refine F7 (wpAny_cRoomFor hu ?_)
 refine F7 (wpAny_callSpecialIfBound?_slot (T:="tuple") ⟨_,e1,rfl⟩ PySem.F.slot_tuple_lt (call_meets PySem.F.slot_tuple_lt (T:="tuple") ⟨_,e1,rfl⟩ PySem.F.entry_tuple_lt (PySem.F.args_tuple_lt_2 _ _) (HT.tuple_lt_ints a b r m u j c f e d x y t p) ⟨e1,k,?_⟩))
 exact GP h
theorem Ea (hu:A.units < cLine) (r:∀ (i:Nat) (n:List Int),ns[i]?=some n->IsNts s.heap (bs.getD i 0) n) (x y:Keyed):Sim prog w A E s (mR bs) (bB ns) (lt' (mR bs x) (mR bs y)) (lt' x y):=by
 intro st ps b c q f e
 obtain ⟨x1,z⟩:=x
 obtain ⟨o,v⟩:=y
 have l:=f.kind'
 cases ps with
 | mk k a pd g fl =>
 have l:k=a9 true:=l
 subst l
 by_cases d:∀ a,x1 ≠ .ref a
 ·obtain ⟨t,h⟩:=Cz (y:=o) d
  rw [lt'_eq] at e
  have e:ev (bB ns) (Sem.bind (Sem.bind (Sem.attempt (keyLt' (a9 true) x1 o)) _) _) none=some ((b,c),q):=e
  rw [h] at e
  cases e
 ·by_cases u:∀ a,o ≠ .ref a
  ·obtain ⟨i,d⟩:=Classical.not_forall.mp d
   obtain rfl:x1=.ref i:=Classical.not_not.mp d
   obtain ⟨t,h⟩:=Cy (i:=i) u
   rw [lt'_eq] at e
   have e:ev (bB ns) (Sem.bind (Sem.bind (Sem.attempt (keyLt' (a9 true) (.ref i) o)) _) _) none=some ((b,c),q):=e
   rw [h] at e
   cases e
  ·obtain ⟨i,d⟩:=Classical.not_forall.mp d
   obtain rfl:x1=.ref i:=Classical.not_not.mp d
   obtain ⟨j,u⟩:=Classical.not_forall.mp u
   obtain rfl:o=.ref j:=Classical.not_not.mp u
   have e:(match bB ns i j with
    | some true=>some ((some true,SortSt.mk' (a9 true) a pd g fl),none)
    | some false=>some ((some false,SortSt.mk' (a9 true) a pd g fl),none)
    | none=>none)=some ((b,c),q):=e
   unfold bB at e
   cases e1:ns[i]? with
   | none=>rw [e1] at e;cases e
   | some n =>
    cases p:ns[j]? with
    | none=>rw [e1,p] at e;cases e
    | some m =>
     rw [e1,p] at e
     have e:(match some (HT.lexLt n m) with
      | some true=>some ((some true,SortSt.mk' (a9 true) a pd g fl),none)
      | some false=>some ((some false,SortSt.mk' (a9 true) a pd g fl),none)
      | none=>none)=some ((b,c),q):=e
     have e:some ((some (HT.lexLt n m),SortSt.mk' (a9 true) a pd g fl),(none:Option Addr))=some ((b,c),q):=by
      rw [<- e]
      cases HT.lexLt n m <;> rfl
     cases e
     refine ⟨_,st,rfl,f,rfl,fun Q q=>?_⟩
     rw [lt'_eq]
     refine wpS_bind (wpS_get ?_)
     rcases f.kind with l | l <;> rw [l]
     ·refine wpS_bind (wpS_lift (wpAny_attempt (xi (r i n e1) (r j m p) ⟨rfl,?_⟩)))
      exact wpS_pure q
     ·rw [keyLt'_oneType]
      refine wpS_bind (wpS_lift (wpAny_attempt (wQ (r i n e1) (r j m p) hu ⟨rfl,?_⟩)))
      exact wpS_pure q
end
end L2
end
section
namespace L2
open PySem PySem.Spec PyProof.Rows
def vM:Bool->Keyed->Array Keyed->Nat->Nat->Nat->StateT SortSt Sem (Option Nat):=sortPriv% PySem.Builtin.gallop
def rH:Array Keyed->Array Keyed->StateT SortSt Sem (Array Keyed):=sortPriv% PySem.Builtin.mergeLo
def rJ:Array Keyed->Array Keyed->StateT SortSt Sem (Array Keyed):=sortPriv% PySem.Builtin.mergeHi
def yG:Nat->StateT SortSt Sem Unit:=sortPriv% PySem.Builtin.setMinGallop
section
variable {prog:Program} {w:World} {A:Around} {E:Value->Shared->Prop} {s:Shared} {φ:Keyed->Keyed} {cmp:Nat->Nat->Option Bool}
theorem nV {g:Nat}:Sim prog w A E s φ cmp (yG g) (yG g) :=
 dQ fun st ps f=>⟨f.kind,f.kind',f.arr,f.pend,rfl,f.fail,f.fail'⟩
theorem iO [EqRl γ] [EqRl δ] [Rl φ β] {m p:StateT SortSt Sem (Option γ × δ)} {f g:Option γ × δ->StateT SortSt Sem β} (h:Sim prog w A E s φ cmp m p) (a:∀ d,Sim prog w A E s φ cmp (f (none,d)) (g (none,d))) (ks:∀ c d,Sim prog w A E s φ cmp (f (some c,d)) (g (some c,d))):Sim prog w A E s φ cmp (m >>= f) (p >>= g) :=
 aD h fun x=>match x with
  | (none,d)=>a d
  | (some c,d)=>ks c d
theorem qK (a:∀ x y:Keyed,Sim prog w A E s φ cmp (lt' (φ x) (φ y)) (lt' x y)) {i j:Nat}:Sim prog w A E s φ cmp (ltAt' i j) (ltAt' i j):=by
 rw [ltAt'_eq]
 refine cA uU fun st ps f=>?_
 have e:arrOf st=(arrOf ps).map φ:=Fol.arr f
 dsimp only
 rw [e]
 exact bJ fun u=>bJ fun v=>a u v
theorem dq {β:Type} (p q:β->Nat):∀ (l:List β) (xs:Array Keyed),l.foldl (fun a k=>a.swapIfInBounds (p k) (q k)) (xs.map φ)=(l.foldl (fun a k=>a.swapIfInBounds (p k) (q k)) xs).map φ
 | [],xs=>rfl
 | k :: l,xs=>by
  rw [List.foldl_cons,List.foldl_cons,<- dq p q l]
  congr 1
  apply Array.ext_getElem?
  intro i
  rw [Array.getElem?_map]
  by_cases h1:p k < xs.size
  ·by_cases h2:q k < xs.size
   ·rw [getElem?_swapIB (by simpa using h1) (by simpa using h2),getElem?_swapIB h1 h2]
    simp only [Array.getElem?_map]
    repeat' split
    all_goals rfl
   ·rw [Array.swapIfInBounds_def,Array.swapIfInBounds_def,dif_pos (by simpa using h1),dif_neg (by simpa using h2),dif_pos h1,dif_neg h2,Array.getElem?_map]
  ·rw [Array.swapIfInBounds_def,Array.swapIfInBounds_def,dif_neg (by simpa using h1),dif_neg h1,Array.getElem?_map]
theorem uS {i j:Nat}:Sim prog w A E s φ cmp (reverseSlice' i j) (reverseSlice' i j):=by
 rw [reverseSlice'_eq]
 refine dQ fun st ps f=>⟨f.kind,f.kind',?_,f.pend,f.mg,f.fail,f.fail'⟩
 show mirror (arrOf st) _ _ _=(mirror (arrOf ps) _ _ _).map φ
 rw [f.arr]
 exact dq _ _ _ _
theorem qL {i j:Nat}:Sim prog w A E s φ cmp (moveDown' i j) (moveDown' i j):=by
 rw [moveDown'_eq]
 refine dQ fun st ps f=>⟨f.kind,f.kind',?_,f.pend,f.mg,f.fail,f.fail'⟩
 show bubble (arrOf st) _ _=(bubble (arrOf ps) _ _).map φ
 rw [f.arr]
 exact dq _ _ _ _
theorem Bm (a:∀ x y:Keyed,Sim prog w A E s φ cmp (lt' (φ x) (φ y)) (lt' x y)) {lo n ok:Nat}:Sim prog w A E s φ cmp (binarySort' lo n ok) (binarySort' lo n ok):=by
 rw [binarySort'_eq]
 repeat' first
  | exact aN rfl
  | exact cV
  | refine bD (fun _=>?_) (fun _=>?_)
  | (refine bu (qK a) ?_ (fun u=>?_) <;> try dsimp only)
  | (refine aD uS (fun u=>?_);try dsimp only)
  | (refine aD qL (fun u=>?_);try dsimp only)
  | (refine aD dP (fun u=>?_);try dsimp only)
  | (refine iO (iN fun i x=>?_) (fun d=>?_) (fun c d=>?_) <;> try dsimp only)
  | (refine aD (iN fun i x=>?_) (fun x=>?_) <;> try dsimp only)
theorem Bk (a:∀ x y:Keyed,Sim prog w A E s φ cmp (lt' (φ x) (φ y)) (lt' x y)) {lo n:Nat}:Sim prog w A E s φ cmp (countRun' lo n) (countRun' lo n):=by
 rw [countRun'_eq]
 repeat' first
  | exact aN rfl
  | exact cV
  | refine bD (fun _=>?_) (fun _=>?_)
  | (refine bu (qK a) ?_ (fun u=>?_) <;> try dsimp only)
  | (refine aD uS (fun u=>?_);try dsimp only)
  | (refine aD qL (fun u=>?_);try dsimp only)
  | (refine aD dP (fun u=>?_);try dsimp only)
  | (refine iO (iN fun i x=>?_) (fun d=>?_) (fun c d=>?_) <;> try dsimp only)
  | (refine aD (iN fun i x=>?_) (fun x=>?_) <;> try dsimp only)
end
end L2
end
section
namespace L2
open PySem PySem.Spec PyProof.Rows
section
variable {prog:Program} {w:World} {A:Around} {E:Value->Shared->Prop} {s:Shared} {φ:Keyed->Keyed} {cmp:Nat->Nat->Option Bool}
theorem fA (a:∀ x y:Keyed,Sim prog w A E s φ cmp (lt' (φ x) (φ y)) (lt' x y)) {base n hint:Nat}:Sim prog w A E s φ cmp (vM left (φ key) (arr.map φ) base n hint) (vM left key arr base n hint):=by
 refine bu (bJ fun u=>bD (fun _=>a _ _) (fun _=>aD (a _ _) fun r=>aN rfl)) (aN rfl) (fun u=>?_)
 dsimp only
 repeat' first
  | exact aN rfl
  | refine bD (fun _=>?_) (fun _=>?_)
  | (refine bu (bJ fun u=>bD (fun _=>a _ _) (fun _=>aD (a _ _) fun r=>aN rfl)) ?_ (fun u=>?_) <;> try dsimp only)
  | (refine iO (iN fun i x=>?_) (fun d=>?_) (fun c d=>?_) <;> try dsimp only)
end
end L2
end
section
namespace L2
open PySem PySem.Spec PyProof.Rows
section
variable {prog:Program} {w:World} {A:Around} {E:Value->Shared->Prop} {s:Shared} {φ:Keyed->Keyed} {cmp:Nat->Nat->Option Bool}
theorem kN [EqRl α]:@Rl.rel φ α rlE a a:=rfl
theorem ig {X Y:Array Keyed} (h:X=Y.map φ):Rl.rel φ X Y:=h
theorem eB [Rl φ α] {a b:α} (h:Rl.rel φ a b):@Rl.rel φ _ rlO (some a) (some b):=h
theorem eD [Rl φ α]:@Rl.rel φ _ rlO (none:Option α) none:=trivial
theorem eE [Rl φ α] {a b:α} (h:Rl.rel φ a b):@Rl.rel φ _ rlF (ForInStep.done a) (ForInStep.done b):=h
theorem c9 [Rl φ α] {a b:α} (h:Rl.rel φ a b):@Rl.rel φ _ rlF (ForInStep.yield a) (ForInStep.yield b):=h
theorem eC [Rl φ α] [Rl φ β] {a b:α} {c d:β} (h:Rl.rel φ a b) (h':Rl.rel φ c d):@Rl.rel φ _ rlP (a,c) (b,d):=⟨h,h'⟩
theorem yz [EqRl γ] {a b : Nat} {x y : Option (Array Keyed) × Array Keyed × γ} {f g : Nat -> Option (Array Keyed) × Array Keyed × γ -> StateT SortSt Sem (ForInStep (Option (Array Keyed) × Array Keyed × γ))} (r : Rl.rel φ x y) (h : ∀ i o d c, Sim prog w A E s φ cmp (f i (o.map (Array.map φ), d.map φ, c)) (g i (o, d, c))) : Sim prog w A E s φ cmp (forIn [a:b] x f) (forIn [a:b] y g) := by
  refine fB r fun i x y r => ?_
  obtain ⟨x1, m, j⟩ := x
  obtain ⟨t, e, u⟩ := y
  obtain ⟨k, n, l⟩ := r
  obtain rfl : m = e.map φ := n
  obtain rfl : j = u := l
  cases x1 <;> cases t <;> first | exact False.elim k | skip
  · exact h i none e j
  · rename_i p q
    obtain rfl : p = q.map φ := k
    exact h i (some q) e j
theorem wx [EqRl γ] [Rl φ β] {m p : StateT SortSt Sem (Option (Array Keyed) × Array Keyed × γ)} {f g : Option (Array Keyed) × Array Keyed × γ -> StateT SortSt Sem β} (h : Sim prog w A E s φ cmp m p) (l : ∀ d c, Sim prog w A E s φ cmp (f (none, d.map φ, c)) (g (none, d, c))) (ks : ∀ r d c, Sim prog w A E s φ cmp (f (some (r.map φ), d.map φ, c)) (g (some r, d, c))) : Sim prog w A E s φ cmp (m >>= f) (p >>= g) := by
  refine cA h fun x y r => ?_
  obtain ⟨x1, j, b⟩ := x
  obtain ⟨n, a, o⟩ := y
  obtain ⟨e, k, i⟩ := r
  obtain rfl : j = a.map φ := k
  obtain rfl : b = o := i
  cases x1 <;> cases n <;> first | exact False.elim e | skip
  · exact l a b
  · rename_i p q
    obtain rfl : p = q.map φ := e
    exact ks q a b
theorem cW [Rl φ β] {f g:SortSt->StateT SortSt Sem β} (k:∀ st ps,Fol φ st ps->Sim prog w A E s φ cmp (f st) (g ps)):Sim prog w A E s φ cmp (get >>= f) (get >>= g) :=
 cA uU fun st ps a=>k st ps a
theorem qH (e:∀ x y:Keyed,Sim prog w A E s φ cmp (lt' (φ x) (φ y)) (lt' x y)) (a b:Array Keyed):Sim prog w A E s φ cmp (rH (a.map φ) (b.map φ)) (rH a b):=by
 refine aD dP fun _=>?_
 refine bJ fun y=>?_
 simp only [Array.size_map]
 refine bD (fun _=>aN (by (repeat' first | with_reducible exact eD | with_reducible apply eE | with_reducible apply c9 | with_reducible apply eB | (with_reducible apply ig;simp only [Array.map_append,Array.map_push,Array.map_extract,Array.map_reverse,List.map_toArray,Gz,List.map_nil];done) | with_reducible apply eC | with_reducible exact kN))) fun _=>?_
 refine bD (fun _=>aN (by (repeat' first | with_reducible exact eD | with_reducible apply eE | with_reducible apply c9 | with_reducible apply eB | (with_reducible apply ig;simp only [Array.map_append,Array.map_push,Array.map_extract,Array.map_reverse,List.map_toArray,Gz,List.map_nil];done) | with_reducible apply eC | with_reducible exact kN))) fun _=>?_
 refine cW fun st ps g=>?_
 have f:=g.mg
 simp only [gallopOf] at f
 rw [f]
 repeat' first
  | exact aN (by (repeat' first | with_reducible exact eD | with_reducible apply eE | with_reducible apply c9 | with_reducible apply eB | (with_reducible apply ig;simp only [Array.map_append,Array.map_push,Array.map_extract,Array.map_reverse,List.map_toArray,Gz,List.map_nil];done) | with_reducible apply eC | with_reducible exact kN))
  | exact cV
  | refine bD (fun _=>?_) (fun _=>?_)
  | refine aD nV (fun _=>?_)
  | refine aD dP (fun _=>?_)
  | refine bJ fun u=>?_
  | (refine bu (fA e) ?_ (fun u=>?_) <;> try dsimp only)
  | (refine bu (e _ _) ?_ (fun u=>?_) <;> try dsimp only)
  | (refine wx (yz (by (repeat' first | with_reducible exact eD | with_reducible apply eE | with_reducible apply c9 | with_reducible apply eB | (with_reducible apply ig;simp only [Array.map_append,Array.map_push,Array.map_extract,Array.map_reverse,List.map_toArray,Gz,List.map_nil];done) | with_reducible apply eC | with_reducible exact kN)) fun i o d c=>?_) (fun d c=>?_) (fun r d c=>?_) <;> try dsimp only)
end
end L2
end
section
namespace L2
open PySem PySem.Spec PyProof.Rows
section
variable {prog:Program} {w:World} {A:Around} {E:Value->Shared->Prop} {s:Shared} {φ:Keyed->Keyed} {cmp:Nat->Nat->Option Bool}
theorem yy [EqRl γ] {a b : Nat} {x y : Option (Array Keyed) × Nat × Nat × Array Keyed × γ} {f g : Nat -> Option (Array Keyed) × Nat × Nat × Array Keyed × γ -> StateT SortSt Sem (ForInStep (Option (Array Keyed) × Nat × Nat × Array Keyed × γ))} (r : Rl.rel φ x y) (h : ∀ i o m n d c, Sim prog w A E s φ cmp (f i (o.map (Array.map φ), m, n, d.map φ, c)) (g i (o, m, n, d, c))) : Sim prog w A E s φ cmp (forIn [a:b] x f) (forIn [a:b] y g) := by
  refine fB r fun i x y r => ?_
  obtain ⟨x1, v, u, D, j⟩ := x
  obtain ⟨G, B, t, e, H⟩ := y
  obtain ⟨k, C, l, F, z⟩ := r
  obtain rfl : v = B := C
  obtain rfl : u = t := l
  obtain rfl : D = e.map φ := F
  obtain rfl : j = H := z
  cases x1 <;> cases G <;> first | exact False.elim k | skip
  · exact h i none _ _ e j
  · rename_i p q
    obtain rfl : p = q.map φ := k
    exact h i (some q) _ _ e j
theorem ww [EqRl γ] [Rl φ β] {m p : StateT SortSt Sem (Option (Array Keyed) × Nat × Nat × Array Keyed × γ)} {f g : Option (Array Keyed) × Nat × Nat × Array Keyed × γ -> StateT SortSt Sem β} (h : Sim prog w A E s φ cmp m p) (z : ∀ m n d c, Sim prog w A E s φ cmp (f (none, m, n, d.map φ, c)) (g (none, m, n, d, c))) (ks : ∀ r m n d c, Sim prog w A E s φ cmp (f (some (r.map φ), m, n, d.map φ, c)) (g (some r, m, n, d, c))) : Sim prog w A E s φ cmp (m >>= f) (p >>= g) := by
  refine cA h fun x y r => ?_
  obtain ⟨x1, l, k, u, b⟩ := x
  obtain ⟨C, t, j, a, D⟩ := y
  obtain ⟨e, v, i, B, o⟩ := r
  obtain rfl : l = t := v
  obtain rfl : k = j := i
  obtain rfl : u = a.map φ := B
  obtain rfl : b = D := o
  cases x1 <;> cases C <;> first | exact False.elim e | skip
  · exact z _ _ a b
  · rename_i p q
    obtain rfl : p = q.map φ := e
    exact ks q _ _ a b
theorem qI (e:∀ x y:Keyed,Sim prog w A E s φ cmp (lt' (φ x) (φ y)) (lt' x y)) (a b:Array Keyed):Sim prog w A E s φ cmp (rJ (a.map φ) (b.map φ)) (rJ a b):=by
 refine aD dP fun _=>?_
 simp only [Array.size_map]
 refine bJ fun y=>?_
 refine bD (fun _=>aN (by (repeat' first | with_reducible exact eD | with_reducible apply eE | with_reducible apply c9 | with_reducible apply eB | (with_reducible apply ig;simp only [Array.map_append,Array.map_push,Array.map_extract,Array.map_reverse,List.map_toArray,Gz,List.map_nil];done) | with_reducible apply eC | with_reducible exact kN))) fun _=>?_
 refine bD (fun _=>aN (by (repeat' first | with_reducible exact eD | with_reducible apply eE | with_reducible apply c9 | with_reducible apply eB | (with_reducible apply ig;simp only [Array.map_append,Array.map_push,Array.map_extract,Array.map_reverse,List.map_toArray,Gz,List.map_nil];done) | with_reducible apply eC | with_reducible exact kN))) fun _=>?_
 refine cW fun st ps g=>?_
 have f:=g.mg
 simp only [gallopOf] at f
 rw [f]
 repeat' first
  | exact aN (by (repeat' first | with_reducible exact eD | with_reducible apply eE | with_reducible apply c9 | with_reducible apply eB | (with_reducible apply ig;simp only [Array.map_append,Array.map_push,Array.map_extract,Array.map_reverse,List.map_toArray,Gz,List.map_nil];done) | with_reducible apply eC | with_reducible exact kN))
  | exact cV
  | refine bD (fun _=>?_) (fun _=>?_)
  | refine aD nV (fun _=>?_)
  | refine aD dP (fun _=>?_)
  | refine bJ fun u=>?_
  | (refine bu (fA e) ?_ (fun u=>?_) <;> try dsimp only)
  | (refine bu (e _ _) ?_ (fun u=>?_) <;> try dsimp only)
  | (refine ww (yy (by (repeat' first | with_reducible exact eD | with_reducible apply eE | with_reducible apply c9 | with_reducible apply eB | (with_reducible apply ig;simp only [Array.map_append,Array.map_push,Array.map_extract,Array.map_reverse,List.map_toArray,Gz,List.map_nil];done) | with_reducible apply eC | with_reducible exact kN)) fun i o m n d c=>?_) (fun m n d c=>?_) (fun r m n d c=>?_) <;> try dsimp only)
end
end L2
end
section
namespace L2
open PySem PySem.Spec PyProof.Rows
section
variable {prog:Program} {w:World} {A:Around} {E:Value->Shared->Prop} {s:Shared} {φ:Keyed->Keyed} {cmp:Nat->Nat->Option Bool}
theorem oS (b:∀ a p j,G (a.map φ) (φ p,j)=(G a (p,j)).map φ):∀ (l:List (Keyed × Nat)) (xs:Array Keyed),(l.map fun x=>(φ x.1,x.2)).foldl G (xs.map φ)=(l.foldl G xs).map φ
 | [],xs=>rfl
 | (p,j) :: l,xs=>by
  rw [Gz,List.foldl_cons,List.foldl_cons,<- oS b l]
  dsimp only
  rw [b]
theorem uT {f:SortSt->Array Keyed->SortSt} (hf:∀ st X,f st X=setArr st (X.toList.zipIdx.foldl G (arrOf st))) (c:∀ a p j,G (a.map φ) (φ p,j)=(G a (p,j)).map φ):Sim prog w A E s φ cmp (modify fun st=>f st (m.map φ)) (modify fun st=>f st m):=by
 refine dQ fun st ps b=>?_
 rw [hf,hf]
 refine ⟨b.kind,b.kind',?_,b.pend,b.mg,b.fail,b.fail'⟩
 show _=Array.map φ (m.toList.zipIdx.foldl G (arrOf ps))
 rw [<- oS c,<- b.arr]
 show (m.map φ).toList.zipIdx.foldl G (arrOf st)=_
 congr 1
 rw [Array.toList_map,List.zipIdx_map]
 rfl
theorem nW [Rl φ β] {f g:Array Keyed->StateT SortSt Sem β} (h:Sim prog w A E s φ cmp m p) (k:∀ d,Sim prog w A E s φ cmp (f (d.map φ)) (g d)):Sim prog w A E s φ cmp (m >>= f) (p >>= g):=by
 refine cA h fun x y (r:x=y.map φ)=>?_
 rw [r]
 exact k y
theorem qJ (e:∀ x y:Keyed,Sim prog w A E s φ cmp (lt' (φ x) (φ y)) (lt' x y)) (i:Nat):Sim prog w A E s φ cmp (mergeAt' i) (mergeAt' i):=by
 refine cW fun st ps c=>?_
 have h1:=c.arr
 have h2:=c.pend
 simp only [arrOf,pendingOf] at h1 h2
 rw [h2]
 generalize (pendingOf ps)[i]?=a
 generalize (pendingOf ps)[i+1]?=b
 cases a with
 | none=>exact cV
 | some a =>
 cases b with
 | none=>exact cV
 | some b =>
 obtain ⟨sa,na,h⟩:=a
 obtain ⟨sb,nb,g⟩:=b
 refine aD (Bj ⟨c.kind,c.kind',c.arr,rfl,c.mg,c.fail,c.fail'⟩) fun _=>?_
 rw [h1]
 refine bJ fun u=>?_
 refine bu (fA e) (aN rfl) fun k=>?_
 refine bD (fun _=>aN rfl) fun _=>?_
 refine bJ fun u=>?_
 refine bu (fA e) (aN rfl) fun k=>?_
 refine bD (fun _=>aN rfl) fun _=>?_
 simp only [<- Array.map_extract]
 refine bD (fun _=>?_) fun _=>?_
 ·refine nW (qH e _ _) fun d=>aD (uT (fun _ _=>rfl) fun _ _ _=>Array.map_setIfInBounds.symm) fun _=>cW fun st ps f=>aN ?_
  show (failedOf st).isNone=(failedOf ps).isNone
  rw [f.fail,f.fail']
 ·refine nW (qI e _ _) fun d=>aD (uT (fun _ _=>rfl) fun _ _ _=>Array.map_setIfInBounds.symm) fun _=>cW fun st ps f=>aN ?_
  show (failedOf st).isNone=(failedOf ps).isNone
  rw [f.fail,f.fail']
theorem qG (F:Array (Nat × Nat × Nat)->Array (Nat × Nat × Nat)) (hf:∀ st,f st=setPending st (F (pendingOf st))):Sim prog w A E s φ cmp (modify f) (modify f) :=
 dQ fun st ps a=>by
  rw [hf,hf]
  exact ⟨a.kind,a.kind',a.arr,congrArg F a.pend,a.mg,a.fail,a.fail'⟩
theorem yw (a:∀ x y:Keyed,Sim prog w A E s φ cmp (lt' (φ x) (φ y)) (lt' x y)):Sim prog w A E s φ cmp sortRuns' sortRuns':=by
 rw [sortRuns'_eq]
 refine cW fun st ps b=>?_
 have hsz:(arrOf st).size=(arrOf ps).size:=by rw [b.arr,Array.size_map]
 dsimp only
 rw [hsz]
 generalize (arrOf ps).size=n
 repeat' first
  | exact aN rfl
  | refine bD (fun _=>?_) (fun _=>?_)
  | (refine bu (Bk a) ?_ (fun u=>?_) <;> try dsimp only)
  | (refine aD (Bm a) (fun u=>?_);try dsimp only)
  | (refine aD (qJ a _) (fun u=>?_);try dsimp only)
  | (refine aD dP (fun u=>?_);try dsimp only)
  | (refine aD (qG (fun p=>p.push _) fun _=>rfl) (fun u=>?_);try dsimp only)
  | (refine aD (qG (fun p=>p.modify (p.size - 1) _) fun _=>rfl) (fun u=>?_);try dsimp only)
  | (refine cW fun st ps b=>?_;rw [b.pend];generalize pendingOf ps=p;try dsimp only)
  | (refine iO (iN fun i x=>?_) (fun d=>?_) (fun c d=>?_) <;> try dsimp only)
  | (generalize Array.back? _=d;rcases d with _ | ⟨s1,e,x⟩ <;> dsimp only)
  | (generalize (if p.size > 1 then p[p.size - 2]? else none)=d;rcases d with _ | ⟨s1,e,x⟩ <;> dsimp only)
end
end L2
end
section
namespace L2
open PySem PySem.Spec PyProof.Rows
def oD (n:Nat):Array Keyed:=((List.range n).map fun i=>((Value.ref i,Value.ref i):Keyed)).toArray
def mm (x:Keyed):Option Nat:=match x.1 with
 | .ref i=>some i
 | _=>none
def bq (ns:List (List Int)):Option (List Nat) :=
 match ev (bB ns) (sortRuns'.run (SortSt.mk' (a9 true) (oD ns.length) #[] 7 none)) none with
 | some ((_,st),_)=>(arrOf st).toList.mapM mm
 | none=>none
end L2
end
section
namespace L2
open PySem PySem.Spec PyProof.Rows
structure NRs (h:Heap) (bs:List Addr) (ns:List (List Int)):Prop where
 len:ns.length=bs.length
 at':∀ (i:Nat) (b:Addr) (n:List Int),bs[i]?=some b->ns[i]?=some n->IsNts h b n
theorem NRs.tail (r:NRs h (b :: bs) (n :: ns)):NRs h bs ns :=
 ⟨by simpa using r.len,fun i b n e1 a=>r.at' (i+1) b n (by simpa using e1) (by simpa using a)⟩
theorem NRs.keep (r:NRs h bs ns) (k:∀ b ∈ bs,∀ o,h.get? b=some o->h'.get? b=some o):NRs h' bs ns :=
 ⟨r.len,fun i b n e1 a=>(r.at' i b n e1 a).at (k b (Gq e1))⟩
theorem NRs.mem (r:NRs h bs ns):∀ b ∈ bs,∃ n ∈ ns,IsNts h b n:=fun b c=>by
 obtain ⟨i,hi⟩:=List.getElem?_of_mem c
 have a:i < ns.length:=by rw [r.len];exact (Gp.mp hi).1
 exact ⟨ns[i],List.getElem_mem _,r.at' i b _ hi (Gi a)⟩
def kOk (ns:List (List Int)):Prop:=(∀ n ∈ ns,n ≠ [])\/ns.head?=some []
theorem tv:bq []=some []:=by kernel_rfl
theorem tu (n:List Int):bq [n]=some [0]:=by kernel_rfl
section
variable {prog:Program} {w:World} {A:Around} {E:Value->Shared->Prop} {s:Shared}
theorem Ao (a:IsNts s.heap b []) (h:Q none s):wpAny (model prog w) A (firstOfTuple' (.ref b)) Q E s:=by
 obtain ⟨it,⟨o,e,c,k,d⟩,j⟩:=a
 refine F7 (wpAny_typeOf (T:="tuple") ⟨o,e,c⟩ ?_)
 rw [if_neg (by decide)]
 refine F7 (listItems_at e d ?_)
 have:it[0]?=none:=by
  rw [<- Array.getElem?_toList]
  generalize it.toList=l at j
  cases j
  rfl
 rw [this]
 exact F8 h
theorem jr:∀ (bs:List Addr) (ns:List (List Int)),NRs s.heap bs ns->(∀ os:List (Option Value),(ns.head?=some []->os.head?=some none)->Q os s) ->
  wpAny (model prog w) A ((bs.map Value.ref).mapM firstOfTuple') Q E s
 | [],[],_,q=>by
  simp only [List.map_nil,List.mapM_nil]
  exact F8 (q [] fun h=>by cases h)
 | [],_ :: _,r,_=>by have:=r.len;cases this
 | _ :: _,[],r,_=>by have:=r.len;cases this
 | b :: bs,n :: ns,r,q=>by
  rw [Gz,List.mapM_cons]
  have a:=r.at' 0 b n rfl rfl
  cases n with
  | nil=>exact F7 (Ao a (F7 (jr bs ns r.tail fun os _=>F8 (q (none :: os) fun _=>rfl))))
  | cons i n=>exact F7 (oU a (by simp) fun j t=>F7 (jr bs ns r.tail fun os _=>F8 (q (some (.int j t) :: os) fun h=>by simp at h)))
theorem nO:∀ (bs:List Addr) (ns:List (List Int)),NRs s.heap bs ns->Q (bs.map fun _=>.type "tuple") s->wpAny (model prog w) A ((bs.map Value.ref).mapM typeOf) Q E s
 | [],_,_,q=>by
  simp only [List.map_nil,List.mapM_nil]
  exact F8 q
 | _ :: _,[],r,_=>by have:=r.len;cases this
 | b :: bs,n :: ns,r,q=>by
  rw [Gz,List.mapM_cons]
  obtain ⟨it,⟨o,e,c,k,d⟩,j⟩:=r.at' 0 b n rfl rfl
  exact F7 (wpAny_typeOf (T:="tuple") ⟨o,e,c⟩ (F7 (nO bs ns r.tail (F8 q))))
theorem z9 (h2:bs ≠ []) (r:NRs s.heap bs ns) (c:kOk ns) (h:∀ k,tV k->Q k s):wpAny (model prog w) A (keyKind' (bs.map Value.ref).toArray) Q E s:=by
 rcases c with c | c
 ·refine z8 h2 (fun b f=>?_) (h _ (.inl rfl))
  obtain ⟨n,e,x⟩:=r.mem b f
  exact ⟨n,c n e,x⟩
 ·rw [keyKind'_eq,List.mapM_toArray]
  refine F7 ?_
  rw [map_eq_pure_bind]
  refine F7 (jr bs ns r fun os d=>F8 ?_)
  have d:=d c
  obtain ⟨os,rfl⟩:∃ l,os=none :: l:=by
   cases os with
   | nil=>cases d
   | cons x l=>cases d;exact ⟨l,rfl⟩
  rw [if_neg (by simp),if_neg (by simp),oneTypeOnly'_eq,List.mapM_toArray]
  refine F7 (F7 ?_)
  rw [map_eq_pure_bind]
  refine F7 (nO bs ns r (F8 ?_))
  have h0:(List.map (fun _:Addr=>Value.type "tuple") bs).toArray[0]?=some (Value.type "tuple"):=by
   cases bs with
   | nil=>exact absurd rfl h2
   | cons b bs=>simp
  have a:((List.map (fun _:Addr=>Value.type "tuple") bs).toArray.all fun x=>x == Value.type "tuple")=true:=by
   simp only [List.all_toArray,List.all_map,List.all_eq_true]
   intro _ _
   rfl
  rw [h0]
  dsimp only
  rw [if_pos a]
  exact F8 (F8 (h _ (.inr rfl)))
theorem wP (bs:List Addr):(bs.map Value.ref).toArray.zip (bs.map Value.ref).toArray=(oD bs.length).map (mR bs):=by
 apply Array.ext_getElem?
 intro i
 rw [List.zip_toArray,Array.getElem?_map]
 unfold oD
 simp only [List.getElem?_toArray,Gu]
 by_cases hi:i < bs.length
 ·rw [List.getElem?_range hi]
  have e:bs[i]?=some bs[i]:=Gi hi
  have:((bs.map Value.ref).zip (bs.map Value.ref))[i]?=some (Value.ref bs[i],Value.ref bs[i]):=by
   simp [List.getElem?_zip_eq_some,e]
  rw [this]
  simp [mR,List.getD,e]
 ·grind
theorem rh:∀ {l:List Keyed} {is:List Nat},l.mapM mm=some is->l.map (fun x=>(mR bs x).2)=is.map fun i=>Value.ref (bs.getD i 0)
 | [],is,h=>by cases h;rfl
 | x :: l,is,h=>by
  rw [List.mapM_cons] at h
  obtain ⟨i,e1,h⟩:=GJ.mp h
  obtain ⟨b,a,h⟩:=GJ.mp h
  cases h
  rw [Gz,Gz,rh a]
  congr 1
  unfold mm at e1
  unfold mR
  cases c:x.1 <;> rw [c] at e1 <;> cases e1
  rfl
theorem wB (hu:A.units < cLine) (r:NRs s.heap bs ns) (j:tV k) (c:bq ns=some is) (h:∀ b,(arrOf b).map (·.2)=(is.map fun i=>Value.ref (bs.getD i 0)).toArray->failedOf b=none->Q () b) :
  wpS (model prog w) A E s sortRuns' Q (SortSt.mk' k ((bs.map Value.ref).toArray.zip (bs.map Value.ref).toArray) #[] 7 none):=by
 unfold bq at c
 cases e:ev (bB ns) (sortRuns'.run (SortSt.mk' (a9 true) (oD ns.length) #[] 7 none)) none with
 | none=>rw [e] at c;cases c
 | some p =>
  obtain ⟨⟨u,ps⟩,q⟩:=p
  rw [e] at c
  have c:(arrOf ps).toList.mapM mm=some is:=c
  have g:∀ (i:Nat) (n:List Int),ns[i]?=some n->IsNts s.heap (bs.getD i 0) n:=fun i n e=>by
   have hi:i < bs.length:=by rw [<- r.len];exact (Gp.mp e).1
   have d:bs[i]?=some bs[i]:=Gi hi
   rw [List.getD,d]
   exact r.at' i _ n d e
  obtain ⟨a,b,_,f,_,hw⟩:=yw (Ea (prog:=prog) (w:=w) (E:=E) hu g) (SortSt.mk' k ((bs.map Value.ref).toArray.zip (bs.map Value.ref).toArray) #[] 7 none) (SortSt.mk' (a9 true) (oD ns.length) #[] 7 none) u ps q
   ⟨j,rfl,by rw [r.len];exact wP bs,rfl,rfl,rfl,rfl⟩ e
  refine hw _ (h b ?_ f.fail)
  rw [f.arr,Array.map_map]
  apply Array.ext'
  rw [Array.toList_map]
  exact rh c
theorem yt {n:Nat} (hu:A.units < cLine) (p:s.heap.get? a=some (seqObj "list" (bs.map Value.ref).toArray n)) (r:NRs s.heap bs ns) (x:kOk ns) (l:bq ns=some is) (hsz:bs.length<=sizeLine) (v:is.length<=sizeLine) (h:P (.done (.ret .none)) { s with heap:=sortedHeap s.heap a (bs.map Value.ref) (is.map fun i=>Value.ref (bs.getD i 0)).toArray }) :
  wpAny (model prog w) A (Builtin.«list.sort» ⟨[.ref a],[]⟩) P E s:=by
 rw [list_sort_plain]
 have D:a < s.heap.objs.size:=Gj p
 have hsz2:(bs.map Value.ref).toArray.size<=sizeLine:=by simpa using hsz
 have g:(is.map fun i=>Value.ref (bs.getD i 0)).toArray.size<=sizeLine:=by simpa using v
 have t:∀ b ∈ bs,b ≠ a:=fun b u z=>by
  obtain ⟨m,_,it,⟨o,e1,c,_⟩,_⟩:=r.mem b u
  rw [z,p] at e1
  cases e1
  have c:Value.type "list"=Value.type "tuple":=c
  injection c with c
  exact absurd c (by decide)
 refine F7 (listItems_at p rfl ?_)
 refine F7 (listUpdate_at p rfl ?_)
 obtain ⟨e1,j⟩:∃ e1,(s.heap.update a (Obj.mapSeq fun _=>#[])).get? a=some (seqObj "list" #[] e1):=⟨_,get?_update_seq p (fun _=>#[])⟩
 refine F7 (seqEpoch_at j rfl ?_)
 refine F7 (wpAny_newTuple ?_)
 refine F7 (wpAny_newList ?_)
 refine F9 ?_
 have d:(((s.heap.update a (Obj.mapSeq fun _=>#[])).push (seqObj "tuple" (bs.map Value.ref).toArray 0)).push (seqObj "list" #[] 0)).get? a=some (seqObj "list" #[] e1) :=
  Gd _ (Gd _ j)
 have y:NRs (((s.heap.update a (Obj.mapSeq fun _=>#[])).push (seqObj "tuple" (bs.map Value.ref).toArray 0)).push (seqObj "list" #[] 0)) bs ns:=r.keep fun b u o e =>
  Gd _ (Gd _ ((GN _ _ (Ne.symm (t b u))).trans e))
 show wpAny (model prog w) A _ P E { s with heap:=((s.heap.update a (Obj.mapSeq fun _=>#[])).push (seqObj "tuple" (bs.map Value.ref).toArray 0)).push (seqObj "list" #[] 0) }
 dsimp only
 by_cases h2:(bs.map Value.ref).toArray.size < 2
 ·rw [if_pos h2,if_pos h2]
  refine F7 (F8 ?_)
  rw [StateT.run_pure]
  refine F7 (F8 ?_)
  dsimp only
  have out:((bs.map Value.ref).toArray.zip (bs.map Value.ref).toArray).map (·.2)=(is.map fun i=>Value.ref (bs.getD i 0)).toArray:=by
   have B:=r.len
   match bs,ns,B,h2 with
   | [],[],_,_=>rw [tv] at l;cases l;simp
   | [b],[n],_,_=>rw [tu] at l;cases l;simp [List.zip_toArray]
   | _ :: _ :: _,_,_,h2=>simp at h2;omega
  refine F7 (seqEpoch_at d rfl ?_)
  show wpAny _ _ (Builtin.List.listUpdate (.ref a) (fun _=>((bs.map Value.ref).toArray.zip (bs.map Value.ref).toArray).map (·.2)) >>= _) _ _ _
  rw [out]
  refine F7 (listUpdate_at d rfl ?_ (hsz2:=Nat.le_succ_of_le g))
  simp only [bne_self_eq_false,GL,if_false]
  exact F8 h
 ·rw [if_neg h2,if_neg h2]
  have q:bs ≠ []:=fun z=>by subst z;simp at h2
  refine F7 (z9 q y x fun k x=>?_)
  refine F7 (wpAny_mono (wB (Q:=fun _ f=>(arrOf f).map (·.2)=(is.map fun i=>Value.ref (bs.getD i 0)).toArray/\failedOf f=none) hu y x l fun f a1 a2=>⟨a1,a2⟩) ?_ fun _ _ e=>e)
  rintro ⟨⟨⟩,f⟩ s' ⟨rfl,C,hf⟩
  dsimp only
  refine F7 (seqEpoch_at d rfl ?_)
  rw [C]
  refine F7 (listUpdate_at d rfl ?_ (hsz2:=Nat.le_succ_of_le g))
  rw [hf]
  simp only [bne_self_eq_false,GL,if_false]
  exact F8 h
end
end L2
end
section
namespace L2
open PySem PySem.Spec PyProof.Rows
section
variable {prog:Program} {w:World} {A:Around} {E:Value->Shared->Prop} {s:Shared}
theorem tj (hu:A.units+2 < cLine) (f:s.heap.IsList l (bs.map Value.ref).toArray) (r:NRs s.heap bs ns) (k:kOk ns) (j:bq ns=some is) (hsz:bs.length<=sizeLine) (d:is.length<=sizeLine) (h:∀ h' p,s.heap.objs.size<=p->(∀ b o,s.heap.get? b=some o->h'.get? b=some o)->(∃ e,h'.get? p=some (seqObj "list" (is.map fun i=>Value.ref (bs.getD i 0)).toArray e))->Q (.ref p) { s with heap:=h' }) :
  wpAny (model prog w) A (call (.builtin "sorted") [.ref l]) Q E s:=by
 refine Calls.call_function_entry kind_sorted plain_sorted entry_sorted (args_sorted1 _) ?_
 unfold Builtin.«sorted»
 refine F7 (m:=checkCount "sorted" 1 1 _) (F8 ?_)
 refine F7 (collect_list f ?_ (by rw [Go];exact hsz))
 refine F7 (wpAny_newList ?_ (by rw [Go];exact hsz))
 obtain ⟨h1,k1,g,e1⟩:∃ h1,(∀ b o,s.heap.get? b=some o->h1.get? b=some o)/\s.heap.objs.size<=h1.objs.size/\h1=(s.heap.push (seqObj "list" #[] 0)).update s.heap.objs.size (Obj.mapSeq (· ++ (bs.map Value.ref).toArray)):=by
  refine ⟨_,fun b o e=>?_,?_,rfl⟩
  ·exact (GN _ _ (Nat.ne_of_gt (Gj e))).trans (Gd _ e)
  ·rw [Heap.size_update,GO]
   exact Nat.le_succ _
 rw [<- e1]
 have a:(h1.push (seqObj "list" (bs.map Value.ref).toArray 0)).get? h1.objs.size=some (seqObj "list" (bs.map Value.ref).toArray 0):=Gn _ rfl
 have k2:∀ b o,s.heap.get? b=some o->(h1.push (seqObj "list" (bs.map Value.ref).toArray 0)).get? b=some o:=fun b o e=>Gd _ (k1 b o e)
 show wpAny _ _ _ _ _ { s with heap:=h1.push (seqObj "list" (bs.map Value.ref).toArray 0) }
 refine F7 (F9 (wpAny_call_entry slot_list_sort ⟨_,a,rfl⟩ entry_list_sort (yt (s:={ s with heap:=h1.push (seqObj "list" (bs.map Value.ref).toArray 0) }) ?_ a (r.keep fun b _ o e=>k2 b o e) k j hsz d ⟨_,rfl,?_⟩) (args_list_sort _)))
 ·exact hu
 refine F8 ⟨_,rfl,h _ h1.objs.size g (fun b o e=>?_) ?_⟩
 ·have hb1:b < h1.objs.size:=Gj (k1 b o e)
  unfold sortedHeap
  refine (GN _ _ (Nat.ne_of_gt hb1)).trans (Gd _ (Gd _ ?_))
  exact (GN _ _ (Nat.ne_of_gt hb1)).trans (k2 b o e)
 ·unfold sortedHeap
  obtain ⟨e1,c⟩:∃ e1,((h1.push (seqObj "list" (bs.map Value.ref).toArray 0)).update h1.objs.size (Obj.mapSeq fun _=>#[])).get? h1.objs.size=some (seqObj "list" #[] e1):=⟨_,get?_update_seq a (fun _=>#[])⟩
  exact ⟨_,get?_update_seq (Gd _ (Gd _ c)) (fun _=>(is.map fun i=>Value.ref (bs.getD i 0)).toArray)⟩
end
section
variable {X:Cx}
def ze (K:FG):List V->Hp->VK->Prop:=fun xs H Q=>∃ (l:Addr) (bs:List Addr) (ns:List (List Int)) (is:List Nat),xs=[.ref l]/\SqL K H l (bs.map V.ref)/\ns.length=bs.length/\(∀ (i:Nat) (b:Addr) (n:List Int),bs[i]?=some b->ns[i]?=some n->H b=some (.tup (n.map V.int))) /\
 kOk ns/\bq ns=some is/\ns.length<=sizeLine/\is.length<=sizeLine/\∀ p,H p=none->Q (.ref p) (upd H p (.lst (is.map fun i=>V.ref (bs.getD i 0))))
theorem u8:∀ {us:List Value} {bs:List Addr},Vals (bs.map V.ref) us->us=bs.map Value.ref
 | _,[],h=>by cases h;rfl
 | _,b :: bs,h=>by
  cases h with
  | cons r h =>
   cases (show _=Value.ref b from r)
   rw [Gz,u8 h]
theorem ux (hu:X.A.units+2 < cLine):CallR X (.builtin "sorted") (ze X.K):=by
 intro pins s σ H xs us Q I g h
 obtain ⟨l,bs,ns,is,rfl,v,j,z,C,m,hz,c,q⟩:=h
 obtain ⟨u,rfl,t⟩:=eY g
 cases (show u=Value.ref l from t)
 obtain ⟨its,B,p,_⟩:=I.list v
 have x:=u8 B
 subst x
 refine tj hu (by simpa using p.isList) ⟨j,fun i b n e1 w=>?_⟩ C m (by omega) c fun h' p f k ⟨e,he⟩=>?_
 ·obtain ⟨its,r,p,_⟩:=I.tuple (SqT.of (z i b n e1 w))
  exact ⟨_,p,mF r⟩
 ·have y:(is.map fun i=>V.ref (bs.getD i 0))=(is.map fun i=>bs.getD i 0).map V.ref:=by rw [GT];rfl
  have d:(is.map fun i=>Value.ref (bs.getD i 0))=(is.map fun i=>bs.getD i 0).map Value.ref:=by rw [GT];rfl
  refine ⟨.ref p,_,I.laid (a:=p) (o:=.lst (is.map fun i=>V.ref (bs.getD i 0))) (t':=s.toks) (fun b o q=>k b o q) f ⟨by rw [Go];exact c,is.map (fun i=>Value.ref (bs.getD i 0)),e,?_,he⟩,rfl,q p (I.hok.fresh f)⟩
  rw [y,d]
  exact jt _
end
end L2
end
section
namespace L2
open PySem PySem.W PySem.Spec PyProof.Rows
abbrev excO (a:Addr) (cls:Value):HO:=.ext fun h=>∃ o,h.get? a=some o/\o.cls=cls
abbrev lj (ob:Obj) (a:Addr) (cls:Value):HO:=.frz ob (excO a cls)
structure ExcK (K:FG) (D:Addr):Prop where
 ga:findIn K (.ref D) "__getattribute__"=some (some (.builtin "BaseException.__getattribute__"))
 gt:findIn K (.ref D) "__getattr__"=some none
 cl:(clsIn K D).isSome=true
 ca:findIn K (.ref D) "__class__"=some (some (.builtin "object.__class__"))
 sp:specialIn K (.builtin "object.__class__") "__get__"=some (some (.builtin "getset_descriptor.__get__"))
 tk:takesIn K (.builtin "object.__class__")=some true
 ob:mroIn K D (.type "object")=some true
 be:mroIn K D (.type "BaseException")=some true
structure XName (K:FG) (c:String) (D:Addr):Prop where
 ns:nsIn K mainGlobals (Str.ofString c)=some (some (.ref D))
 ex:ExcK K D
theorem XName.inj {K:FG} (a:XName K c D) (b:XName K c D'):D=D':=by
 have:=a.ns.symm.trans b.ns
 cases this
 rfl
end L2
end
section
namespace L2
open PySem
section
variable {K:FG} {h:Heap} {mg:Str->Option Value}
theorem kh:∀ {l:List Nat} {a:Nat} {o:Obj},(l.filterMap fun a=>(h.get? a).map fun o=>(a,o)).lookup a=some o->h.get? a=some o
 | [],_,_,e=>by cases e
 | b :: l,a,o,e=>by
  rw [List.filterMap_cons] at e
  cases d:h.get? b with
  | none=>rw [d] at e;exact kh e
  | some p =>
   rw [d] at e
   replace e:List.lookup a ((b,p) :: l.filterMap fun a=>(h.get? a).map fun o=>(a,o))=some o:=e
   rw [List.lookup_cons] at e
   cases c:a == b with
   | true=>rw [c] at e;cases eq_of_beq c;cases e;exact d
   | false=>rw [c] at e;exact kh e
theorem fragAt_in (h:Heap):(Am h).In h:=fun _ _ e=>kh e
def stPos (s:Stmt):Pos:=match s with
 | .FunctionDef _ _ _ _ _ _ _ _ _ p=>p
 | _=>⟨0,0,0,0⟩
theorem FM (X:K.In h) (G:h.Ns mainGlobals mg) (e:si K n=mO n st):Def K mg n st:=by
 unfold si at e
 split at e
 ·rename_i f hf
  split at e
  ·rename_i d c fd sl a
   unfold mO at e
   obtain ⟨name,qual,params,body,scope,globals,closure,defaults,kw,doc,pm,an,cd,ct,bi⟩:=fd
   simp only [Option.some.injEq,Prod.mk.injEq] at e
   obtain ⟨rfl,rfl,rfl,rfl,rfl,rfl,rfl,rfl,rfl,b⟩:=e
   exact ⟨f,_,FH (st:=st) a b (by unfold PySem.W.keepIn;simp only [a]),PySem.W.mg_of X G hf⟩
  ·cases e
 ·cases e
theorem mn {α β:Type} {f g:α->β} {l:List α} (e:l.map f=l.map g) (i:Nat) {a:α} (h:l[i]?=some a):f a=g a:=List.map_inj_left.mp e a (Gq h)
theorem aI {ds:List (Str × Stmt)} (X:K.In h) (G:h.Ns mainGlobals mg) (e:ds.map (fun p=>si K p.1)=ds.map (fun p=>mO p.1 p.2)) (i:Nat) (hi:ds[i]?=some (n,st)):Def K mg n st:=FM X G (mn e i hi)
theorem b5 {l:List Str} (X:K.In h) (G:h.Ns mainGlobals mg) (e:l.map (PySem.W.nsIn K mainGlobals)=l.map (fun _=>some none)) (i:Nat) (hi:l[i]?=some n):mg n=none:=PySem.W.mg_none_of X G (mn e i hi)
theorem pU {l:List (Str × Int)} {v:Int} (X:K.In h) (G:h.Ns mainGlobals mg) (e:l.map (fun p=>pV K p.1)=l.map (fun p=>some p.2)) (i:Nat) (hi:l[i]?=some (n,v)):∃ t,mg n=some (.int v t):=by
 have e:=mn e i hi
 unfold pV at e
 dsimp only at e
 split at e
 ·rename_i b t a;cases e;exact ⟨t,PySem.W.mg_of X G a⟩
 ·cases e
theorem walk_ofS {l:PySem.W.OpenLaw} {n k:Nat} {S:FG->Prop} {sp:FG->Sp} (D:l.most=some n) (p:n<=sizeLine) (j:d.params.defaults=[]) (I:Room k callerA) (L:∀ (w:World) (h:Heap),YP w h->∃ K:FG,K.In h/\S K) (F:∀ (w:World) (mg:Str->Option Value) (i:Addr) (h:Heap) (K:FG),S K->K.In h->h.Ns mainGlobals mg->mg d.name=some (.ref i) ->
   ∃ fd:FuncData,(∀ (s:Shared) (u:Value),BindsTo s fd ⟨[u],[]⟩ [(x,u)]) /\
    ∀ base:Heap,K.In base->base.Ns mainGlobals mg->FnOk l.prog w K mg base CX k i fd [x] (sp K)) (m:∀ (K:FG) (H:Hp) (a:Addr) (ns:List Int),ns.length<=n->C4 H->SqL K H a (ns.map V.int)->sp K [.ref a] H (fun v _=>v=.bl true) fun _ _ _=>False) (t:∀ (H:Hp) (s:Shared) (e:Value) (s':Shared),CX [] H s (fun _ _ _=>False) e s'->False) :
  PySem.W.WalkO q loose XP YP l.row.toRowW d [] (fun f A=>PySem.call f A):=by
 refine Att.attach_call D j fun w s₀ E mg mb i o pm cd doc a A ns G Y O hd M r c hints hlen C=>?_
 obtain ⟨K,z,y⟩:=L w _ Y
 obtain ⟨fd,N,J⟩:=F w mg i _ K y z G.T.g r
 exact z5 z G.T.g G.T.b G.T.builtins G.T.nolimit C c hints (GQ hlen p) I J N (fun H B y=>m K H a ns hlen B y) fun H e s'=>t H E e s'
end
end L2
end
section
namespace L2
open PySem PySem.Spec PyProof.Rows
def NoCtx (h:Heap) (a:Addr):Prop:=∃ o b,h.get? a=some o/\o.data=.fields b/\b[2]?=some Value.none
theorem NoCtx.keep (x:NoCtx h a) (k:∀ o,h.get? a=some o->h'.get? a=some o):NoCtx h' a :=
 let ⟨o,b,e,r⟩:=x;⟨o,b,k o e,r⟩
end L2
end
section
namespace L2
open PySem PySem.Spec PyProof.Rows
def cO (Φ:Heap->Prop) {α:Type}:Sem α->Prop
 | .pure _ | .raise _ | .unsupported _ | .finish _=>True
 | .rule _ k=>cO Φ (k ())
 | .at _ k=>cO Φ (k ())
 | .point _ k=>cO Φ (k ())
 | .load _ _ k=>∀ o,cO Φ (k o)
 | .loadIfAlive _ k=>∀ o,cO Φ (k o)
 | .update a _ f k=>(∀ h,Φ h->Φ (h.update a f))/\cO Φ (k ())
 | .alloc _ k=>∀ a,cO Φ (k a)
 | .fresh k=>∀ t,cO Φ (k t)
 | .ask k=>∀ x,cO Φ (k x)
 | .handled _ k=>∀ v,cO Φ (k v)
 | .stack k=>∀ l,cO Φ (k l)
 | _=>False
theorem A5 (push:∀ h o,Φ h->Φ (h.push o)) (t:Sem α):∀ {Q:α->Pos->Shared->Prop} {E:Value->Pos->Shared->Prop} {p:Pos} {s:Shared},cO Φ t->Φ s.heap->Sem.wp M Γ t Q E p s->Sem.wp M Γ t (fun a p s'=>Q a p s'/\Φ s'.heap) (fun e p s'=>E e p s'/\Φ s'.heap) p s:=by
 induction t with
 | pure a=>intro Q E p s _ f h;rw [Sem.wp] at h ⊢;exact ⟨h,f⟩
 | raise e=>intro Q E p s _ f h;rw [Sem.wp] at h ⊢;exact ⟨h,f⟩
 | unsupported w=>intro Q E p s _ f h;rw [Sem.wp] at h;exact h.elim
 | finish e=>intro Q E p s _ f h;rw [Sem.wp] at h;exact h.elim
 | rule _ k ih=>intro Q E p s c f h;rw [Sem.wp] at h ⊢;exact ih () c f h
 | «at» _ k ih=>intro Q E p s c f h;rw [Sem.wp] at h ⊢;exact ih () c f h
 | point _ k ih=>intro Q E p s c f h;rw [Sem.wp] at h ⊢;exact ih () c f h
 | load a _ k ih=>intro Q E p s c f h;rw [Sem.wp] at h ⊢;obtain ⟨o,e,h⟩:=h;exact ⟨o,e,ih o (c o) f h⟩
 | loadIfAlive a k ih=>intro Q E p s c f h;rw [Sem.wp] at h ⊢;exact ih _ (c _) f h
 | update a _ g k ih=>intro Q E p s c f h;rw [Sem.wp] at h ⊢;exact ⟨h.1,ih () c.2 (c.1 _ f) h.2⟩
 | alloc o k ih=>intro Q E p s c f h;rw [Sem.wp] at h ⊢;exact ih _ (c _) (push _ _ f) h
 | fresh k ih=>intro Q E p s c f h;rw [Sem.wp] at h ⊢;exact ih _ (c _) f h
 | ask k ih=>intro Q E p s c f h;rw [Sem.wp] at h ⊢;exact ih _ (c _) f h
 | handled _ k ih=>intro Q E p s c f h;rw [Sem.wp] at h ⊢;exact ih _ (c _) f h
 | stack k ih=>intro Q E p s c f h;rw [Sem.wp] at h ⊢;exact ih _ (c _) f h
 | _=>intro Q E p s c;exact False.elim c
theorem dN (push:∀ h o,Φ h->Φ (h.push o)) (c:cO Φ t) (f:Φ s.heap) (h:wpAny M A t Q E s):wpAny M A t (fun a s'=>Q a s'/\Φ s'.heap) (fun e s'=>E e s'/\Φ s'.heap) s :=
 fun Γ p i=>A5 push t c f (h Γ p i)
theorem aJ (t:Sem α):cO Φ t->(∀ a,cO Φ (f a))->cO Φ (t.bind f):=by
 induction t with
 | pure a=>exact fun _ k=>k a
 | raise e=>exact fun _ _=>trivial
 | unsupported w=>exact fun _ _=>trivial
 | finish e=>exact fun _ _=>trivial
 | rule _ k ih=>exact fun c q=>ih () c q
 | «at» _ k ih=>exact fun c q=>ih () c q
 | point _ k ih=>exact fun c q=>ih () c q
 | load a _ k ih=>exact fun c q o=>ih o (c o) q
 | loadIfAlive a k ih=>exact fun c q o=>ih o (c o) q
 | update a _ g k ih=>exact fun c q=>⟨c.1,ih () c.2 q⟩
 | alloc o k ih=>exact fun c q a=>ih a (c a) q
 | fresh k ih=>exact fun c q a=>ih a (c a) q
 | ask k ih=>exact fun c q a=>ih a (c a) q
 | handled _ k ih=>exact fun c q a=>ih a (c a) q
 | stack k ih=>exact fun c q a=>ih a (c a) q
 | _=>exact fun c _=>c.elim
end L2
end
section
namespace L2
open PySem PySem.Spec PyProof.Rows
theorem dX:∀ (h:Heap) (o:Obj),NoCtx h a->NoCtx (h.push o) a:=fun h o x=>x.keep fun _ e=>Gd _ e
theorem pI {i:Nat} (hi:i ≠ 2):∀ h:Heap,NoCtx h a->NoCtx (h.update b (Obj.mapFields (·.setIfInBounds i v))) a:=fun h x=>by
 by_cases e:b=a
 ·subst e
  obtain ⟨o,d,c,hd,h2⟩:=x
  have hd2:=Obj.data_mapFields hd (·.setIfInBounds i v)
  exact ⟨_,_,GE _ c (Obj.isFreed_of_fields hd2),hd2,by rw [Array.getElem?_setIfInBounds_ne hi];exact h2⟩
 ·exact x.keep fun o q=>(GN _ _ e).trans q
theorem rB (hf:∀ o,(f o).data=o.data):∀ h:Heap,NoCtx h a->NoCtx (h.update b f) a:=fun h x=>by
 by_cases e:b=a
 ·subst e
  obtain ⟨o,d,c,hd,h2⟩:=x
  exact ⟨f o,d,GE _ c (Obj.isFreed_of_fields ((hf o).trans hd)),(hf o).trans hd,h2⟩
 ·exact x.keep fun o q=>(GN _ _ e).trans q
section
variable {a:Addr}
theorem ni (v:Value):cO (NoCtx · a) (fieldsOf v):=by
 unfold fieldsOf
 cases v <;> try exact trivial
 exact fun o=>by
  show cO _ (match o.data with | .fields vs=>_ | _=>_)
  split <;> exact trivial
theorem jl (v:Value) (i:Nat):cO (NoCtx · a) (field v i):=by
 unfold field
 refine aJ _ (ni v) fun b=>?_
 split <;> exact trivial
theorem eQ (v:Value) {i:Nat} (hi:i ≠ 2) (x:Value):cO (NoCtx · a) (setField v i x):=by
 unfold setField
 cases v <;> try exact trivial
 exact fun o=>by
  show cO _ (match o.data with | .fields vs=>_ | _=>_)
  split
  ·split
   ·exact ⟨pI hi,trivial⟩
   ·exact trivial
  ·exact trivial
theorem ib (e:Value) (f:Option Addr):cO (NoCtx · a) (setFlight e f):=by
 unfold setFlight
 refine aJ _ (jl e 1) fun tb=>?_
 split
 ·exact eQ _ (by decide) _
 ·exact trivial
theorem tw (f:Addr) (b:Bool):cO (NoCtx · a) (entryPlaceOf f b):=by
 unfold entryPlaceOf
 refine aJ _ (fun _=>trivial) fun l=>?_
 split <;> exact trivial
theorem lU (t:String) (b:List Value):cO (NoCtx · a) (newFields t b):=by
 unfold newFields newObj
 dsimp only
 split
 ·exact trivial
 ·exact fun _=>trivial
theorem wA (env:Env) (b:Bool):∀ l:List Env,cO (NoCtx · a) (keptBack env b l)
 | []=>by
  simp only [keptBack]
  split
  ·exact trivial
  ·exact aJ _ (aJ _ (fun _=>trivial) fun _=>trivial) fun _=>trivial
 | _ :: _=>trivial
theorem lT:∀ l:List Env,cO (NoCtx · a) (readyFrames l)
 | []=>trivial
 | env :: outer=>by
  unfold readyFrames
  split
  ·refine aJ _ (fun _=>trivial) fun o=>?_
   split
   ·exact trivial
   ·refine aJ _ ?_ fun _=>aJ _ (wA _ _ _) fun _=>aJ _ ⟨rB fun _=>rfl,trivial⟩ fun _=>lT outer
    unfold behindIsImport
    split
    ·exact trivial
    ·split
     ·exact trivial
     ·exact aJ _ (jl _ _) fun _=>trivial
  ·exact trivial
theorem pi (env:Env):cO (NoCtx · a) (PySem.frameOf env):=by
 unfold PySem.frameOf
 refine aJ _ (aJ _ (fun _=>trivial) fun _=>trivial) fun l=>?_
 refine aJ _ ?_ fun r=>?_
 ·unfold frameObject
  split
  ·exact trivial
  ·exact aJ _ (lT _) fun _=>trivial
 ·split <;> exact trivial
theorem nY (e:Value) (env:Env):cO (NoCtx · a) (noteFrame e env):=by
 unfold noteFrame
 repeat' first
  | exact trivial
  | exact eQ _ (by decide) _
  | refine aJ _ (jl _ _) (fun _=>?_)
  | refine aJ _ (eQ _ (by decide) _) (fun _=>?_)
  | refine aJ _ (pi _) (fun _=>?_)
  | refine aJ _ (tw _ _) (fun _=>?_)
  | refine aJ _ (lU _ _) (fun _=>?_)
  | split
theorem jy (e:Value) (env:Env):cO (NoCtx · a) (leaving env e):=aJ _ (nY e env) fun _=>ib e none
end
section
variable {M:Model} {A:Around} {E:Value->Shared->Prop} {s:Shared} {base h:Heap} {env:Env} {outer l:List Env} {L e:Addr} {cls a0:Value} {args:List Value} {Q:Unit->Shared->Prop}
theorem pP (b:A.frames=some (env :: outer)) (hf:env.frame=some L) (f:base.StaysIn h) (j:h.FunFrames base (env :: outer)) (g:Heap.MadeExcOf h s.heap e cls args)
  (i:∀ h' t,Heap.FlyingW base outer e cls (.ref t) h'->s.heap.UpToSlots h'->NoCtx h' e->Q () { s with heap:=h' }):wpAny M A (leaving env (.ref e)) Q E s:=by
 have c:NoCtx s.heap e:=by
  obtain ⟨t,he,_⟩:=g.there
  exact ⟨_,_,he,rfl,rfl⟩
 refine wpAny_mono (dN dX (jy _ _) c (wpAny_leaves_madeW (Q:=fun _ s2=>∃ h' t,s2 = { s with heap:=h' }/\Heap.FlyingW base outer e cls (.ref t) h'/\s.heap.UpToSlots h') b hf f j g fun h' t a _ _ d=>⟨h',t,rfl,a,d⟩)) (fun _ s2 q=>?_) fun _ _ z=>z.1
 obtain ⟨⟨h',t,rfl,a,d⟩,n⟩:=q
 exact i h' t a d n
theorem uc (f:A.frames=some (env :: outer)) (hf:env.frame=some L) (b:Heap.FlyingW base (env :: outer) e cls a0 s.heap) (c:NoCtx s.heap e)
  (g:∀ h',Heap.FlyingW base outer e cls a0 h'->s.heap.UpToSlots h'->NoCtx h' e->Q () { s with heap:=h' }):wpAny M A (leaving env (.ref e)) Q E s:=by
 refine wpAny_mono (dN dX (jy _ _) c (wpAny_leaves_onW (Q:=fun _ s2=>∃ h',s2 = { s with heap:=h' }/\Heap.FlyingW base outer e cls a0 h'/\s.heap.UpToSlots h') f hf b fun h' a d=>⟨h',rfl,a,d⟩)) (fun _ s2 q=>?_) fun _ _ z=>z.1
 obtain ⟨⟨h',rfl,a,d⟩,n⟩:=q
 exact g h' a d n
theorem xc (f:A.frames=some (env :: outer)) (hf:env.frame=some L) (b:Heap.FlyingW base (env :: outer) e cls a0 s.heap) (c:NoCtx s.heap e)
  (g:∀ h',Heap.HeldW base (env :: outer) e cls a0 L h'->s.heap.UpToSlots h'->NoCtx h' e->Q () { s with heap:=h' }):wpAny M A (noteFrame (.ref e) env) Q E s:=by
 refine wpAny_mono (dN dX (nY _ _) c (wpAny_looks_onW (Q:=fun _ s2=>∃ h',s2 = { s with heap:=h' }/\Heap.HeldW base (env :: outer) e cls a0 L h'/\s.heap.UpToSlots h') f hf b fun h' a d=>⟨h',rfl,a,d⟩)) (fun _ s2 q=>?_) fun _ _ z=>z.1
 obtain ⟨⟨h',rfl,a,d⟩,n⟩:=q
 exact g h' a d n
theorem Ft (f:Heap.HeldW base l e cls a0 L s.heap) (c:NoCtx s.heap e) (b:∀ h',Heap.FlyingW base l e cls a0 h'->s.heap.UpToSlots h'->NoCtx h' e->Q () { s with heap:=h' }):wpAny M A (setFlight (.ref e) none) Q E s:=by
 refine wpAny_mono (dN dX (ib _ _) c (wpAny_landsW (Q:=fun _ s2=>∃ h',s2 = { s with heap:=h' }/\Heap.FlyingW base l e cls a0 h'/\s.heap.UpToSlots h') f fun h' a d=>⟨h',rfl,a,d⟩)) (fun _ s2 q=>?_) fun _ _ z=>z.1
 obtain ⟨⟨h',rfl,a,d⟩,n⟩:=q
 exact b h' a d n
theorem pQ (f:Heap.FlyingW base l e cls a0 s.heap) (c:NoCtx s.heap e) (b:∀ h',Heap.FlyingW base l e cls a0 h'->s.heap.UpToSlots h'->NoCtx h' e->Q () { s with heap:=h' }):wpAny M A (setFlight (.ref e) none) Q E s:=by
 refine wpAny_mono (dN dX (ib _ _) c (lands_againW (Q:=fun _ s2=>∃ h',s2 = { s with heap:=h' }/\Heap.FlyingW base l e cls a0 h'/\s.heap.UpToSlots h') f fun h' a d=>⟨h',rfl,a,d⟩)) (fun _ s2 q=>?_) fun _ _ z=>z.1
 obtain ⟨⟨h',rfl,a,d⟩,n⟩:=q
 exact b h' a d n
end
def NoC (ob:Obj):Prop:=∃ a,ob.data=.fields a/\a[2]?=some Value.none
def Hd (X:Cx):Prop:=∃ a ob u,X.A.handled=some (.ref a)/\X.H₀ a=some (.frz ob u)/\NoC ob
end L2
end
section
namespace L2
open PySem PySem.Spec PyProof.Rows
def Cov (fs:List Addr) (H':Hp) (h0 h' B:Heap):Prop:=∀ b o,h'.get? b=some o->b ∉ fs->(H' b ≠ none\/∃ o0,h0.get? b=some o0)->B.get? b=some o
structure Fly (P:Program) (w:World) (outer:List Env) (H:Hp) (s:Shared) (H':Hp) (a:Addr) (cls:Value) (s':Shared):Prop where
 os:s'.os=s.os
 bare:AllBare s'.gens
 un:Un (frs outer) [] H H' s.heap s'.heap
 hok:HOk P w H' s'.heap
 free:H' a=none
 new:s.heap.get? a=none
 fl:∃ B a0,Heap.FlyingW B outer a cls a0 s'.heap/\Cov (frs outer) H' s.heap s'.heap B
 ctx:NoCtx s'.heap a
def CXe (P:Program) (w:World):CXT:=fun outer H s E e s'=>∃ a cls H',e=.ref a/\Fly P w outer H s H' a cls s'/\E cls none H'
section
variable {X:Cx} {pins:List (Addr × Obj)} {σ:St} {H:Hp} {s:Shared}
theorem Inv.noLoc (I:Inv X pins σ H s) (e:X.s₀.heap.get? b=some o):b ≠ X.env.locals:=Gx (GC (Gj e) I.ok.above)
theorem HOk.at (ok:HOk P w H h) (e:H b ≠ none):∃ o,h.get? b=some o:=by
 cases q:H b with
 | none=>exact absurd q e
 | some u =>
  have:=ok b u q
  cases u with
  | lst xs=>obtain ⟨_,_,_,_,e⟩:=this;exact ⟨_,e⟩
  | tup xs=>obtain ⟨_,_,_,o,e,_⟩:=this;exact ⟨o,e⟩
  | dK kvs=>obtain ⟨_,_,_,_,o,_,_,e,_⟩:=this;exact ⟨o,e⟩
  | dT kvs=>obtain ⟨_,_,_,_,o,_,_,e,_⟩:=this;exact ⟨o,e⟩
  | set S n=>obtain ⟨o,_,_,_,e,_⟩:=this;exact ⟨o,e⟩
  | ins C dx fs=>obtain ⟨_,_,_,e,_⟩:=this;exact ⟨_,e⟩
  | own y=>exact this
  | xd fs=>obtain ⟨_,⟨o,_,_,e,_⟩,_⟩:=this;exact ⟨o,e⟩
  | rng lo hi=>obtain ⟨_,_,_,e⟩:=this;exact ⟨_,e⟩
  | frz ob u=>obtain ⟨e,_⟩:=this;exact ⟨_,e⟩
  | tbl ps=>exact ⟨_,this⟩
  | met f y=>exact ⟨_,this⟩
  | ext φ=>obtain ⟨_,e,_⟩:=this;exact e
theorem vF (hex:X.ex=[]) (I:Inv X pins σ H s) (k1:∀ b o,s.heap.get? b=some o->b ∉ frs X.stack->(H b ≠ none\/∃ o0,X.s₀.heap.get? b=some o0)->h'.get? b=some o) (k2:∀ b o,s.heap.get? b=some o->(∀ i,o.data ≠ .fields i)->∃ sl,h'.get? b=some { o with slots:=sl }):Un (frs X.outer) [] X.H₀ H X.s₀.heap h'/\HOk X.prog X.w H h':=by
 have f:∀ b:Addr,b ∉ X.ex:=fun b z=>by rw [hex] at z;cases z
 have out:∀ b o,X.s₀.heap.get? b=some o->b ∉ frs X.outer->b ∉ frs X.stack:=fun b o e n z=>by
  rcases Gh.mp (I.stkSub b z) with z | z
  ·exact I.noLoc e z
  ·exact n z
 have h:∀ b ∈ frs X.outer,∀ o,s.heap.get? b=some o->∀ i,o.data ≠ .fields i:=fun b a o e=>by
  obtain ⟨_,o',k,d⟩:=I.funs.mem a
  rw [e] at k;cases k;exact d
 refine ⟨⟨fun b o e n a _=>?_,fun b o e n a _=>?_,fun b o e n _=>I.base.free b o e n (f b),fun b o e _=>?_,I.base.tups,I.base.frzs,I.base.tbls⟩,fun b u e=>?_⟩
 ·exact k1 b o (I.base.keep b o e n a (f b)) (out b o e a) (.inr ⟨o,e⟩)
 ·obtain ⟨sl,e1⟩:=I.base.slot b o e n a (f b)
  obtain ⟨g,m⟩:=k2 b _ e1 (h b a _ e1)
  exact ⟨g,m⟩
 ·obtain ⟨o',e1⟩:=I.base.there b o e (f b)
  grind
 ·refine (I.hok b u e).stay (fun c v j z=>?_) (fun _ z=>z) fun _ _ z=>z
  have l:H c ≠ none:=by
   rcases j with rfl | j
   ·rw [e];intro z;cases z
   ·rw [j];intro z;cases z
  exact k1 c v z (fun a=>l (I.stkFree c a)) (.inl l)
theorem rW (hex:X.ex=[]) (I:Inv X pins σ H s) (k1:∀ b o,s.heap.get? b=some o->b ∉ frs X.stack->(H b ≠ none\/∃ o0,X.s₀.heap.get? b=some o0)->B.get? b=some o) (st:B.StaysIn h'):Cov (frs X.outer) H X.s₀.heap h' B:=fun b o e n c=>by
 have g:∀ b:Addr,b ∉ X.ex:=fun b z=>by rw [hex] at z;cases z
 have h1:∃ a,s.heap.get? b=some a/\b ∉ frs X.stack:=by
  rcases c with c | ⟨o0,d⟩
  ·obtain ⟨a,e1⟩:=I.hok.at c
   exact ⟨a,e1,fun i=>c (I.stkFree b i)⟩
  ·obtain ⟨a,e1⟩:=I.base.there b o0 d (g b)
   refine ⟨a,e1,fun z=>?_⟩
   rcases Gh.mp (I.stkSub b z) with z | z
   ·exact I.noLoc d z
   ·exact n z
 obtain ⟨a,e1,h⟩:=h1
 have f:=k1 b a e1 h c
 rw [st b a f] at e
 cases e
 exact f
theorem Fly.inv (I:Inv X pins σ H s) (f:Fly X.prog X.w X.stack H s H' a cls s'):Inv X pins σ H' s' :=
 I.call' f.os f.un f.hok f.bare (fun _ z=>nomatch z)
theorem Inv.newAt (hex:X.ex=[]) (I:Inv X pins σ H s) (n:s.heap.get? a=none):X.s₀.heap.get? a=none/\H a=none:=by
 constructor
 ·cases q:X.s₀.heap.get? a with
  | none=>rfl
  | some o =>
   obtain ⟨o',e⟩:=I.base.there a o q (by rw [hex];simp)
   rw [n] at e;cases e
 ·cases q:H a with
  | none=>rfl
  | some u =>
   obtain ⟨o,e⟩:=I.hok.at (b:=a) (by rw [q];intro z;cases z)
   rw [n] at e;cases e
end
section
variable {P:Program} {w:World} {K:FG} {mg:Str->Option Value} {base:Heap} {N:List Str} {qual:Str} {scope:Scope} {f:Addr} {cd:Value} {A:Around} {outer:List Env} {s0:Shared} {H0:Hp} {E:XK} {pins:List (Addr × Obj)} {σ:St} {H:Hp} {s s':Shared}
theorem A4 (I:Inv (d8 (CXe P w) P w K mg base N qual scope f cd A outer s0 H0 E) pins σ H s) (d:Heap.MadeExcOf s.heap s'.heap a cls vs) (l:s'.os=s.os) (i:s'.gens=s.gens) (j:E cls none H) :
  (d8 (CXe P w) P w K mg base N qual scope f cd A outer s0 H0 E).xe (.ref a) s':=by
 have c:∀ env ∈ (PyProof.Rows.envOfC qual scope s0.heap.objs.size f cd :: outer),∀ b,env.frame=some b->b ∈ frs (PyProof.Rows.envOfC qual scope s0.heap.objs.size f cd :: outer):=fun env he b k=>List.mem_filterMap.mpr ⟨env,he,k⟩
 obtain ⟨m,r⟩:=I.newAt rfl d.new
 refine pP (base:=PySem.W.hideAll s.heap (frs (PyProof.Rows.envOfC qual scope s0.heap.objs.size f cd :: outer))) (h:=s.heap) (L:=s0.heap.objs.size) I.ok.frames rfl (fun b o q=>PySem.W.of_hideAll _ q) (PySem.W.funFrames_hide I.stack c) d fun h' t f1 f4 p=>?_
 have k1:∀ b o,s.heap.get? b=some o->b ∉ frs (PyProof.Rows.envOfC qual scope s0.heap.objs.size f cd :: outer)->(PySem.W.hideAll s.heap (frs (PyProof.Rows.envOfC qual scope s0.heap.objs.size f cd :: outer))).get? b=some o:=fun b o e n=>PySem.W.hideAll_get _ e n
 obtain ⟨u,ok⟩:=vF rfl I (h':=h') (fun b o e n _=>f1.1 b o (k1 b o e n)) fun b o e hd=>by
  obtain ⟨sl,g⟩:=f4 b o (d.keeps b o e) hd
  exact ⟨sl,g⟩
 refine ⟨a,cls,H,rfl,⟨l.trans I.os,by show AllBare s'.gens;rw [i];exact I.bare,u,ok,r,m,⟨_,_,f1,rW rfl I (fun b o e n _=>k1 b o e n) f1.1⟩,p⟩,j⟩
theorem DA (I:Inv (d8 (CXe P w) P w K mg base N qual scope f cd A outer s0 H0 E) pins σ H s) (h:CXe P w (PyProof.Rows.envOfC qual scope s0.heap.objs.size f cd :: outer) H s E1 e s') (l:∀ cls H',E1 cls none H'->E cls none H') :
  (d8 (CXe P w) P w K mg base N qual scope f cd A outer s0 H0 E).xe e s':=by
 obtain ⟨a,cls,H',rfl,F,g⟩:=h
 have d:=Fly.inv I F
 obtain ⟨B,a0,f1,i⟩:=F.fl
 have dj:s0.heap.get? a=none:=(I.newAt rfl F.new).1
 have k1:∀ b o,s'.heap.get? b=some o->b ∉ frs (PyProof.Rows.envOfC qual scope s0.heap.objs.size f cd :: outer)->(H' b ≠ none\/∃ o0,s0.heap.get? b=some o0)->B.get? b=some o:=fun b o e n c=>by
  refine i b o e n ?_
  rcases c with c | ⟨o0,j⟩
  ·exact .inl c
  ·exact .inr (I.base.there b o0 j (fun z=>nomatch z))
 refine uc (L:=s0.heap.objs.size) I.ok.frames rfl f1 F.ctx fun h' g1 g2 m=>?_
 obtain ⟨u,ok⟩:=vF rfl d (h':=h') (fun b o e n c=>g1.1 b o (k1 b o e n c)) fun b o e hd=>by
  obtain ⟨sl,k⟩:=g2 b o e hd
  exact ⟨sl,k⟩
 exact ⟨a,cls,H',rfl,⟨d.os,d.bare,u,ok,F.free,dj,⟨B,a0,g1,rW rfl d k1 g1.1⟩,m⟩,l cls H' g⟩
end
end L2
end
section
namespace L2
open PySem PySem.Spec PyProof.Rows
structure ECls (K:FG) (mg:Str->Option Value) (x:Str) (C:Addr):Prop where
 bound:mg x=some (.ref C)
 ok:PySem.W.excIn K C mroV "ValueError.__new__"=true
theorem xy {K:FG} (X:K.In h) (q:PySem.W.excIn K C bmB nid=true) :
  ∃ bm N nm d bs hdct sn sub ab col dd k0 k1 k2 k3 k5 mN,h.get? C=some (excClassObj nm d C N bs bm hdct sn sub ab col dd k0 k1 k2 k3 k5 nid)/\h.Ns N mN/\mN "__init__"=none/\OwnTail h bmB bm:=by
 unfold PySem.W.excIn at q
 split at q
 ·rename_i dd cd sl s
  split at q
  ·rename_i r bm k0 k1 k2 k3 n k5 hm k
   have f:=Bool.and_eq_true_iff.mp q
   have i:=Bool.and_eq_true_iff.mp f.1
   have e:=Bool.and_eq_true_iff.mp i.1
   have j:=Bool.and_eq_true_iff.mp e.1
   have g:=Bool.and_eq_true_iff.mp j.1
   have e1:r=C:=beq_iff_eq.mp g.1
   have o:n=nid:=beq_iff_eq.mp g.2
   subst e1 o
   have a:cd.hasDel=false:=by
    have:=j.2
    cases p:cd.hasDel
    ·rfl
    ·rw [p] at this;cases this
   have hok:=i.2
   have b:=beq_iff_eq.mp f.2
   have c:=e.2
   obtain ⟨nm,bs,mro,ns,d,hd,sn,sub,ab,col,del⟩:=cd
   dsimp only at hm a hok b c
   subst hm a
   obtain ⟨l⟩:=sl
   have m:l=[k0,k1,k2,k3,some (.builtin n),k5]:=k
   subst m
   exact ⟨bm,ns,nm,d,bs,hd,sn,sub,ab,col,dd,k0,k1,k2,k3,k5,_,X _ _ s,.of_isNs (PySem.W.isNs_of_in X hok),PySem.W.nsMap_none_of_in X hok b,PySem.W.tail_of_in X c⟩
  ·cases q
 ·cases q
section
variable {X:Cx} {x:Str} {C:Addr} {np cpos pos:Pos} {e:Expr} {ta:TA}
def yj (a:St->Hp->Prop) (ta:TA):TS:=fun _ σ H=>ta σ H fun b H1=>b.length<=1000/\a σ H1
theorem zo (c:ECls X.K X.mg x C) (t:X.calm=true) (j:Gl X x) (hd:(x == ("__debug__":Str))=false) (o:PA X [e] ta) (f:St->Hp->Prop)
  (k:∀ (pins:List (Addr × Obj)) (σ:St) (H:Hp) (s s':Shared) (a:Addr) (g:List Value),Inv X pins σ H s->f σ H->Heap.MadeExcOf s.heap s'.heap a (.ref C) g->s'.os=s.os->s'.gens=s.gens->X.xe (.ref a) s')
  (he:starEach [e] X.env=[(false,eval e X.env)]):PS X (.Raise (some (.Call (.Name x np) [e] [] cpos)) none pos) (yj f ta):=by
 intro pins s σ H D I h
 have u:X.K.In s.heap:=I.kIn
 obtain ⟨bm,N,nm,n,bs,hdct,sn,sub,ab,col,dd,k0,k1,k2,k3,k5,mN,p,i,d,T⟩:=xy I.mod.kin c.ok
 have FB:=PySem.F.excBase_ValueError
 refine wpAny_Raise_call_subT (C:=C) (nm:=nm) (q:=n) (N:=N) (bs:=bs) (bm:=bm) (hdct:=hdct) (sn:=sn) (sub:=sub) (ab:=ab) (col:=col) (dd:=dd) (k0:=k0) (k1:=k1) (k2:=k2) (k3:=k3) (k5:=k5) FB (mN:=mN) (T.hasType FB.hasBase) (I.ok.hd t) (by rw [he];rfl) d (iY I j c.bound ⟨rfl,?_⟩ hd)
 have h1:=o cpos pins s σ H _ I h
 rw [he] at h1 ⊢
 refine Calls.evalArgs_plain (wpAny_mono h1 (fun us s1 ⟨g,H1,b,m,r,l⟩=>⟨rfl,?_,b.bk _ _ p,i.keeps b.bk,T.keeps b.bk,fun h' a hm=>?_⟩) fun _ _ y=>y)
 ·show us.length<=sizeLine
  rw [<- m.length]
  exact Nat.le_of_lt (wu r)
 ·exact k pins σ H1 s1 { s1 with heap:=h' } a us b l hm rfl rfl
end
end L2
end
section
namespace L2
open PySem PySem.Spec PyProof.Rows
section
variable {P:Program} {w:World} {outer:List Env} {H H':Hp} {s s1:Shared} {a:Addr} {cls:Value}
theorem Fly.move (F:Fly P w outer H s H' a cls s1) (y:∀ b ∈ frs outer,H' b=none) (f1:Heap.FlyingW B outer a cls a0 s1.heap) (m:Cov (frs outer) H' s.heap s1.heap B) (f2:Heap.FlyingW B outer a cls a0 h2) (up:s1.heap.UpToSlots h2) (A:NoCtx h2 a):Fly P w outer H s H' a cls { s1 with heap:=h2 }/\Cov (frs outer) H' s.heap h2 B:=by
 have k1:∀ b o,s1.heap.get? b=some o->b ∉ frs outer->(H' b ≠ none\/∃ o0,s.heap.get? b=some o0)->h2.get? b=some o:=fun b o e n h=>f2.1 b o (m b o e n h)
 have l:∀ b ∈ frs outer,∀ o,s1.heap.get? b=some o->∀ t,o.data ≠ .fields t:=fun b f o e=>by
  obtain ⟨_,o',q,d⟩:=f1.2.2.1.mem f
  rw [e] at q;cases q;exact d
 have g:Cov (frs outer) H' s.heap h2 B:=fun b o e n h=>by
  have h1:∃ p,s1.heap.get? b=some p:=by
   rcases h with h | ⟨o0,r⟩
   ·exact F.hok.at h
   ·exact F.un.there b o0 r (fun z=>nomatch z)
  obtain ⟨p,e1⟩:=h1
  have i:=m b p e1 n h
  have x:=f2.1 b p i
  rw [x] at e
  cases e
  exact i
 refine ⟨⟨F.os,F.bare,⟨fun b o e n f k=>?_,fun b o e n f k=>?_,F.un.free,fun b o e k=>?_,F.un.tups,F.un.frzs,F.un.tbls⟩,fun b u e=>?_,F.free,F.new,⟨B,a0,f2,g⟩,A⟩,g⟩
 ·exact k1 b o (F.un.keep b o e n f k) f (.inr ⟨o,e⟩)
 ·obtain ⟨sl,e1⟩:=F.un.slot b o e n f k
  obtain ⟨j,i⟩:=up b _ e1 (l b f _ e1)
  exact ⟨j,i⟩
 ·obtain ⟨o',e1⟩:=F.un.there b o e k
  by_cases f:b ∈ frs outer
  ·obtain ⟨j,i⟩:=up b o' e1 (l b f o' e1)
   exact ⟨_,i⟩
  ·exact ⟨o',k1 b o' e1 f (.inr ⟨o,e⟩)⟩
 ·refine (F.hok b u e).stay (fun c v h z=>?_) (fun _ z=>z) fun _ _ z=>z
  grind
end
abbrev Cx.caught0 (X:Cx) (a:Addr):Cx:={ X with A:=X.A.mark (some (.ref a)),calm:=false,xe:=fun _ _=>False }
abbrev Cx.caught (X:Cx) (a:Addr) (ob:Obj) (cls:Value):Cx:={ X with A:=X.A.mark (some (.ref a)),calm:=false,xe:=fun _ _=>False,H₀:=upd X.H₀ a (lj ob a cls) }
section
variable {X:Cx} {pins:List (Addr × Obj)} {σ:St} {H H':Hp} {s s1:Shared} {a:Addr} {cls:Value}
theorem Inv.caught0 (I:Inv X pins σ H s) (a:Addr):Inv (X.caught0 a) pins σ H s :=
 ⟨⟨I.ok.mod,I.ok.kind,I.ok.glob,I.ok.blt,I.ok.above,I.ok.inj,I.ok.has,I.ok.cab,(fun h=>by cases h),I.ok.frames,I.ok.stk,I.ok.exf,I.ok.bs,I.ok.bsz,I.ok.noex,I.ok.exfs,I.ok.funs,I.ok.frf⟩,I.os,I.bare,I.base,I.loc,I.cell,I.free,I.freeC,I.pin,I.hok,I.len⟩
theorem Inv.trackX (I:Inv X pins σ H' s1) (J:Inv X pins σ H s) (new:s.heap.get? a=none) (t:H' a=none) (hex:X.ex=[]) (l:s1.heap.get? a=some ob) (h:ob.cls=cls):Inv X pins σ (upd H' a (lj ob a cls)) s1:=by
 obtain ⟨e1,K,F,d,y,M,O,E,L,j,f⟩:=id I
 have ne:∀ b o,s.heap.get? b=some o->b ≠ a:=fun b o e z=>by rw [z,new] at e;cases e
 have i:∀ b o,X.s₀.heap.get? b=some o->b ≠ a:=fun b o e=>by
  obtain ⟨o',C⟩:=J.base.there b o e (by rw [hex];simp)
  exact ne b o' C
 have g:∀ b u,H' b=some u->upd H' a (lj ob a cls) b=some u:=fun b u e=>by rw [ao (aS e t)];exact e
 refine ⟨e1,K,F,⟨d.keep,d.slot,fun b o q n A=>?_,d.there,fun b ys q=>g _ _ (d.tups b ys q),fun b o u q=>g _ _ (d.frzs b o u q),fun b ps q=>?_⟩,y,M,?_,fun x c q=>?_,fun p w=>?_,?_,f⟩
 ·rw [ao (i b o q)];exact d.free b o q n A
 ·obtain ⟨more,G⟩:=d.tbls b ps q;exact ⟨more,g _ _ G⟩
 ·obtain ⟨m,⟨o,_,_,r,_⟩,_⟩:=J.loc
  rw [ao (ne _ o r)];exact O
 ·obtain ⟨v,o,r,_⟩:=J.cell x c q
  rw [ao (ne c o r)];exact E x c q
 ·obtain ⟨a1,a2,D⟩:=L p w
  exact ⟨a1,by rw [ao (ne p.1 p.2 (J.pin p w).1)];exact a2,D⟩
 ·exact j.track t ⟨l,⟨ob,l,h⟩,⟨ob,l⟩,fun h1 h2 ⟨o,B,N⟩ k=>⟨o,k o B,N⟩⟩
theorem Inv.nameless (I:Inv X pins σ H s) {t':Nat} (t:h'.Ns X.env.locals m') (g:Heap.SameBut X.env.locals s.heap h'):Inv X pins (List.replicate X.N.length none) H { s with heap:=h',toks:=t' }:=by
 obtain ⟨e1,A,y,f,F,C,D,w,B,k,m⟩:=id I
 have a:∀ b o,X.s₀.heap.get? b=some o->b ≠ X.env.locals:=fun b o e=>I.noLoc e
 refine ⟨e1,A,y,⟨fun b o e n l h=>?_,fun b o e n l h=>?_,f.free,fun b o e h=>?_,f.tups,f.frzs,f.tbls⟩,⟨m',t,fun i x v h1 h2 h3=>?_⟩,fun x c e=>?_,D,w,fun p E=>?_,fun b u e=>?_,by rw [List.length_replicate]⟩
 ·exact (g.2 b (a b o e)).trans (f.keep b o e n l h)
 ·obtain ⟨sl,q⟩:=f.slot b o e n l h
  exact ⟨sl,(g.2 b (a b o e)).trans q⟩
 ·obtain ⟨o',q⟩:=f.there b o e h
  exact ⟨o',(g.2 b (a b o e)).trans q⟩
 ·rw [List.getElem?_replicate] at h2
  split at h2 <;> cases h2
 ·obtain ⟨v,o,q,d⟩:=C x c e
  exact ⟨v,o,(g.2 c (I.cne x c e)).trans q,d⟩
 ·obtain ⟨q,n,ne,r⟩:=B p E
  exact ⟨(g.2 p.1 ne).trans q,n,ne,r⟩
 ·refine (k b u e).stay (fun c v G z=>?_) (fun _ z=>z) fun _ _ z=>z
  have j:c ≠ X.env.locals:=fun q=>by
   grind
  exact (g.2 c j).trans z
theorem Inv.namelessC (I:Inv X pins σ H s) {t':Nat} (hf:X.fn n=true) (y:X.env.cells.lookup n=some c) (E:h'.IsCell c none) (f:Heap.SameBut c s.heap h'):Inv X pins (List.replicate X.N.length none) H { s with heap:=h',toks:=t' }:=by
 obtain ⟨e1,K,J,a,B,M,O,F,L,t,D⟩:=id I
 obtain ⟨v0,o0,G,A⟩:=I.cell n c y
 have l:=I.ok.cab n c hf y
 have g:∀ b o,X.s₀.heap.get? b=some o->b ≠ c:=fun b o e=>Gx (GC (Gj e) l)
 have k:X.env.locals ≠ c:=fun z=>I.cne n c y z.symm
 refine ⟨e1,K,J,⟨fun b o e n w j=>?_,fun b o e n w j=>?_,a.free,fun b o e j=>?_,a.tups,a.frzs,a.tbls⟩,?_,fun x h e=>?_,O,F,fun p P=>?_,fun b u e=>?_,by rw [List.length_replicate]⟩
 ·exact (f.2 b (g b o e)).trans (a.keep b o e n w j)
 ·obtain ⟨sl,q⟩:=a.slot b o e n w j
  exact ⟨sl,(f.2 b (g b o e)).trans q⟩
 ·obtain ⟨o',q⟩:=a.there b o e j
  exact ⟨o',(f.2 b (g b o e)).trans q⟩
 ·obtain ⟨m,hm,_⟩:=B
  refine ⟨m,hm.sameBut f k,fun i x v h1 h2 h3=>?_⟩
  rw [List.getElem?_replicate] at h2
  split at h2 <;> cases h2
 ·by_cases z:h=c
  ·rw [z];exact ⟨_,E⟩
  ·obtain ⟨v,o,q,d⟩:=M x h e
   exact ⟨v,o,(f.2 h z).trans q,d⟩
 ·obtain ⟨q,n,ne,r⟩:=L p P
  have z:p.1 ≠ c:=fun z=>by
   rw [z,G] at q
   cases q
   exact r.2 v0 A
  exact ⟨(f.2 p.1 z).trans q,n,ne,r⟩
 ·refine (t b u e).stay (fun h v C z=>?_) (fun _ z=>z) fun _ _ z=>z
  have hz:h ≠ c:=fun q=>by
   grind
  exact (f.2 h hz).trans z
theorem nv (d:env.scope.kind=.function) (a:env.kindOf n=some .cell) (b:env.cells.lookup n=some c) (e:s.heap.IsCell c v₀) (h:∀ h',h'.IsCell c none->Heap.SameBut c s.heap h'->Q () { s with heap:=h' }):wpAny M A (do bindName env n .none;unbindBehindTheSuite env n pos) Q E s:=by
 refine F7 (wpAny_bindName (wpAny_storeName_cell d a b e fun h1 c1 s1=>?_))
 unfold unbindBehindTheSuite
 refine wpAny_onRaise ?_
 unfold unbindName
 refine F7 (wpAny_point (F7 ?_))
 unfold deleteName
 simp only [a]
 refine F7 (wpAny_cellOf b (F7 (wpAny_cellGet c1 ?_)))
 simp only [Option.isSome_some,if_true]
 refine wpAny_cellSet c1 fun h2 c2 s2=>?_
 exact wpAny_point (h h2 c2 (s1.trans s2))
theorem Inv.caught (I:Inv X pins σ H s) (g:X.s₀.heap.get? a=none) (d:H a=some (lj ob a cls)):Inv (X.caught a ob cls) pins σ H s:=by
 have ne:∀ b o,X.s₀.heap.get? b=some o->b ≠ a:=fun b o e z=>by rw [z,g] at e;cases e
 have fr:∀ b ∈ X.fs,b ≠ a:=fun b c=>by
  obtain ⟨_,o',f,_⟩:=I.ok.funs.mem c
  exact ne b o' f
 have u:=I.base
 refine ⟨⟨I.ok.mod,I.ok.kind,I.ok.glob,I.ok.blt,I.ok.above,I.ok.inj,I.ok.has,I.ok.cab,(fun h=>by cases h),I.ok.frames,I.ok.stk,I.ok.exf,fun b o e=>⟨(I.ok.bs b o e).1,by show upd X.H₀ a _ b=none;rw [ao (ne b o (I.ok.bs b o e).1)];exact (I.ok.bs b o e).2⟩,I.ok.bsz,I.ok.noex,I.ok.exfs,I.ok.funs,fun b c=>by show upd X.H₀ a _ b=none;rw [ao (fr b c)];exact I.ok.frf b c⟩,I.os,I.bare,?_,I.loc,I.cell,I.free,I.freeC,I.pin,I.hok,I.len⟩
 show Un _ _ (upd X.H₀ a (lj ob a cls)) H _ _
 refine ⟨fun b o e n=>u.keep b o e (by rwa [ao (ne b o e)] at n),fun b o e n=>u.slot b o e (by rwa [ao (ne b o e)] at n),fun b o e n=>u.free b o e (by rwa [ao (ne b o e)] at n),u.there,fun b xs e=>?_,fun b o w e=>?_,fun b ps e=>?_⟩
 ·by_cases z:b=a
  ·subst z;rw [aC] at e;cases e
  ·rw [ao z] at e;exact u.tups b xs e
 ·by_cases z:b=a
  ·subst z;rw [aC] at e;cases e;exact d
  ·rw [ao z] at e;exact u.frzs b o w e
 ·by_cases z:b=a
  ·subst z;rw [aC] at e;cases e
  ·rw [ao z] at e;exact u.tbls b ps e
theorem Inv.uncaught (I:Inv (X.caught a ob cls) pins σ H s) (ok:X.Ok) (f:X.s₀.heap.get? a=none) (g:∀ xs,X.H₀ a ≠ some (.tup xs)) (c:∀ o w,X.H₀ a ≠ some (.frz o w)) (d:∀ ps,X.H₀ a ≠ some (.tbl ps)):Inv X pins σ H s:=by
 have ne:∀ b o,X.s₀.heap.get? b=some o->b ≠ a:=fun b o e z=>by rw [z,f] at e;cases e
 have u:Un X.fs X.ex (upd X.H₀ a (lj ob a cls)) H X.s₀.heap s.heap:=I.base
 refine ⟨ok,I.os,I.bare,?_,I.loc,I.cell,I.free,I.freeC,I.pin,I.hok,I.len⟩
 exact ⟨fun b o e n=>u.keep b o e (by rwa [ao (ne b o e)]),fun b o e n=>u.slot b o e (by rwa [ao (ne b o e)]),fun b o e n=>u.free b o e (by rwa [ao (ne b o e)]),u.there,fun b xs e=>u.tups b xs ((ao (fun z:b=a=>g xs (by rw [<- z];exact e))).trans e),fun b o w e=>u.frzs b o w ((ao (fun z:b=a=>c o w (by rw [<- z];exact e))).trans e),fun b ps e=>u.tbls b ps ((ao (fun z:b=a=>d ps (by rw [<- z];exact e))).trans e)⟩
end
end L2
end
section
namespace L2
open PySem PySem.Spec PyProof.Rows
section
variable {X:Cx} {pins:List (Addr × Obj)} {σ:St} {H H':Hp} {s s1:Shared} {a CB:Addr} {cls:Value} {D:Ends} {cx n:Str} {i:Nat} {cp hpos:Pos} {b0:Stmt} {suite:List Stmt}
theorem uk (I:Inv X pins σ H s) (F:Fly X.prog X.w X.stack H s H' a cls s1) (k:X.stack=X.env :: X.outer) (G:X.env.frame=some X.env.locals) (hex:X.ex=[]) (hN:X.N.Nodup)
  (hg:Gl X cx) (hd:(cx == ("__debug__":Str))=false) (hm:X.mg cx=some (.ref CB)) (hx:PySem.W.exmOne X.K cls (.ref CB)=some true) (hi:X.N[i]?=some n) (h:X.env.scope.names.lookup n=some .local\/(X.env.scope.names.lookup n=some .cell/\X.fn n=true))
  (hs:∀ s5 ob,Hd (X.caught a ob cls)->Inv (X.caught a ob cls) pins (σ.set i (some (.ref a))) (upd H' a (lj ob a cls)) s5->wpAny (model X.prog X.w) (X.A.mark (some (.ref a))) (execs (b0 :: suite) X.env) (fun f y=>∃ v u σ6 j,f=.ret u/\Inv (X.caught a ob cls) pins σ6 j y/\RelV v u/\D.rt v j) (fun _ _=>False) s5) :
  wpAny (model X.prog X.w) X.A (noteFrame (.ref a) X.env) (fun _ s2=>wpAny (model X.prog X.w) X.A (setFlight (.ref a) none) (fun _ s3=>wpAny (model X.prog X.w) X.A (handleBy (.ref a) X.env [.ExceptHandler (some (.Name cx cp)) (some n) (b0 :: suite) hpos]) (SP X pins D) X.xe s3) X.xe s2) X.xe s1:=by
 have hA:X.A.frames=some (X.env :: X.outer):=by rw [<- k];exact I.ok.frames
 have g:∀ b ∈ frs X.stack,H' b=none:=(Fly.inv I F).stkFree
 obtain ⟨B,a0,f1,R⟩:=F.fl
 refine xc (outer:=X.outer) hA G (by rw [<- k];exact f1) F.ctx fun h2 held C c2=>?_
 refine Ft held c2 fun h3 m L c3=>?_
 rw [<- k] at m
 obtain ⟨Z,p⟩:=F.move g f1 R m (C.trans L) c3
 have I3:=(Fly.inv I Z).caught0 a
 have S:PySem.W.Looks (model X.prog X.w) h3 (typeOf (.ref a)) cls:=by
  obtain ⟨ob,O,l⟩:=m.there
  subst l
  exact (PySem.W.Looks.ld O).andThen .now
 refine wpAny_handleBy_cons (codeAny_handlers_test (iY (X:=X.caught0 a) I3 hg hm ?_ hd)) (by intro q;cases q)
 refine (PySem.W.exm_one (K:=X.K) I3.kIn S hx).here ?_
 show codeAny _ _ _ _ _
 refine codeAny_handlers_suite_as (pQ m c3 fun h4 f4 E Y=>?_)
 obtain ⟨F4,U⟩:=Z.move g m p f4 E Y
 have I4:=Fly.inv I F4
 obtain ⟨P,d⟩:=I.newAt hex F.new
 obtain ⟨ob,t,M⟩:=f4.there
 have nc:NoC ob:=by
  obtain ⟨o,vs,q1,q2,q3⟩:=Y
  rw [t] at q1
  cases q1
  exact ⟨vs,q2,q3⟩
 have I5:=(I4.trackX I F.new F.free hex t M).caught (ob:=ob) (cls:=cls) P aC
 have hD:Hd (X.caught a ob cls):=⟨a,ob,excO a cls,rfl,aC,nc⟩
 refine lN (X:=X.caught a ob cls) (v:=V.ref a) I5 hN hi (h.imp id And.left) rfl (fun s5 J5=>?_) (h.elim .inr fun z=>.inl z.2)
 refine wpAny_mono (hs s5 ob hD J5) (fun f y h6=>?_) fun _ _ z=>z.elim
 obtain ⟨v,u,σ6,j,rfl,x,r,q⟩:=h6
 have un:∀ {σ7:St} {T:Shared},Inv (X.caught a ob cls) pins σ7 j T->Inv X pins σ7 j T:=fun J=>J.uncaught I.ok P (fun xs e=>by rw [I.base.tups a xs e] at d;cases d) (fun o w e=>by rw [I.base.frzs a o w e] at d;cases d) fun ps e=>by obtain ⟨_,e⟩:=I.base.tbls a ps e;rw [e] at d;cases d
 rcases h with h | ⟨h,Q⟩
 case inr =>
  obtain ⟨c,l⟩:=I.ok.has n (.inl h)
  obtain ⟨v0,z0⟩:=x.cell n c l
  exact nv I.ok.kind h l z0 fun h7 c7 sb=>⟨v,_,j,(un x).namelessC (t':=y.toks) Q l c7 sb,r,q⟩
 obtain ⟨m6,n6,_⟩:=x.loc
 refine wpAny_nameGoes h n6 ?_ fun h7 m7 n7 sb=>?_
 ·have:=I.ok.kind
  rw [this];rfl
 ·exact ⟨v,_,j,(x.uncaught I.ok P (fun xs e=>by rw [I.base.tups a xs e] at d;cases d) (fun o w e=>by rw [I.base.frzs a o w e] at d;cases d) fun ps e=>by obtain ⟨_,e⟩:=I.base.tbls a ps e;rw [e] at d;cases d).nameless n7 sb,r,q⟩
end
end L2
end
section
namespace L2
open PySem PySem.Spec PyProof.Rows
structure CalleeX (P:Program) (w:World) (K:FG) (mg:Str->Option Value) (base:Heap) (x:Str) (k:Nat) (ps:List Str) (sp:Sp):Prop where
 ex:∃ (f:Addr) (fd:FuncData),FnOk P w K mg base (CXe P w) k f fd ps sp/\mg x=some (.ref f)/\PySem.W.keepIn K (.ref f)=true/\Binds K fd ps []
section
variable {X:Cx} {x:Str} {p pos:Pos} {e:Expr} {es:List Expr} {t:TA} {k:Nat} {ps:List Str} {sp:Sp}
def tFnX (sp:Sp) (b:St->XK) (t:TA):TE:=fun σ H Q=>t σ H fun a H1=>sp a H1 Q (b σ)
theorem ET (c:CalleeX X.prog X.w X.K X.mg X.base x k ps sp) (o:Room k X.A) (n:∀ (pins:List (Addr × Obj)) (σ:St) (H:Hp) (s:Shared) (e:Value) (s':Shared),Inv X pins σ H s->CXe X.prog X.w X.stack H s (EE σ) e s'->X.xe e s') (j:PA X (e :: es) t) (m:Gl X x) (d:(x == ("__debug__":Str))=false) (he:starEach (e :: es) X.env=(false,eval e X.env) :: starEach es X.env) (g:(backTo pos (starEach es X.env)).any (·.1)=false):PE X (.Call (.Name x p) (e :: es) [] pos) (tFnX sp EE t):=by
 obtain ⟨f,fd,F,hm,z,v⟩:=c.ex
 intro pins s σ H Q I h
 refine wpAny_Call_Name_kw (iY I m hm ?_ d)
 refine PySem.W.callWith_K (h₀:=X.base) I.ok.mod.kin z (thn (j pos pins s σ H _ I h) fun us s1 ⟨y,H1,a,r,q⟩=>⟨a.kIn,?_⟩) he g
 have l:us.length=ps.length:=by rw [<- r.length];exact F.len _ _ _ _ q
 have i:=v s1 us a.kIn (by rw [List.append_nil];exact l)
 rw [List.append_nil] at i
 refine wpAny_call (codeAny_mono (F.run X.A X.stack s1 H1 ⟨us,[]⟩ us y Q (EE σ) o a.env0 i r q) fun r s' b=>?_)
 cases r with
 | error e=>exact n pins σ H1 s1 e s' a b
 | ok fl =>
  cases fl with
  | ret u=>exact a.after b
  | next=>exact False.elim b
  | brk=>exact False.elim b
  | cont=>exact False.elim b
end
theorem Def.calleeX {K:FG} {st:Stmt} {k:Nat} (D:Def K mg x st) (b:∀ (kV doc pm:Value) (an:Option Addr) (a ct:Value) (us:List Value),us.length=ps.length->bindArgs (PySem.W.fnOf x x (aQ st) (aE st) (ad st) .none kV doc pm an a ct) ⟨us,[]⟩=pure (ps.zip us)) (h:∀ f fd,Fun K x x st f fd->FnOk P w K mg base (CXe P w) k f fd ps sp):CalleeX P w K mg base x k ps sp:=by
 obtain ⟨f,fd,d⟩:=D
 exact ⟨f,fd,h f fd d.fn,d.mg,d.fn.kp,d.fn.binds b⟩
theorem Fun.okX {K:FG} {st:Stmt} {k:Nat} (F:Fun K x qual st f fd) (S:FnScope N ps (ad st)) (len:∀ c H Q E,sp c H Q E->c.length=ps.length) (b:∀ (a:Value) (A:Around) (outer:List Env) (s:Shared) (H:Hp) (c:List V) (Q:VK) (E:XK),Room k (A.deeper (envOfC qual (ad st) s.heap.objs.size f a))->sp c H Q E ->
   ∃ t,PSs (d8 (CXe P w) P w K mg base N qual (ad st) f a A outer s H E) (aE st) t/\t { nx:=fun _ H'=>Q .non H',rt:=Q } (gh N c) H):FnOk P w K mg base (CXe P w) (k+1) f fd ps sp:=by
 obtain ⟨j,l,kV,doc,pm,an,a,ct,h,rfl,i,e⟩:=F.ex
 exact Du i e S len fun A outer s H c Q E g d=>b a A outer s H c Q E g d
structure RoomN (k:Nat) (A:Around):Prop where
 dp:A.depth+3 * k+5 < recursionLimit
 un:A.units+16 * k+200 < cLine
 gd:A.guards=some []
theorem Room.mark {k:Nat} (r:Room k A) (v:Option Value):RoomN k (A.mark v):=⟨r.dp,r.un,r.gd⟩
theorem RoomN.mono {j k:Nat} (r:RoomN k A) (h:j<=k):RoomN j A:=⟨by have:=r.dp;omega,by have:=r.un;omega,r.gd⟩
theorem RoomN.deeper {k:Nat} (r:RoomN (k+1) A) (env:Env):RoomN k (A.deeper env) :=
 ⟨by have:=r.dp;show A.depth+1+3 * k+5 < _;omega,by have:=r.un;show A.units+3+16 * k+200 < _;omega,r.gd⟩
def HdA (A:Around) (H:Hp):Prop:=∃ a ob u,A.handled=some (.ref a)/\H a=some (.frz ob u)/\NoC ob
structure FnOkN (P:Program) (w:World) (K:FG) (mg:Str->Option Value) (base:Heap) (k:Nat) (f:Addr) (fd:FuncData) (ps:List Str) (sp:Sp):Prop where
 len:∀ vs H Q E,sp vs H Q E->vs.length=ps.length
 run:∀ (A:Around) (outer:List Env) (s:Shared) (H:Hp) (args:Args) (us:List Value) (vs:List V) (Q:VK),RoomN k A->HdA A H->Env0 P w K mg base A outer s H->BindsTo s fd args (ps.zip us)->Vals vs us->sp vs H Q E0 ->
  codeAny (model P w) A (.call (.ref f) args) (CR CX0 outer P w H s Q E0) s
abbrev Cx.loud (X:Cx):Cx:={ X with calm:=false }
theorem ue {K:FG} (S:FnScope N ps scope) (a:Env0 P w K mg base A outer s H) (b:vs.length=ps.length) (r:Vals vs us) (x:InCallC s s.heap.objs.size (bindL (envOfC qual scope s.heap.objs.size f cd).kindOf (ps.zip us) fun _=>none) (cellsFrom (s.heap.objs.size+1) scope.names []) (bindC (envOfC qual scope s.heap.objs.size f cd).kindOf (ps.zip us) fun _=>none) s1) :
  Inv ((d8 CX0 P w K mg base N qual scope f cd A outer s H E0).loud.wish fun _ _=>False) [] (gh N vs) H s1:=by
 have e1:Env0 P w K mg base { A with handled:=none } outer s H:=⟨a.frames,a.mod,a.bs,a.bsz,a.funs,a.frf,a.hok,a.bare⟩
 have I:=oP (CX:=CX0) (E:=E0) (qual:=qual) (f:=f) (cd:=cd) S rfl e1 b r x
 exact ⟨⟨I.ok.mod,I.ok.kind,I.ok.glob,I.ok.blt,I.ok.above,I.ok.inj,I.ok.has,I.ok.cab,(fun h=>by cases h),I.ok.frames,I.ok.stk,I.ok.exf,I.ok.bs,I.ok.bsz,I.ok.noex,I.ok.exfs,I.ok.funs,I.ok.frf⟩,I.os,I.bare,I.base,I.loc,I.cell,I.free,I.freeC,I.pin,I.hok,I.len⟩
theorem Fun.okN {K:FG} {st:Stmt} {k:Nat} (F:Fun K x qual st f fd) (S:FnScope N ps (ad st)) (len:∀ c H Q E,sp c H Q E->c.length=ps.length) (g:∀ (a:Value) (A:Around) (outer:List Env) (s:Shared) (H:Hp) (c:List V) (Q:VK),RoomN k (A.deeper (envOfC qual (ad st) s.heap.objs.size f a))->Hd ((d8 CX0 P w K mg base N qual (ad st) f a A outer s H E0).loud.wish fun _ _=>False)->sp c H Q E0 ->
   ∃ t,PSs ((d8 CX0 P w K mg base N qual (ad st) f a A outer s H E0).loud.wish fun _ _=>False) (aE st) t/\t { nx:=fun _ H'=>Q .non H',rt:=Q } (gh N c) H):FnOkN P w K mg base (k+1) f fd ps sp:=by
 obtain ⟨U,T,kV,doc,pm,an,a,ct,L,rfl,R,m⟩:=F.ex
 refine ⟨len,fun A outer s H args us c Q B l i O r j=>?_⟩
 have M:=len _ _ _ _ j
 have z:K.In s.heap:=i.mod.kin.keeps fun b o e=>(i.bs b o e).1
 have lim:s.heap.NoLimit:=i.mod.nolimit.keeps fun b o e=>(i.bs b o e).1
 have d:∀ y ∈ ps.zip us,(ad st).names.lookup y.1=some .local\/((ad st).names.lookup y.1=some .cell/\((cellsFrom (s.heap.objs.size+1) (ad st).names []).lookup y.1).isSome=true):=fun ⟨n,v⟩ G=>by
  rcases S.par n (List.of_mem_zip G).1 with q | q
  ·exact .inl q
  ·exact .inr ⟨q,PySem.W.cellsFrom_some _ _ _ (.inl q)⟩
 refine codeAny_call_function (by have:=B.dp;omega) (z _ _ R) rfl S.co S.gen rfl (PySem.W.codeRec_of z m) (O _ _ _ _ ?_)
 refine wpAny_newFunctionEnv_cells S.kind d fun env he s1 x=>?_
 subst he
 refine ⟨lim.keeps x.toInCall.keep,codeAny_func ?_⟩
 obtain ⟨t,D,C⟩:=g a A outer s H c Q (B.deeper _) l j
 have I:=ue (qual:=qual) (f:=f) (cd:=a) S i M r x
 refine wpAny_mono (D [] s1 (gh N c) H _ I C) (fun fl s' h=>?_) fun e s' h=>False.elim h
 have fin:∀ {σ':St} {H':Hp} {v:V} {u:Value},Inv ((d8 CX0 P w K mg base N qual (ad st) f a A outer s H E0).loud.wish fun _ _=>False) [] σ' H' s'->RelV v u->Q v H'->CE outer P w H s Q u s' :=
  fun {σ' H' v u} J p q=>⟨v,H',J.os,J.bare,J.base,J.hok,p,q⟩
 cases fl with
 | ret u =>
  obtain ⟨v,σ',H',J,p,q⟩:=h
  exact fin J p q
 | next =>
  obtain ⟨σ',H',J,q⟩:=h
  exact fin (v:=V.non) (u:=Value.none) J rfl q
 | brk =>
  obtain ⟨_,_,_,q⟩:=h
  exact False.elim q
 | cont =>
  obtain ⟨_,_,_,q⟩:=h
  exact False.elim q
structure CalleeN (P:Program) (w:World) (K:FG) (mg:Str->Option Value) (base:Heap) (x:Str) (k:Nat) (ps:List Str) (sp:Sp):Prop where
 ex:∃ (f:Addr) (fd:FuncData),FnOkN P w K mg base k f fd ps sp/\mg x=some (.ref f)/\PySem.W.keepIn K (.ref f)=true/\Binds K fd ps []
theorem Def.calleeN {K:FG} {st:Stmt} {k:Nat} (D:Def K mg x st) (b:∀ (kV doc pm:Value) (an:Option Addr) (a ct:Value) (us:List Value),us.length=ps.length->bindArgs (PySem.W.fnOf x x (aQ st) (aE st) (ad st) .none kV doc pm an a ct) ⟨us,[]⟩=pure (ps.zip us)) (h:∀ f fd,Fun K x x st f fd->FnOkN P w K mg base k f fd ps sp):CalleeN P w K mg base x k ps sp:=by
 obtain ⟨f,fd,d⟩:=D
 exact ⟨f,fd,h f fd d.fn,d.mg,d.fn.kp,d.fn.binds b⟩
section
variable {X:Cx} {x:Str} {p pos:Pos} {e:Expr} {es:List Expr} {t:TA} {k:Nat} {ps:List Str} {sp:Sp}
theorem EU (c:CalleeN X.prog X.w X.K X.mg X.base x k ps sp) (B:RoomN k X.A) (v:Hd X) (y:PA X (e :: es) t) (m:Gl X x) (g:(x == ("__debug__":Str))=false)
  (he:starEach (e :: es) X.env=(false,eval e X.env) :: starEach es X.env) (i:(backTo pos (starEach es X.env)).any (·.1)=false):PE X (.Call (.Name x p) (e :: es) [] pos) (tFn sp t):=by
 obtain ⟨f,fd,F,hm,E,C⟩:=c.ex
 intro pins s σ H Q I h
 refine wpAny_Call_Name_kw (iY I m hm ?_ g)
 refine PySem.W.callWith_K (h₀:=X.base) I.ok.mod.kin E (thn (y pos pins s σ H _ I h) fun us s1 ⟨n,H1,b,r,q⟩=>⟨b.kIn,?_⟩) he i
 have z:us.length=ps.length:=by rw [<- r.length];exact F.len _ _ _ _ q
 have j:=C s1 us b.kIn (by rw [List.append_nil];exact z)
 rw [List.append_nil] at j
 refine wpAny_call (codeAny_mono (F.run X.A X.stack s1 H1 ⟨us,[]⟩ us n Q B (let ⟨a,ob,u,D,l,o⟩:=v;⟨a,ob,u,D,b.base.frzs a ob u l,o⟩) b.env0 j r q) fun r s' d=>?_)
 cases r with
 | error e=>exact False.elim d
 | ok fl =>
  cases fl with
  | ret u=>exact b.after d
  | next=>exact False.elim d
  | brk=>exact False.elim d
  | cont=>exact False.elim d
end
end L2
end
section
namespace L2
open PySem PySem.W PySem.Spec PySem.Calls PyProof.Rows Builtin.Getset_descriptor
structure ExcAt (h:Heap) (x D:Addr):Prop where
 ex:∃ ox,h.get? x=some ox/\ox.cls=.ref D
section
variable {prog:Program} {w:World} {A:Around} {E:Value->Shared->Prop} {s:Shared} {K:FG} {x D:Addr}
theorem ExcAt.ty (p:ExcAt h x D):Looks M h (typeOf (.ref x)) (.ref D):=by
 obtain ⟨b,e1,a⟩:=p.ex
 exact a ▸ (Looks.ld e1).andThen .now
theorem Aq (k:ExcK K D) (X:K.In h):Looks M h (Builtin.ObjectAttr.find (.ref x) (.ref D) "__class__") (.bind (.builtin "getset_descriptor.__get__") (.builtin "object.__class__")):=by
 have b:=looks_findIn (M:=M) X k.ca
 have c:Looks M h (Builtin.ObjectAttr.getOf (some (.builtin "object.__class__"))) (some (.builtin "getset_descriptor.__get__")):=looks_specialIn X k.sp
 have a:Looks M h (Builtin.ObjectAttr.dataDescriptor? (some (.builtin "object.__class__")) (some (.builtin "getset_descriptor.__get__"))) (some (.builtin "getset_descriptor.__get__",.builtin "object.__class__")):=(looks_takesIn X k.tk).andThen .now
 exact b.andThen (c.andThen (a.andThen (Looks.tag .now)))
theorem CS (k:ExcK K D) (X:K.In s.heap) (p:ExcAt s.heap x D) (h:R (.ok (.ret (.ref D))) s):codeAny (model prog w) A (.call (.builtin "getset_descriptor.__get__") ⟨[.builtin "object.__class__",.ref x,tp],[]⟩) R s:=by
 obtain ⟨h0,d,a,t0,o0⟩:=s
 have c:=p.ty (M:=model prog w)
 have b:=looks_mroIn (M:=model prog w) X k.ob
 refine codeAny_call_builtin KF.slot_gs.plain KF.entry_gs (KF.slot_gs.check _ _ _ _ _ _ _ _ KF.type_class (KF.args_gs _ _ _) ?_)
 unfold Builtin.«getset_descriptor.__get__» descrGet
 rw [dga_obj]
 refine F7 (F8 ?_)
 unfold descrGetter descrCheckInstance descrNameAndClass isInstance
 simp only [KF.owner_class]
 repeat lk
 refine ⟨Code.quiet_builtin _ (by decide +kernel),codeAny_builtin KF.entry_class ?_⟩
 unfold Builtin.«object.__class__» shownTypeOf
 repeat lk
 exact h
theorem xv (k:ExcK K D) (X:K.In s.heap) (p:ExcAt s.heap x D) (h:Q (.done (.ret (.ref D))) s) :
  wpAny (model prog w) A (Builtin.«object.__getattribute__» ⟨[.ref x,.str "__class__" tk],[]⟩) Q E s:=by
 obtain ⟨h0,d,a,t0,o0⟩:=s
 have c:=p.ty (M:=model prog w)
 have b:=Aq (M:=model prog w) (x:=x) k X
 unfold Builtin.«object.__getattribute__» slotArgs
 repeat lk
 show wpAny _ _ (run (.call (.builtin "getset_descriptor.__get__") ⟨[.builtin "object.__class__",.ref x,.ref D],[]⟩)) _ _ _
 refine wpAny_run (CS k X p ?_)
 exact F8 (F8 h)
theorem xx (k:ExcK K D) (X:K.In s.heap) (p:ExcAt s.heap x D) (h:Q () s):wpAny (model prog w) A (checkBuiltinCall "BaseException.__getattribute__" ⟨[.ref x,v],[]⟩) Q E s:=by
 obtain ⟨h0,e,a,t0,o0⟩:=s
 have c:=p.ty (M:=model prog w)
 have b:=looks_mroIn (M:=model prog w) X k.be
 have b1:builtinKind "BaseException.__getattribute__"=some .slot:=by decide +kernel
 have b2:splitId "BaseException.__getattribute__"=some ("BaseException","__getattribute__"):=by decide +kernel
 have d:=F.args_bexc_ga (.ref x) v
 simp only [checkBuiltinCall,b1,b2]
 refine F7 ?_
 unfold isInstance
 repeat lk
 exact h
theorem xw (k:ExcK K D) (X:K.In s.heap) (p:ExcAt s.heap x D) (h:Q (some (.ref D)) { s with toks:=s.toks+1 }):wpAny (model prog w) A (getAttr? (.ref x) "__class__") Q E s:=by
 obtain ⟨h0,f,e,t0,o0⟩:=s
 have d:=p.ty (M:=model prog w)
 have b:=looks_findIn (M:=model prog w) X k.ga
 have c:=looks_findIn (M:=model prog w) X k.gt
 have a:=F.excAttr_ValueError.ga.bind (.ref x)
 have ne:(onTheHeap (Value.ref D) && Value.builtin "BaseException.__getattribute__" == Value.builtin "object.__getattribute__")=false:=by
  rw [show (Value.builtin "BaseException.__getattribute__" == Value.builtin "object.__getattribute__")=false by decide +kernel];rfl
 unfold getAttr? getAttrBy? getAttrBy
 refine F7 (wpAny_mkText (F7 (wpAny_attempt (F9 (F7 (d.at (F7 (b.at ?_))))))))
 simp only [ne,GL,if_false]
 unfold getAttrByItsOwn hookBefore
 rw [show onTheHeap (Value.ref D)=true from rfl,if_pos rfl]
 refine F7 (c.at (F7 (wpAny_attempt (F9 ?_))))
 unfold callGetattribute boundAndCalled
 rw [if_neg (by decide)]
 refine F7 (wpAny_of_eq a ?_)
 refine wpAny_call (codeAny_call_builtin F.excAttr_ValueError.ga.plain F.entry_bexc_ga (xx k X p (xv k X p ?_)))
 exact handed_on rfl (F8 h)
theorem ExcK.isT (k:ExcK K D) (X:K.In h):∃ o cd,h.get? D=some o/\o.data=.cls cd:=by
 obtain ⟨cd,a⟩:=Option.isSome_iff_exists.mp k.cl
 unfold clsIn at a
 split at a
 ·rename_i b
  exact ⟨_,_,X _ _ b,rfl⟩
 ·cases a
theorem z7 (k:ExcK K D):KitX K (.ref x) (.ref D) (fun h=>ExcAt h x D) where
 ty:=fun _ _ _ p=>p.ty
 it:=fun _ _ X _=>by
  obtain ⟨o,cd,e1,a⟩:=k.isT X
  intro l j q s1 k1 c
  unfold isType loadHead
  obtain ⟨r,m,i,g⟩:=o
  dsimp only at a
  subst a
  exact F7 (wpAny_loadPart (k1 _ _ e1) (F8 c))
 ne:=fun h d dd its n sl X b=>by
  obtain ⟨o,cd,e1,a⟩:=k.isT X
  cases f:(Value.ref D == Value.ref d) with
  | false=>rfl
  | true =>
   have e:D=d:=Value.ref.inj (beq_iff_eq.mp f)
   rw [e,b] at e1
   cases e1
   cases a
 ca:=fun X p c=>xw k X p c
end
end L2
end
section
namespace L2
open PySem PySem.Spec PyProof.Rows
section
variable {X:Cx}
theorem oX:∀ {bs:List Bool} {its:List Value},Vals (bs.map V.bl) its->its.countP (eqU (.bl k))=bs.count k
 | [],its,r=>by cases r;rfl
 | b :: bs,its,r=>by
  cases r with
  | cons h t =>
   rw [List.countP_cons,List.count_cons,oX t,p6 h rfl]
   rfl
theorem wU:MtR X "list.count" (fun x f H Q=>∃ (a:Addr) (bs:List Bool) (k:Bool),x=.ref a/\f=[.bl k]/\SqL X.K H a (bs.map V.bl)/\Q (.int (bs.count k:Nat)) H):=by
 intro pins s σ H x f v us Q I l t h
 obtain ⟨a,bs,k,rfl,rfl,p,q⟩:=h
 cases l
 obtain ⟨u,rfl,m⟩:=eY t
 obtain ⟨its,r,⟨o,n,e,j,hd,g⟩,hz⟩:=I.list p
 have i:s.heap.get? a=some { cls:=.type "list",dict:=none,data:=.seq its.toArray n,slots:=o.slots }:=by
  rw [e]
  obtain ⟨c,d,dt,sl⟩:=o
  dsimp only at j hd g
  subst j hd g
  rfl
 refine call_meets F.slot_list_count ⟨_,i,rfl⟩ F.entry_list_count (F.args_list_count_2 _ _) (SeqAt.list_countAt a its.toArray n none o.slots u (eqU (.bl k))) ⟨i,fun z b=>mw m rfl r (by simp [gu]) z (by simpa using b),?_⟩
 rw [show its.toArray.toList=its from rfl,oX r]
 exact ⟨.int _,H,I.tok _,⟨_,rfl⟩,q⟩
theorem uy:CallR X (.builtin "repr") (fun xs H Q=>∃ t:Str,xs=[.str t]/\(reprText t).length<=sizeLine/\Q (.str (reprText t)) H):=by
 intro pins s σ H xs us Q I r h
 obtain ⟨t,rfl,b,q⟩:=h
 obtain ⟨u,rfl,a⟩:=eY r
 obtain ⟨tk,rfl⟩:=a
 exact PySem.P.repr_of_str ⟨.str _,H,I.tok _,⟨_,rfl⟩,q⟩ b
end
end L2
end
section
namespace L2
open PySem PySem.Spec PyProof.Rows
end L2
end
section
namespace L3
open PySem L2
theorem nsE {α:Type} {p:α} {P:Prop} (e:(none:Option α)=some p):P:=nomatch e
inductive D where
 | non | bl (b:Bool) | int (i:Int) | str (x:Str)
 | tup (xs:List D) | lst (xs:List D) | fls (xs:List D) | dk (kvs:List (Key × D)) | dt (kvs:List (List Key × D))
 | exc (c:String) (fs:List (String × D))
def jS:D->Bool
 | .lst _=>true
 | .dk _=>true
 | .dt _=>true
 | _=>false
def FzL (K:FG) (H:Hp) (a:Addr) (b:List V):Prop:=(∃ o,H a=some (.frz o (.lst b)))\/∃ (o:Obj) (its:Array Value) (n:Nat),K.lookup a=some o/\o.cls=.type "list"/\o.dict=none/\o.data=.seq its n/\its.size<=sizeLine/\Vals b its.toList
theorem FzL.sq (h:FzL K H a vs):SqL K H a vs:=h.elim (fun ⟨o,e⟩=>.inl (.inr ⟨o,e⟩)) .inr
inductive Reps (R:D->V->List Addr->Prop):List D->List V->List Addr->Prop where
 | nil:Reps R [] [] []
 | cons {d v L ds vs L'}:R d v L->Reps R ds vs L'->Reps R (d :: ds) (v :: vs) (L ++ L')
inductive Rep (K:FG) (H:Hp):D->V->List Addr->Prop where
 | non:Rep K H .non .non []
 | bl (b:Bool):Rep K H (.bl b) (.bl b) []
 | int (i:Int):Rep K H (.int i) (.int i) []
 | str (x:Str):Rep K H (.str x) (.str x) []
 | tup {xs a vs L}:H a=some (.tup vs)->Reps (Rep K H) xs vs L->Rep K H (.tup xs) (.ref a) L
 | lst {xs a vs L}:H a=some (.lst vs)->Reps (Rep K H) xs vs L->Rep K H (.lst xs) (.ref a) (a :: L)
 | lstF {xs a vs L}:FzL K H a vs->Reps (Rep K H) xs vs L->Rep K H (.fls xs) (.ref a) L
 | dK {kvs a ps L}:H a=some (.dK ps)->kvs.map (·.1)=ps.map (·.1)->Reps (Rep K H) (kvs.map (·.2)) (ps.map (·.2)) L->Rep K H (.dk kvs) (.ref a) (a :: L)
 | dT {kvs a ps L}:H a=some (.dT ps)->kvs.map (·.1)=ps.map (·.1)->Reps (Rep K H) (kvs.map (·.2)) (ps.map (·.2)) L->Rep K H (.dt kvs) (.ref a) (a :: L)
 | exc {c a D ob}:XName K c D->H a=some (lj ob a (.ref D))->Rep K H (.exc c []) (.ref a) []
def RepV (K:FG) (H:Hp) (d:D) (v:V) (L:List Addr):Prop:=match d with
 | .non=>v=.non/\L=[]
 | .bl b=>v=.bl b/\L=[]
 | .int i=>v=.int i/\L=[]
 | .str x=>v=.str x/\L=[]
 | .tup xs=>∃ a e,v=.ref a/\H a=some (.tup e)/\Reps (Rep K H) xs e L
 | .lst xs=>∃ a e L',v=.ref a/\L=a :: L'/\H a=some (.lst e)/\Reps (Rep K H) xs e L'
 | .fls xs=>∃ a e,v=.ref a/\FzL K H a e/\Reps (Rep K H) xs e L
 | .dk kvs=>∃ a ps L',v=.ref a/\L=a :: L'/\H a=some (.dK ps)/\kvs.map (·.1)=ps.map (·.1)/\Reps (Rep K H) (kvs.map (·.2)) (ps.map (·.2)) L'
 | .dt kvs=>∃ a ps L',v=.ref a/\L=a :: L'/\H a=some (.dT ps)/\kvs.map (·.1)=ps.map (·.1)/\Reps (Rep K H) (kvs.map (·.2)) (ps.map (·.2)) L'
 | .exc c fs=>fs=[]/\L=[]/\∃ a D ob,v=.ref a/\XName K c D/\H a=some (lj ob a (.ref D))
theorem Rep.view (r:Rep K H d v L):RepV K H d v L:=by
 cases r with
 | non=>exact ⟨rfl,rfl⟩
 | bl b=>exact ⟨rfl,rfl⟩
 | int i=>exact ⟨rfl,rfl⟩
 | str x=>exact ⟨rfl,rfl⟩
 | tup h r=>exact ⟨_,_,rfl,h,r⟩
 | lst h r=>exact ⟨_,_,_,rfl,rfl,h,r⟩
 | lstF h r=>exact ⟨_,_,rfl,h,r⟩
 | dK h k r=>exact ⟨_,_,_,rfl,rfl,h,k,r⟩
 | dT h k r=>exact ⟨_,_,_,rfl,rfl,h,k,r⟩
 | exc n h=>exact ⟨rfl,rfl,_,_,_,rfl,n,h⟩
def MutAt (H:Hp) (b:Addr):Prop:=(∃ xs,H b=some (.lst xs))\/(∃ ps,H b=some (.dK ps))\/∃ ps,H b=some (.dT ps)
theorem MutAt.ex (m:MutAt H b):∃ o,H b=some o:=by
 rcases m with ⟨_,h⟩ | ⟨_,h⟩ | ⟨_,h⟩ <;> exact ⟨_,h⟩
theorem MutAt.notup (m:MutAt H b) (h:H b=some (.tup vs)):False:=by
 rcases m with ⟨_,e⟩ | ⟨_,e⟩ | ⟨_,e⟩ <;> rw [e] at h <;> cases h
theorem MutAt.nofrz (m:MutAt H b) (h:H b=some (.frz o u)):False:=by
 rcases m with ⟨_,e⟩ | ⟨_,e⟩ | ⟨_,e⟩ <;> rw [e] at h <;> cases h
theorem FzL.keep {M:Addr->Prop} (h:FzL K H a vs) (k:∀ b o,H b=some o->¬ M b->H' b=some o) (hm:∀ b,M b->MutAt H b):FzL K H' a vs:=h.elim (fun ⟨o,e⟩=>.inl ⟨o,k a _ e fun z=>(hm a z).nofrz e⟩) .inr
section
variable {K:FG} {H H':Hp} {d:D} {v:V} {L:List Addr}
theorem Rep.inH (r:Rep K H d v L):∀ b ∈ L,MutAt H b:=by
 refine Rep.rec (motive_1:=fun _ _ L _=>∀ b ∈ L,MutAt H b) (motive_2:=fun _ _ L _=>∀ b ∈ L,MutAt H b) ?_ ?_ ?_ ?_ ?_ ?_ ?_ ?_ ?_ ?_ ?_ ?_ r
 ·intro b a;cases a
 ·intro _ b a;cases a
 ·intro _ b a;cases a
 ·intro _ b a;cases a
 ·intro _ _ _ _ _ _ c;exact c
 ·intro _ _ _ _ h _ c b a
  rcases Gh.mp a with e | a
  ·rw [e];exact .inl ⟨_,h⟩
  ·exact c b a
 ·intro _ _ _ _ _ _ c;exact c
 ·intro _ _ _ _ h _ _ c b a
  rcases Gh.mp a with e | a
  ·rw [e];exact .inr (.inl ⟨_,h⟩)
  ·exact c b a
 ·intro _ _ _ _ h _ _ c b a
  rcases Gh.mp a with e | a
  ·rw [e];exact .inr (.inr ⟨_,h⟩)
  ·exact c b a
 ·intro _ _ _ _ _ _ b a;cases a
 ·intro b a;cases a
 ·grind
theorem Reps.inH (r:Reps (Rep K H) ds vs L):∀ b ∈ L,MutAt H b:=by
 induction r with
 | nil=>intro b a;cases a
 | cons r _ ih =>
  intro b a
  rcases Gk.mp a with h | h
  ·exact r.inH b h
  ·exact ih b h
theorem Rep.keep {M:Addr->Prop} (k:∀ b o,H b=some o->¬ M b->H' b=some o) (hm:∀ b,M b->MutAt H b) (r:Rep K H d v L):(∀ b ∈ L,¬ M b)->Rep K H' d v L:=by
 refine Rep.rec (motive_1:=fun d v L _=>(∀ b ∈ L,¬ M b)->Rep K H' d v L) (motive_2:=fun ds j L _=>(∀ b ∈ L,¬ M b)->Reps (Rep K H') ds j L) ?_ ?_ ?_ ?_ ?_ ?_ ?_ ?_ ?_ ?_ ?_ ?_ r
 ·intro _;exact .non
 ·intro b _;exact .bl b
 ·intro b _;exact .int b
 ·intro b _;exact .str b
 ·intro xs a j L h _ g f
  exact .tup (k a _ h fun z=>(hm a z).notup h) (g f)
 ·intro xs a j L h _ g f
  exact .lst (k a _ h (f a Ga)) (g fun b i=>f b (Gb _ i))
 ·intro xs a j L h _ g f
  exact .lstF (h.keep k hm) (g f)
 ·intro kvs a ps L h e _ g f
  exact .dK (k a _ h (f a Ga)) e (g fun b i=>f b (Gb _ i))
 ·intro kvs a ps L h e _ g f
  exact .dT (k a _ h (f a Ga)) e (g fun b i=>f b (Gb _ i))
 ·intro c a D ob n h _
  exact .exc n (k a _ h fun z=>(hm a z).nofrz h)
 ·intro _;exact .nil
 ·intro d v L ds j L' _ _ m l f
  exact .cons (m fun b i=>f b (Gf _ i)) (l fun b i=>f b (Gg _ i))
theorem Rep.same (r:Rep K H d v L) (s:Same H H'):Rep K H' d v L:=r.keep (M:=fun _=>False) (fun b o h _=>s b o h) (fun _ z=>z.elim) fun _ _ z=>z
theorem Reps.keep {M:Addr->Prop} (k:∀ b o,H b=some o->¬ M b->H' b=some o) (hm:∀ b,M b->MutAt H b) (r:Reps (Rep K H) ds vs L):(∀ b ∈ L,¬ M b)->Reps (Rep K H') ds vs L:=by
 induction r with
 | nil=>intro _;exact .nil
 | cons r _ ih=>intro c;exact .cons (r.keep k hm fun b a=>c b (Gf _ a)) (ih fun b a=>c b (Gg _ a))
theorem Reps.same (r:Reps (Rep K H) ds vs L) (s:Same H H'):Reps (Rep K H') ds vs L:=r.keep (M:=fun _=>False) (fun b o h _=>s b o h) (fun _ z=>z.elim) fun _ _ z=>z
end
inductive Fl where
 | u | l | z
 deriving DecidableEq
structure It3 where
 d:D
 v:V
 L:List Addr
 f:Fl
abbrev Sto:=List (Option (D × Fl))
structure Gm where
 H0:Hp
 bw:Addr->Prop
 pr:Nat->Bool
 σ0:St
 orig:Hp
 src:Addr->Prop
 lv:Nat->Option V
def OwnOk (G:Gm) (x:It3):Prop:=jS x.d=true/\∃ a L',x.v=.ref a/\x.L=a :: L'/\a ∉ L'/\(x.f=.u->G.H0 a=none\/G.bw a)
structure ItOk (K:FG) (G:Gm) (H:Hp) (x:It3):Prop where
 rep:Rep K H x.d x.v x.L
 own:x.f ≠ .z->OwnOk G x
 src:∀ c ∈ x.L,G.H0 c=none\/G.src c
structure Fx (G:Gm) (H:Hp) (T:List It3) (g:Nat->Option It3):Prop where
 frT:∀ x ∈ T,x.f ≠ .z->∀ a,x.v=.ref a->G.orig a=none
 frS:∀ i x,g i=some x->G.pr i=false->x.f ≠ .z->∀ a,x.v=.ref a->G.orig a=none
 bin:∀ b,G.bw b->∃ o,H b=some o
 ob:∀ b o,G.orig b=some o->∃ o',H b=some o'
 lvS:∀ i x,g i=some x->x.f=.l->G.lv i=some x.v
def NoRoot (x y:It3):Prop:=x.f ≠ .z->∀ a,x.v=.ref a->a ∉ y.L
def Apart3 (x y:It3):Prop:=NoRoot x y/\NoRoot y x
structure Wf (K:FG) (G:Gm) (H:Hp) (σ:St) (ρ:Sto) (T:List It3) (g:Nat->Option It3):Prop where
 len:σ.length = ρ.length
 sl:∀ i,(g i).map (fun x=>(x.d,x.f))=(ρ[i]?).join
 sv:∀ i x,g i=some x->σ[i]?=some (some x.v)
 okS:∀ i x,g i=some x->ItOk K G H x
 okT:∀ x ∈ T,ItOk K G H x
 ss:∀ i j x y,i ≠ j->g i=some x->g j=some y->NoRoot x y
 st:∀ i x,g i=some x->∀ y ∈ T,Apart3 x y
 tt:T.Pairwise Apart3
 base:∀ b o,G.H0 b=some o->¬ G.bw b->H b=some o
 pro:∀ i,G.pr i=true->σ[i]?=G.σ0[i]?
 fx:Fx G H T g
structure Le (K:FG) (G:Gm) (W:D->Sto->Prop) (G0:Gm) (W0:D->Sto->Prop):Prop where
 pr:G.pr=G0.pr
 ex:∀ (H:Hp) (σ:St) (ρ:Sto) (T:List It3) (g:Nat->Option It3) (e:D),Wf K G H σ ρ T g->W e ρ->∃ ρ0 T0 g0,Wf K G0 H σ ρ0 T0 g0/\W0 e ρ0
theorem Le.refl (K:FG) (G:Gm) (W:D->Sto->Prop):Le K G W G W:=⟨rfl,fun _ _ ρ T g _ w h=>⟨ρ,T,g,w,h⟩⟩
theorem Le.trans (a:Le K G W G1 W1) (b:Le K G1 W1 G2 W2):Le K G W G2 W2:=⟨a.pr.trans b.pr,fun H σ ρ T g e w h=>by
 obtain ⟨ρ1,d,g1,c,h1⟩:=a.ex H σ ρ T g e w h
 exact b.ex H σ ρ1 d g1 e c h1⟩
section
variable {K:FG} {G:Gm} {H H':Hp} {σ:St} {ρ:Sto} {T T':List It3} {g:Nat->Option It3} {x y z:It3}
theorem ItOk.keep {M:Addr->Prop} (h:ItOk K G H x) (k:∀ b o,H b=some o->¬ M b->H' b=some o) (hm:∀ b,M b->MutAt H b) (a:∀ b ∈ x.L,¬ M b):ItOk K G H' x:=⟨h.rep.keep k hm a,h.own,h.src⟩
theorem ItOk.same (h:ItOk K G H x) (s:Same H H'):ItOk K G H' x:=⟨h.rep.same s,h.own,h.src⟩
theorem Fx.more (f:Fx G H T g) (s:∀ b o,H b=some o->∃ o',H' b=some o'):Fx G H' T g:=⟨f.frT,f.frS,fun b h=>let ⟨o,e⟩:=f.bin b h;s b o e,fun b o h=>let ⟨o',e⟩:=f.ob b o h;s b o' e,f.lvS⟩
theorem Fx.sub (f:Fx G H T g) (h:∀ x ∈ T',x ∈ T):Fx G H T' g:=⟨fun x a=>f.frT x (h x a),f.frS,f.bin,f.ob,f.lvS⟩
theorem Wf.grow (w:Wf K G H σ ρ T g) (s:Same H H'):Wf K G H' σ ρ T g :=
 ⟨w.len,w.sl,w.sv,fun i x e=>(w.okS i x e).same s,fun x a=>(w.okT x a).same s,w.ss,w.st,w.tt,fun b o e n=>s b o (w.base b o e n),w.pro,w.fx.more fun b o h=>⟨o,s b o h⟩⟩
theorem Wf.sub (w:Wf K G H σ ρ T g) (h:T'.Sublist T):Wf K G H σ ρ T' g :=
 ⟨w.len,w.sl,w.sv,w.okS,fun x a=>w.okT x (h.subset a),w.ss,fun i x e y b=>w.st i x e y (h.subset b),w.tt.sublist h,w.base,w.pro,w.fx.sub fun x a=>h.subset a⟩
def Itm (T:List It3) (g:Nat->Option It3) (y:It3):Prop:=(∃ i,g i=some y)\/y ∈ T
def dG (T:List It3) (g:Nat->Option It3) (c:Addr):Prop:=(∀ i z,g i=some z->z.f ≠ .z->z.v ≠ .ref c)/\∀ z ∈ T,z.f ≠ .z->z.v ≠ .ref c
theorem Wf.itm (w:Wf K G H σ ρ T g) (h:Itm T g y):ItOk K G H y:=by
 rcases h with ⟨i,e⟩ | h
 ·exact w.okS i y e
 ·exact w.okT y h
theorem pH {α:Type} {R:α->α->Prop} {l:List α} (p:l.Pairwise R) (e:∀ a b,R a b->R b a):∀ a ∈ l,∀ b ∈ l,a ≠ b->R a b:=by
 induction p with
 | nil=>intro a d;cases d
 | @cons c l hc _ ih =>
  grind
theorem Apart3.symm (h:Apart3 x y):Apart3 y x:=⟨h.2,h.1⟩
theorem Wf.kid (w:Wf K G H σ ρ T g) (h:Itm T g y) (b:c ∈ y.L) (l:y.f ≠ .z->y.v ≠ .ref c):dG T g c:=by
 refine ⟨fun i z e hz a=>?_,fun z hm hz a=>?_⟩
 ·rcases h with ⟨j,k⟩ | d
  ·by_cases m:i=j
   ·grind
   ·exact w.ss i j z y m e k hz c a b
  ·exact (w.st i z e y d).1 hz c a b
 ·rcases h with ⟨j,k⟩ | d
  ·exact (w.st j y k z hm).2 hz c a b
  ·by_cases e:z=y
   ·subst e;exact l hz a
   ·exact (pH w.tt (fun _ _=>Apart3.symm) z hm y d e).1 hz c a b
structure New (K:FG) (H H':Hp) (Ks:Addr->Prop) (x:It3):Prop where
 same:Same H H'
 rep:Rep K H' x.d x.v x.L
 sub:∀ c ∈ x.L,H c=none\/Ks c
 own:x.f ≠ .z->jS x.d=true/\∃ a L',x.v=.ref a/\x.L=a :: L'/\a ∉ L'/\H a=none
theorem Wf.h0none (w:Wf K G H σ ρ T g) (h:H a=none):G.H0 a=none:=by
 cases e:G.H0 a with
 | none=>rfl
 | some o =>
  by_cases b:G.bw a
  ·obtain ⟨o,e⟩:=w.fx.bin a b
   rw [h] at e;cases e
  ·have:=w.base a o e b
   rw [h] at this;cases this
theorem Wf.ornone (w:Wf K G H σ ρ T g) (h:H a=none):G.orig a=none:=by
 cases e:G.orig a with
 | none=>rfl
 | some o =>
  obtain ⟨o,e⟩:=w.fx.ob a o e
  rw [h] at e;cases e
theorem Wf.push (w:Wf K G H σ ρ T g) (n:New K H H' Ks x) (q:∀ c,Ks c->dG T g c/\(G.H0 c=none\/G.src c)):Wf K G H' σ ρ (x :: T) g:=by
 have d:=w.grow n.same
 have a1:∀ y:It3,ItOk K G H y->(∀ c,Ks c->y.f ≠ .z->y.v ≠ .ref c)->Apart3 y x:=fun y m b=>by
  refine ⟨fun hf a e hm=>?_,fun hf a e hm=>?_⟩
  ·obtain ⟨_,u,L',e1,j,_,_⟩:=m.own hf
   rw [e] at e1
   cases e1
   rcases n.sub a hm with h | h
   ·obtain ⟨o,k⟩:=(m.rep.inH a (by rw [j];exact Ga)).ex
    rw [h] at k;cases k
   ·exact b a h hf e
  ·obtain ⟨_,u,L',e1,j,_,h⟩:=n.own hf
   rw [e] at e1
   cases e1
   obtain ⟨o,k⟩:=(m.rep.inH a hm).ex
   rw [h] at k;cases k
 refine ⟨d.len,d.sl,d.sv,d.okS,?_,d.ss,?_,?_,d.base,d.pro,⟨fun y b hf a t=>?_,d.fx.frS,d.fx.bin,d.fx.ob,d.fx.lvS⟩⟩
 ·intro y b
  rcases Gh.mp b with rfl | b
  ·refine ⟨n.rep,fun hf=>?_,fun c l=>?_⟩
   ·obtain ⟨r,a,L',e1,j,s,p⟩:=n.own hf
    exact ⟨r,a,L',e1,j,s,fun _=>.inl (w.h0none p)⟩
   ·rcases n.sub c l with h | h
    ·exact .inl (w.h0none h)
    ·exact (q c h).2
  ·exact d.okT y b
 ·intro i z e y b
  rcases Gh.mp b with rfl | b
  ·exact a1 z (w.okS i z e) fun c l=>(q c l).1.1 i z e
  ·exact d.st i z e y b
 ·refine List.pairwise_cons.mpr ⟨fun y b=>(a1 y (w.okT y b) fun c l=>(q c l).1.2 y b).symm,d.tt⟩
 ·rcases Gh.mp b with h | b
  ·subst h
   obtain ⟨r,u,L',e1,j,s,p⟩:=n.own hf
   rw [t] at e1
   cases e1
   exact w.ornone p
  ·exact d.fx.frT y b hf a t
def dw (ys:List It3) (c:Addr):Prop:=∃ y ∈ ys,c ∈ y.L/\(y.f ≠ .z->y.v ≠ .ref c)
theorem Wf.kids (w:Wf K G H σ ρ T g) (a:∀ y ∈ ys,Itm T g y) (h:dw ys c):dG T g c/\(G.H0 c=none\/G.src c):=by
 obtain ⟨y,m,b,d⟩:=h
 exact ⟨w.kid (a y m) b d,(w.itm (a y m)).src c b⟩
structure Arg (K:FG) (H:Hp) (p:It3):Prop where
 rep:Rep K H p.d p.v p.L
 own:p.f ≠ .z->jS p.d=true/\∃ a L',p.v=.ref a/\p.L=a :: L'/\a ∉ L'
theorem ItOk.arg (h:ItOk K G H x):Arg K H x:=⟨h.rep,fun hf=>by
 obtain ⟨m,a,L',v1,v2,v3,_⟩:=h.own hf
 exact ⟨m,a,L',v1,v2,v3⟩⟩
end
end L3
end
section
namespace L3
open PySem L2
inductive R3 where
 | pl (i:Nat) | val (d:D) (f:Fl)
abbrev M3 (α:Type):=Sto->Option (Except D α × Sto)
abbrev EM:=M3 R3
noncomputable def af {α β:Type} (m:M3 α) (k:α->M3 β):M3 β:=fun ρ=>match m ρ with
 | none=>none
 | some (.error e,ρ')=>some (.error e,ρ')
 | some (.ok a,ρ')=>k a ρ'
noncomputable def aZ {α:Type} (a:α):M3 α:=fun ρ=>some (.ok a,ρ)
noncomputable def ba {α:Type} (o:Option α):M3 α:=fun ρ=>o.map fun a=>(.ok a,ρ)
noncomputable def der (r:R3):M3 D:=fun ρ=>match r with
 | .pl i=>((ρ[i]?).join).map fun p=>(.ok p.1,ρ)
 | .val d _=>some (.ok d,ρ)
inductive Ar (σ:St):R3->V->List It3->Prop where
 | pl {i:Nat} {v:V}:σ[i]?=some (some v)->Ar σ (.pl i) v []
 | val (x:It3):Ar σ (.val x.d x.f) x.v [x]
def Got (K:FG) (G:Gm) (σ:St) (ρ:Sto) (T:List It3) (r:R3) (v:V) (H:Hp):Prop:=∃ Ts g,Wf K G H σ ρ (Ts ++ T) g/\Ar σ r v Ts
def tE (K:FG) (G0:Gm) (W0:D->Sto->Prop) (m:EM):TE:=fun σ H Q=>∃ G W,Le K G W G0 W0/\∃ ρ T g r ρ',Wf K G H σ ρ T g/\m ρ=some (r,ρ')/\match r with
 | .ok r=>∀ v H',Got K G σ ρ' T r v H'->Q v H'
 | .error e=>W e ρ'
def tT (K:FG) (G0:Gm) (W0:D->Sto->Prop) (m:M3 Bool):TT:=fun σ H Q=>∃ G W,Le K G W G0 W0/\∃ ρ T g r ρ',Wf K G H σ ρ T g/\m ρ=some (r,ρ')/\match r with
 | .ok b=>∀ H' g',Wf K G H' σ ρ' T g'->Q b H'
 | .error e=>W e ρ'
inductive Ars (σ:St):List R3->List V->List It3->Prop where
 | nil:Ars σ [] [] []
 | cons {r v Ts rs vs Us}:Ar σ r v Ts->Ars σ rs vs Us->Ars σ (r :: rs) (v :: vs) (Us ++ Ts)
def tA (K:FG) (G0:Gm) (W0:D->Sto->Prop) (m:M3 (List R3)):TA:=fun σ H Q=>∃ G W,Le K G W G0 W0/\∃ ρ T g r ρ',Wf K G H σ ρ T g/\m ρ=some (r,ρ')/\match r with
 | .ok rs=>∀ a H' Ts g',Wf K G H' σ ρ' (Ts ++ T) g'->Ars σ rs a Ts->Q a H'
 | .error e=>W e ρ'
inductive Flw where
 | nx | br | ct | rt (d:D) (f:Fl)
abbrev SM:=M3 Flw
def tS (K:FG) (G0:Gm) (W0:D->Sto->Prop) (m:SM):TS:=fun E σ H=>∃ G W,Le K G W G0 W0/\∃ ρ T g r ρ',Wf K G H σ ρ T g/\m ρ=some (r,ρ')/\match r with
 | .ok .nx=>∀ σ' H' g',Wf K G H' σ' ρ' T g'->E.nx σ' H'
 | .ok .br=>∀ σ' H' g',Wf K G H' σ' ρ' T g'->E.bk σ' H'
 | .ok .ct=>∀ σ' H' g',Wf K G H' σ' ρ' T g'->E.ct σ' H'
 | .ok (.rt d f)=>∀ x σ' H' g',Wf K G H' σ' ρ' (x :: T) g'->x.d=d->x.f=f->E.rt x.v H'
 | .error e=>W e ρ'
section
variable {K:FG} {G G0:Gm} {W W0:D->Sto->Prop} {H H':Hp} {σ:St} {ρ ρ':Sto} {T T':List It3} {g:Nat->Option It3} {x y z:It3} {α β:Type}
theorem aW (e:af (der r) k ρ=some (o,ρ')):∃ d,der r ρ=some (.ok d,ρ)/\k d ρ=some (o,ρ'):=by
 cases r with
 | pl i =>
  have a:der (.pl i) ρ=((ρ[i]?).join).map fun p=>(.ok p.1,ρ):=rfl
  unfold af at e
  rw [a] at e ⊢
  cases h:(ρ[i]?).join with
  | none=>rw [h] at e;exact nsE e
  | some p=>rw [h] at e;exact ⟨p.1,rfl,e⟩
 | val d f=>exact ⟨d,rfl,e⟩
theorem bN (e:ba o ρ=some (r,ρ')):∃ a,o=some a/\r=.ok a/\ρ' = ρ:=by
 unfold ba at e
 cases o with
 | none=>exact nsE e
 | some a=>cases e;exact ⟨a,rfl,rfl,rfl⟩
theorem Wf.slot (w:Wf K G H σ ρ T g) {i:Nat} (e:(ρ[i]?).join=some (d,f)):∃ y,g i=some y/\y.d=d/\y.f=f/\σ[i]?=some (some y.v):=by
 have h:=w.sl i
 rw [e] at h
 cases q:g i with
 | none=>rw [q] at h;exact nsE h
 | some y =>
  rw [q] at h
  cases h
  exact ⟨y,rfl,rfl,rfl,w.sv i y q⟩
theorem Ar.item (w:Wf K G H σ ρ T g) (a:Ar σ r v Ts) (k:∀ x ∈ Ts,x ∈ T) (e:der r ρ=some (.ok d,ρ)):∃ y,Itm T g y/\y.d=d/\y.v=v:=by
 cases a with
 | @pl i v h =>
  have l:der (.pl i) ρ=((ρ[i]?).join).map fun p=>(.ok p.1,ρ):=rfl
  rw [l] at e
  cases q:(ρ[i]?).join with
  | none=>rw [q] at e;exact nsE e
  | some p =>
   rw [q] at e
   obtain ⟨y,e1,j,m,b⟩:=w.slot (d:=p.1) (f:=p.2) q
   have c:p.1=d:=by cases e;rfl
   rw [h] at b
   refine ⟨y,.inl ⟨i,e1⟩,j.trans c,?_⟩
   cases b;rfl
 | val x=>cases e;exact ⟨x,.inr (k x (by simp)),rfl,rfl⟩
theorem Wf.done (w:Wf K G H σ ρ (Us ++ T) g) (a:∀ y ∈ ys,Itm (Us ++ T) g y) (n:New K H H' (dw ys) x):Got K G σ ρ T (.val x.d x.f) x.v H' :=
 ⟨[x],g,(w.push n fun c h=>w.kids a h).sub (by simpa using List.Sublist.cons_cons x (Gr Us T)),.val x⟩
theorem tE.seq (le:Le K G W G0 W0) (w:Wf K G H σ ρ T g) (e:af ma k ρ=some (r,ρ')) (he:∀ x,r=.error x->W x ρ') (h:∀ ra ρ1,k ra ρ1=some (r,ρ')->∀ v H1,Got K G σ ρ1 T ra v H1->P v H1):tE K G0 W0 ma σ H P:=by
 unfold af at e
 cases q:ma ρ with
 | none=>rw [q] at e;exact nsE e
 | some p =>
  obtain ⟨o,ρ1⟩:=p
  rw [q] at e
  cases o with
  | error x=>cases e;exact ⟨G,W,le,ρ,T,g,.error x,ρ',w,q,he x rfl⟩
  | ok ra=>exact ⟨G,W,le,ρ,T,g,.ok ra,ρ1,w,q,h ra ρ1 e⟩
theorem tT.seq (le:Le K G W G0 W0) (w:Wf K G H σ ρ T g) (e:af ma k ρ=some (r,ρ')) (he:∀ x,r=.error x->W x ρ') (h:∀ b ρ1,k b ρ1=some (r,ρ')->∀ H1 g1,Wf K G H1 σ ρ1 T g1->P b H1):tT K G0 W0 ma σ H P:=by
 unfold af at e
 cases q:ma ρ with
 | none=>rw [q] at e;exact nsE e
 | some p =>
  obtain ⟨o,ρ1⟩:=p
  rw [q] at e
  cases o with
  | error x=>cases e;exact ⟨G,W,le,ρ,T,g,.error x,ρ',w,q,he x rfl⟩
  | ok ra=>exact ⟨G,W,le,ρ,T,g,.ok ra,ρ1,w,q,h ra ρ1 e⟩
theorem tA.seq (le:Le K G W G0 W0) (w:Wf K G H σ ρ T g) (e:af ma k ρ=some (r,ρ')) (he:∀ x,r=.error x->W x ρ') (h:∀ rs ρ1,k rs ρ1=some (r,ρ')->∀ a H1 Ts g1,Wf K G H1 σ ρ1 (Ts ++ T) g1->Ars σ rs a Ts->P a H1):tA K G0 W0 ma σ H P:=by
 unfold af at e
 cases q:ma ρ with
 | none=>rw [q] at e;exact nsE e
 | some p =>
  obtain ⟨o,ρ1⟩:=p
  rw [q] at e
  cases o with
  | error x=>cases e;exact ⟨G,W,le,ρ,T,g,.error x,ρ',w,q,he x rfl⟩
  | ok ra=>exact ⟨G,W,le,ρ,T,g,.ok ra,ρ1,w,q,h ra ρ1 e⟩
def EndE (K:FG) (G:Gm) (W:D->Sto->Prop) (σ:St) (T:List It3) (ρ':Sto) (Q:VK):Except D R3->Prop
 | .ok r=>∀ v H',Got K G σ ρ' T r v H'->Q v H'
 | .error e=>W e ρ'
theorem EndE.err (h:EndE K G W σ T ρ' Q r):∀ x,r=.error x->W x ρ':=by
 intro x e;subst e;exact h
theorem tE.open (h:tE K G0 W0 m σ H Q):∃ G W,Le K G W G0 W0/\∃ ρ T g r ρ',Wf K G H σ ρ T g/\m ρ=some (r,ρ')/\EndE K G W σ T ρ' Q r:=by
 obtain ⟨G,W,le,ρ,T,g,r,ρ',w,e,q⟩:=h
 refine ⟨G,W,le,ρ,T,g,r,ρ',w,e,?_⟩
 cases r with
 | ok r=>exact q
 | error x=>exact q
theorem tE.use (h:tE K G0 W0 m σ H Q) {P:Prop} (k:∀ G W,Le K G W G0 W0->∀ ρ T g r ρ',Wf K G H σ ρ T g->m ρ=some (r,ρ')->EndE K G W σ T ρ' Q r->P):P:=by
 obtain ⟨G,W,le,ρ,T,g,r,ρ',w,e,q⟩:=h.open
 exact k G W le ρ T g r ρ' w e q
theorem tE.mk (le:Le K G W G0 W0) (w:Wf K G H σ ρ T g) (e:m ρ=some (r,ρ')) (h:EndE K G W σ T ρ' Q r):tE K G0 W0 m σ H Q:=by
 refine ⟨G,W,le,ρ,T,g,r,ρ',w,e,?_⟩
 cases r with
 | ok r=>exact h
 | error x=>exact h
def ac (i:Nat):EM:=fun ρ=>((ρ[i]?).join).map fun _=>(.ok (.pl i),ρ)
theorem DP {i:Nat} (h:tE K G0 W0 (ac i) σ H Q):wr i σ H Q:=by
 refine h.use fun G W le ρ T g r ρ' w e q=>?_
 unfold ac at e
 cases h:(ρ[i]?).join with
 | none=>rw [h] at e;exact nsE e
 | some p =>
  rw [h] at e
  cases e
  obtain ⟨y,_,_,_,a⟩:=w.slot (d:=p.1) (f:=p.2) h
  exact ⟨y.v,a,q y.v H ⟨[],g,w,.pl a⟩⟩
def mC (d:D):EM:=aZ (.val d .z)
theorem Wf.const (w:Wf K G H σ ρ T g) (r:Rep K H d v []):Got K G σ ρ T (.val d .z) v H :=
 Wf.done (Us:=[]) (ys:=[]) (x:=⟨d,v,[],.z⟩) w (fun _ h=>(by cases h)) ⟨Same.refl _,r,fun _ h=>(by cases h),fun h=>absurd rfl h⟩
theorem hJ (r:∀ H,Rep K H d v []) (h:tE K G0 W0 (mC d) σ H Q):tC v σ H Q:=by
 refine h.use fun G W le ρ T g o ρ' w e q=>?_
 cases e
 exact q v H (w.const (r H))
def aj (f:D->D->Option (D × Fl)) (ma mb:EM):EM:=af ma fun ra=>af mb fun rb=>af (der ra) fun da=>af (der rb) fun db=>ba ((f da db).map fun p=>R3.val p.1 p.2)
def OpD (K:FG) (r:R2) (f:D->D->Option (D × Fl)):Prop:=∀ (a b:It3) (H:Hp) (Q:VK) (p:D × Fl),Arg K H a->Arg K H b->f a.d b.d=some p ->
 (∀ w H',New K H H' (dw [a,b]) w->w.d=p.1->w.f=p.2->Q w.v H')->r a.v b.v H Q
theorem oV (w:Wf K G H σ ρ (Us ++ T) g) (c:∀ y ∈ ys,Itm (Us ++ T) g y) (q:EndE K G W σ T ρ Q (.ok (.val d f))) :
  ∀ a H',New K H H' (dw ys) a->a.d=d->a.f=f->Q a.v H':=by
 intro a H' n e1 b
 subst e1 b
 exact q a.v H' (w.done c n)
theorem pe (C:OpD K r f) (h:tE K G0 W0 (aj f ma mb) σ H Q):tOp r (tE K G0 W0 ma) (tE K G0 W0 mb) σ H Q:=by
 refine h.use fun G W le ρ T g o ρ' w e q=>?_
 refine tE.seq le w e q.err fun ra ρ1 e1 F H1 ⟨Ts,g1,B,a1⟩=>?_
 refine tE.seq le B e1 q.err fun rb ρ2 A E H2 ⟨Us,g2,a,a2⟩=>?_
 obtain ⟨da,D,z⟩:=aW A
 obtain ⟨db,t,v⟩:=aW z
 obtain ⟨p,b,rfl,rfl⟩:=bN v
 obtain ⟨m,l,f1,f2⟩:=a1.item a (fun x c=>Gg _ (Gf _ c)) D
 obtain ⟨n,i,u,f4⟩:=a2.item a (fun x c=>Gf _ c) t
 subst f1 f2 u f4
 cases k:f m.d n.d with
 | none=>rw [k] at b;exact nsE b
 | some s =>
  rw [k] at b
  cases b
  rw [<- List.append_assoc] at a l i
  refine C m n H2 Q s (a.itm l).arg (a.itm i).arg k (oV a (fun y j=>?_) q)
  rcases Gh.mp j with h | j
  ·rw [h];exact l
  ·rw [GK.mp j];exact i
def mUn (f:D->Option (D × Fl)) (ma:EM):EM:=af ma fun ra=>af (der ra) fun da=>ba ((f da).map fun p=>R3.val p.1 p.2)
def UnD (K:FG) (r:V->Hp->VK->Prop) (f:D->Option (D × Fl)):Prop:=∀ (a:It3) (H:Hp) (Q:VK) (p:D × Fl),Arg K H a->f a.d=some p ->
 (∀ w H',New K H H' (dw [a]) w->w.d=p.1->w.f=p.2->Q w.v H')->r a.v H Q
theorem yk (m:UnD K r f) (h:tE K G0 W0 (mUn f ma) σ H Q):tUn r (tE K G0 W0 ma) σ H Q:=by
 refine h.use fun G W le ρ T g o ρ' w e q=>?_
 refine tE.seq le w e q.err fun ra ρ1 e1 u H1 ⟨Ts,g1,b,a1⟩=>?_
 obtain ⟨da,t,k⟩:=aW e1
 obtain ⟨p,a,rfl,rfl⟩:=bN k
 obtain ⟨i,j,f1,f2⟩:=a1.item b (fun x l=>Gf _ l) t
 subst f1 f2
 cases c:f i.d with
 | none=>rw [c] at a;exact nsE a
 | some s =>
  rw [c] at a
  cases a
  exact m i H1 Q s (b.itm j).arg c (oV b (fun y n=>by rw [GK.mp n];exact j) q)
def ag:M3 (List R3):=aZ []
def aa (m:EM) (ms:M3 (List R3)):M3 (List R3):=af m fun r=>af ms fun rs=>aZ (r :: rs)
def EndA (K:FG) (G:Gm) (W:D->Sto->Prop) (σ:St) (T:List It3) (ρ':Sto) (Q:List V->Hp->Prop):Except D (List R3)->Prop
 | .ok rs=>∀ a H' Ts g',Wf K G H' σ ρ' (Ts ++ T) g'->Ars σ rs a Ts->Q a H'
 | .error e=>W e ρ'
theorem EndA.err (h:EndA K G W σ T ρ' Q r):∀ x,r=.error x->W x ρ':=by
 intro x e;subst e;exact h
theorem tA.open (h:tA K G0 W0 m σ H Q):∃ G W,Le K G W G0 W0/\∃ ρ T g r ρ',Wf K G H σ ρ T g/\m ρ=some (r,ρ')/\EndA K G W σ T ρ' Q r:=by
 obtain ⟨G,W,le,ρ,T,g,r,ρ',w,e,q⟩:=h
 refine ⟨G,W,le,ρ,T,g,r,ρ',w,e,?_⟩
 cases r with
 | ok r=>exact q
 | error x=>exact q
theorem tA.use (h:tA K G0 W0 m σ H Q) {P:Prop} (k:∀ G W,Le K G W G0 W0->∀ ρ T g r ρ',Wf K G H σ ρ T g->m ρ=some (r,ρ')->EndA K G W σ T ρ' Q r->P):P:=by
 obtain ⟨G,W,le,ρ,T,g,r,ρ',w,e,q⟩:=h.open
 exact k G W le ρ T g r ρ' w e q
theorem DX (h:tA K G0 W0 ag σ H Q):tNil σ H Q:=by
 refine h.use fun G W le ρ T g r ρ' w e q=>?_
 cases e
 exact q [] H [] g w .nil
theorem Bh (h:tA K G0 W0 (aa m ms) σ H Q):C9 (tE K G0 W0 m) (tA K G0 W0 ms) σ H Q:=by
 refine h.use fun G W le ρ T g r ρ' w e q=>?_
 refine tE.seq le w e q.err fun ra ρ1 e1 d H1 ⟨Ts,g1,b,a1⟩=>?_
 refine tA.seq le b e1 q.err fun rs ρ2 a f H2 Us g2 c a2=>?_
 cases a
 refine q (d :: f) H2 (Us ++ Ts) g2 ?_ (.cons a1 a2)
 rw [List.append_assoc]
 exact c
def cR:List R3->M3 (List D)
 | []=>aZ []
 | r :: rs=>af (der r) fun d=>af (cR rs) fun ds=>aZ (d :: ds)
theorem vQ:∀ {rs:List R3} {ρ ρ':Sto} {o:Except D (List D)},cR rs ρ=some (o,ρ')->∃ ds,o=.ok ds/\ρ' = ρ
 | [],ρ,ρ',o,e=>by cases e;exact ⟨[],rfl,rfl⟩
 | r :: rs,ρ,ρ',o,e=>by
  obtain ⟨d,e1,a⟩:=aW (k:=fun d=>af (cR rs) fun ds=>aZ (d :: ds)) e
  unfold af at a
  cases q:cR rs ρ with
  | none=>rw [q] at a;exact nsE a
  | some p =>
   obtain ⟨o',ρ1⟩:=p
   obtain ⟨ds,rfl,rfl⟩:=vQ q
   rw [q] at a
   cases a
   exact ⟨d :: ds,rfl,rfl⟩
theorem bK (e:af (cR rs) k ρ=some (o,ρ')):∃ ds,cR rs ρ=some (.ok ds,ρ)/\k ds ρ=some (o,ρ'):=by
 unfold af at e
 cases q:cR rs ρ with
 | none=>rw [q] at e;exact nsE e
 | some p =>
  obtain ⟨o',ρ1⟩:=p
  obtain ⟨ds,rfl,rfl⟩:=vQ q
  rw [q] at e
  exact ⟨ds,rfl,e⟩
theorem Ars.items:∀ {rs:List R3} {c:List V} {Ts:List It3} {ds:List D} ,Wf K G H σ ρ T g->Ars σ rs c Ts->(∀ x ∈ Ts,x ∈ T)->cR rs ρ=some (.ok ds,ρ)->∃ ys:List It3,(∀ y ∈ ys,Itm T g y)/\ys.map (·.d)=ds/\ys.map (·.v)=c
 | [],_,_,ds,w,.nil,_,e=>by cases e;exact ⟨[],fun _ h=>(by cases h),rfl,rfl⟩
 | r :: rs,_,_,ds,w,.cons a as,hs,e=>by
  obtain ⟨d,e1,i⟩:=aW (k:=fun d=>af (cR rs) fun ds=>aZ (d :: ds)) e
  obtain ⟨o,f,m⟩:=bK i
  cases m
  obtain ⟨y,n,f1,f2⟩:=a.item w (fun x b=>hs x (Gg _ b)) e1
  obtain ⟨ys,l,j,f4⟩:=Ars.items w as (fun x b=>hs x (Gf _ b)) f
  refine ⟨y :: ys,fun z hz=>?_,by simp [f1,j],by simp [f2,f4]⟩
  rcases Gh.mp hz with h | hz
  ·rw [h];exact n
  ·exact l z hz
def ay (f:List D->Option (D × Fl)) (ms:M3 (List R3)):EM:=af ms fun rs=>af (cR rs) fun ds=>ba ((f ds).map fun p=>R3.val p.1 p.2)
def cS (K:FG) (r:List V->Hp->VK->Prop) (f:List D->Option (D × Fl)):Prop:=∀ (ys:List It3) (H:Hp) (Q:VK) (p:D × Fl),(∀ y ∈ ys,Arg K H y)->f (ys.map (·.d))=some p ->
 (∀ w H',New K H H' (dw ys) w->w.d=p.1->w.f=p.2->Q w.v H')->r (ys.map (·.v)) H Q
theorem lL (l:cS K r f) (h:tE K G0 W0 (ay f ms) σ H Q):tCB r (tA K G0 W0 ms) σ H Q:=by
 refine h.use fun G W le ρ T g o ρ' w e q=>?_
 refine tA.seq le w e q.err fun rs ρ1 e1 t H1 Ts g1 b a1=>?_
 obtain ⟨ds,n,j⟩:=bK e1
 obtain ⟨p,a,rfl,rfl⟩:=bN j
 obtain ⟨ys,i,f1,f2⟩:=a1.items b (fun x k=>Gf _ k) n
 subst f1 f2
 cases c:f (ys.map (·.d)) with
 | none=>rw [c] at a;exact nsE a
 | some s =>
  rw [c] at a
  cases a
  exact l ys H1 Q s (fun y m=>(b.itm (i y m)).arg) c (oV b i q)
def asB:D->Option Bool
 | .bl b=>some b
 | _=>none
def i9 (ma mb:EM):EM:=af ma fun ra=>af (der ra) fun d=>af (ba (asB d)) fun b=>if b then mb else aZ (.val (.bl false) .z)
def mOr (ma mb:EM):EM:=af ma fun ra=>af (der ra) fun d=>af (ba (asB d)) fun b=>if b then aZ (.val (.bl true) .z) else mb
def rV (ma:EM):EM:=af ma fun ra=>af (der ra) fun d=>af (ba (asB d)) fun b=>aZ (.val (.bl (!b)) .z)
theorem ki (e:af (ba o) k ρ=some (r,ρ')):∃ a,o=some a/\k a ρ=some (r,ρ'):=by
 unfold af ba at e
 cases o with
 | none=>exact nsE e
 | some a=>exact ⟨a,rfl,e⟩
theorem AM (e:asB d=some b):d=.bl b:=by
 cases d <;> first | exact nsE e | cases e
 rfl
theorem Rep.bl_eq (r:Rep K H (.bl b) v L):v=.bl b/\L=[]:=by cases r;exact ⟨rfl,rfl⟩
theorem Ar.bool (w:Wf K G H σ ρ (Ts ++ T) g) (a:Ar σ ra v Ts) (e:der ra ρ=some (.ok d,ρ)) (c:asB d=some b):v=.bl b:=by
 obtain ⟨y,f,f1,f2⟩:=a.item w (fun x h=>Gf _ h) e
 have r:=(w.itm f).rep
 rw [f1,AM c] at r
 rw [<- f2]
 exact r.bl_eq.1
theorem DU (h:tE K G0 W0 (i9 ma mb) σ H Q):Db (tE K G0 W0 ma) (tE K G0 W0 mb) σ H Q:=by
 refine h.use fun G W le ρ T g o ρ' w e q=>?_
 refine tE.seq le w e q.err fun ra ρ1 e1 l H1 ⟨Ts,g1,c,a1⟩=>?_
 obtain ⟨d,k,i⟩:=aW e1
 obtain ⟨b,j,a⟩:=ki i
 refine ⟨b,a1.bool c k j,?_⟩
 have f:=c.sub (Gr Ts T)
 cases b with
 | true=>exact tE.mk le f a q
 | false=>cases a;exact q _ _ (f.const (.bl false))
theorem DR (h:tE K G0 W0 (rV ma) σ H Q):C6 (tE K G0 W0 ma) σ H Q:=by
 refine h.use fun G W le ρ T g o ρ' w e q=>?_
 refine tE.seq le w e q.err fun ra ρ1 e1 l H1 ⟨Ts,g1,a,a1⟩=>?_
 obtain ⟨d,k,f⟩:=aW e1
 obtain ⟨b,i,c⟩:=ki f
 refine ⟨b,a1.bool a k i,?_⟩
 have j:=a.sub (Gr Ts T)
 cases c;exact q _ _ (j.const (.bl (!b)))
def EndT (K:FG) (G:Gm) (W:D->Sto->Prop) (σ:St) (T:List It3) (ρ':Sto) (Q:Bool->Hp->Prop):Except D Bool->Prop
 | .ok b=>∀ H' g',Wf K G H' σ ρ' T g'->Q b H'
 | .error e=>W e ρ'
theorem EndT.err (h:EndT K G W σ T ρ' Q r):∀ x,r=.error x->W x ρ':=by
 intro x e;subst e;exact h
theorem tT.open (h:tT K G0 W0 m σ H Q):∃ G W,Le K G W G0 W0/\∃ ρ T g r ρ',Wf K G H σ ρ T g/\m ρ=some (r,ρ')/\EndT K G W σ T ρ' Q r:=by
 obtain ⟨G,W,le,ρ,T,g,r,ρ',w,e,q⟩:=h
 refine ⟨G,W,le,ρ,T,g,r,ρ',w,e,?_⟩
 cases r with
 | ok r=>exact q
 | error x=>exact q
theorem tT.use (h:tT K G0 W0 m σ H Q) {P:Prop} (k:∀ G W,Le K G W G0 W0->∀ ρ T g r ρ',Wf K G H σ ρ T g->m ρ=some (r,ρ')->EndT K G W σ T ρ' Q r->P):P:=by
 obtain ⟨G,W,le,ρ,T,g,r,ρ',w,e,q⟩:=h.open
 exact k G W le ρ T g r ρ' w e q
theorem tT.mk (le:Le K G W G0 W0) (w:Wf K G H σ ρ T g) (e:m ρ=some (r,ρ')) (h:EndT K G W σ T ρ' Q r):tT K G0 W0 m σ H Q:=by
 refine ⟨G,W,le,ρ,T,g,r,ρ',w,e,?_⟩
 cases r with
 | ok r=>exact h
 | error x=>exact h
def cB (m:EM):M3 Bool:=af m fun r=>af (der r) fun d=>ba (asB d)
theorem tT_b (h:tT K G0 W0 (cB m) σ H Q):tB (tE K G0 W0 m) σ H Q:=by
 refine h.use fun G W le ρ T g o ρ' w e q=>?_
 refine tE.seq le w e q.err fun ra ρ1 e1 j H1 ⟨Ts,g1,a,a1⟩=>?_
 obtain ⟨d,i,c⟩:=aW e1
 obtain ⟨b,f,rfl,rfl⟩:=bN c
 exact ⟨b,a1.bool a i f,q _ _ (a.sub (Gr Ts T))⟩
def C0 (a b:M3 Bool):M3 Bool:=af a fun c=>if c then b else aZ false
def cOr (a b:M3 Bool):M3 Bool:=af a fun c=>if c then aZ true else b
def dF (a:M3 Bool):M3 Bool:=af a fun c=>aZ (!c)
theorem tT_or (h:tT K G0 W0 (cOr a b) σ H Q):tOr (tT K G0 W0 a) (tT K G0 W0 b) σ H Q:=by
 refine h.use fun G W le ρ T g o ρ' w e q=>?_
 refine tT.seq le w e q.err fun c ρ1 e1 H1 g1 d=>?_
 cases c with
 | false=>exact tT.mk le d e1 q
 | true=>cases e1;exact q _ _ d
theorem DG (h:tT K G0 W0 (dF a) σ H Q):tNot (tT K G0 W0 a) σ H Q:=by
 refine h.use fun G W le ρ T g o ρ' w e q=>?_
 refine tT.seq le w e q.err fun c ρ1 e1 H1 g1 b=>?_
 cases e1;exact q _ _ b
def mIf (c:M3 Bool) (ma mb:EM):EM:=af c fun b=>if b then ma else mb
theorem tE_if (h:tE K G0 W0 (mIf c ma mb) σ H Q):tIf (tT K G0 W0 c) (tE K G0 W0 ma) (tE K G0 W0 mb) σ H Q:=by
 refine h.use fun G W le ρ T g o ρ' w e q=>?_
 refine tT.seq le w e q.err fun c ρ1 e1 H1 g1 a=>?_
 cases c with
 | true=>exact tE.mk le a e1 q
 | false=>exact tE.mk le a e1 q
end
end L3
end
section
namespace L3
open PySem L2
def dn (x:It3):It3:={ x with f:=.z }
theorem cK:NoRoot (dn x) y:=fun h=>absurd rfl h
def lowAt (i:Nat) (ρ:Sto):Sto:=match (ρ[i]?).join with
 | some (d,.u)=>ρ.set i (some (d,.z))
 | some (d,.l)=>ρ.set i (some (d,.z))
 | _=>ρ
noncomputable def frz (is:List Nat) (ρ:Sto):Sto:=is.foldl (fun ρ i=>lowAt i ρ) ρ
def xr (is:List Nat):M3 Unit:=fun ρ=>some (.ok (),frz is ρ)
def pls:List R3->List Nat
 | []=>[]
 | .pl i :: rs=>i :: pls rs
 | .val _ _ :: rs=>pls rs
section
variable {K:FG} {G G0:Gm} {W W0:D->Sto->Prop} {H H':Hp} {σ:St} {ρ ρ':Sto} {T T':List It3} {g:Nat->Option It3} {x y z:It3} {α β:Type}
theorem ItOk.low (h:ItOk K G H x):ItOk K G H (dn x):=⟨h.rep,fun q=>absurd rfl q,h.src⟩
theorem cM {i j:Nat} (hi:i < ρ.length):((ρ.set i o)[j]?).join=if j=i then o else (ρ[j]?).join:=by grind
theorem fX {i:Nat} (h:(ρ[i]?).join=some p):i < ρ.length:=by grind
theorem Wf.lowSlot (w:Wf K G H σ ρ T g) {i:Nat} (e:(ρ[i]?).join=some (d,f)):Wf K G H σ (ρ.set i (some (d,.z))) T (fun j=>if j=i then (g i).map dn else g j):=by
 have hi:=fX e
 obtain ⟨y,u,v,C,ev⟩:=w.slot e
 have val:∀ j x,(if j=i then (g i).map dn else g j)=some x->∃ x0,g j=some x0/\(x=x0\/x=dn x0)/\(j=i->x=dn x0):=fun j x h=>by
  grind
 have r:∀ {a b:It3},NoRoot a b->∀ m p,(m=a\/m=dn a)->(p=b\/p=dn b)->NoRoot m p:=fun h m p h1 h2=>by
  rcases h1 with rfl | rfl
  ·rcases h2 with rfl | rfl
   ·exact h
   ·exact h
  ·exact cK
 refine ⟨by rw [List.length_set];exact w.len,fun j=>?_,fun j x h=>?_,fun j x h=>?_,w.okT,fun j k a b n h1 h2=>?_,fun j a h b o=>?_,w.tt,w.base,w.pro,⟨w.fx.frT,fun j x h B hf a A=>?_,w.fx.bin,w.fx.ob,fun j x h t=>?_⟩⟩
 ·rw [cM hi]
  by_cases q:j=i
  ·subst q
   rw [if_pos rfl,if_pos rfl,u]
   show some ((dn y).d,Fl.z)=_
   rw [<- v];rfl
  ·rw [if_neg q,if_neg q];exact w.sl j
 ·obtain ⟨x0,h0,c,_⟩:=val j x h
  have:=w.sv j x0 h0
  rcases c with rfl | rfl <;> exact this
 ·obtain ⟨x0,h0,c,_⟩:=val j x h
  rcases c with rfl | rfl
  ·exact w.okS j x h0
  ·exact (w.okS j x0 h0).low
 ·obtain ⟨a0,h0,l,_⟩:=val j a h1
  obtain ⟨b0,s,o,_⟩:=val k b h2
  exact r (w.ss j k a0 b0 n h0 s) a b l o
 ·obtain ⟨a0,h0,l,_⟩:=val j a h
  exact ⟨r (w.st j a0 h0 b o).1 a b l (.inl rfl),r (w.st j a0 h0 b o).2 b a (.inl rfl) l⟩
 ·obtain ⟨x0,h0,c,_⟩:=val j x h
  rcases c with rfl | rfl
  ·exact w.fx.frS j x h0 B hf a A
  ·exact absurd rfl hf
 ·obtain ⟨x0,h0,c,_⟩:=val j x h
  rcases c with rfl | rfl
  ·exact w.fx.lvS j x h0 t
  ·cases t
def Kin (x y:It3):Prop:=y.d=x.d/\y.v=x.v/\y.L=x.L/\(y.f=x.f\/y.f=.z)
theorem Kin.refl (x:It3):Kin x x:=⟨rfl,rfl,rfl,.inl rfl⟩
theorem Kin.trans (a:Kin x y) (b:Kin y z):Kin x z:=⟨b.1.trans a.1,b.2.1.trans a.2.1,b.2.2.1.trans a.2.2.1,by
 rcases b.2.2.2 with h | h
 ·rcases a.2.2.2 with h' | h'
  ·exact .inl (h.trans h')
  ·exact .inr (h.trans h')
 ·exact .inr h⟩
theorem Wf.lowAt {i:Nat} (w:Wf K G H σ ρ T g):∃ g',Wf K G H σ (lowAt i ρ) T g'/\(∀ j y,g j=some y->∃ a,g' j=some a/\Kin y a/\(j=i->a.f=.z)):=by
 have keep:∀ d,(ρ[i]?).join=some (d,.z)->∃ g',Wf K G H σ ρ T g'/\(∀ j y,g j=some y->∃ a,g' j=some a/\Kin y a/\(j=i->a.f=.z)):=fun d e=>⟨g,w,fun j y h=>⟨y,h,Kin.refl y,fun q=>by
  subst q
  obtain ⟨a,h',_,hf,_⟩:=w.slot e
  rw [h] at h';cases h';exact hf⟩⟩
 have low:∀ d f,(ρ[i]?).join=some (d,f)->∃ g',Wf K G H σ (ρ.set i (some (d,.z))) T g'/\(∀ j y,g j=some y->∃ a,g' j=some a/\Kin y a/\(j=i->a.f=.z)):=fun d f e=>⟨_,w.lowSlot e,fun j y h=>by
  by_cases q:j=i
  ·subst q;exact ⟨dn y,by rw [if_pos rfl,h];rfl,⟨rfl,rfl,rfl,.inr rfl⟩,fun _=>rfl⟩
  ·exact ⟨y,by rw [if_neg q];exact h,Kin.refl y,fun z=>absurd z q⟩⟩
 unfold L3.lowAt
 cases e:(ρ[i]?).join with
 | none =>
  refine ⟨g,w,fun j y h=>⟨y,h,Kin.refl y,fun q=>?_⟩⟩
  subst q
  have:=w.sl j
  rw [h,e] at this;cases this
 | some p =>
  obtain ⟨d,f⟩:=p
  cases f with
  | u=>exact low d _ e
  | l=>exact low d _ e
  | z=>exact keep d e
theorem Wf.frz:∀ {is:List Nat} {ρ:Sto} {g:Nat->Option It3},Wf K G H σ ρ T g->∃ g',Wf K G H σ (frz is ρ) T g'/\(∀ j y,g j=some y->∃ a,g' j=some a/\Kin y a/\(j ∈ is->a.f=.z))
 | [],ρ,g,w=>⟨g,w,fun j y h=>⟨y,h,Kin.refl y,fun q=>by cases q⟩⟩
 | i :: is,ρ,g,w=>by
  obtain ⟨g1,e,h1⟩:=w.lowAt (i:=i)
  obtain ⟨g2,k,h2⟩:=Wf.frz (is:=is) e
  refine ⟨g2,k,fun j y h=>?_⟩
  obtain ⟨m,e1,k1,l⟩:=h1 j y h
  obtain ⟨d,c,k2,b⟩:=h2 j m e1
  refine ⟨d,c,k1.trans k2,fun hm=>?_⟩
  rcases Gh.mp hm with q | q
  ·rcases k2.2.2.2 with h | h
   ·exact h.trans (l q)
   ·exact h
  ·exact b q
theorem Wf.lowT (w:Wf K G H σ ρ (Ts ++ T) g):Wf K G H σ ρ (Ts.map dn ++ T) g:=by
 have sp:∀ {a b:It3},Apart3 a b->Apart3 (dn a) (dn b):=fun h=>⟨cK,cK⟩
 refine ⟨w.len,w.sl,w.sv,w.okS,fun x c=>?_,w.ss,fun i x e y k=>?_,?_,w.base,w.pro,⟨fun x c hf a f=>?_,w.fx.frS,w.fx.bin,w.fx.ob,w.fx.lvS⟩⟩
 ·rcases Gk.mp c with h | h
  ·obtain ⟨x0,h0,rfl⟩:=Gs.mp h
   exact (w.okT x0 (Gf _ h0)).low
  ·exact w.okT x (Gg _ h)
 ·rcases Gk.mp k with h | h
  ·obtain ⟨y0,h0,rfl⟩:=Gs.mp h
   exact ⟨(w.st i x e y0 (Gf _ h0)).1,cK⟩
  ·exact w.st i x e y (Gg _ h)
 ·have h:=List.pairwise_append.mp w.tt
  refine List.pairwise_append.mpr ⟨?_,h.2.1,fun a d b j=>?_⟩
  ·grind
  ·obtain ⟨a0,h0,rfl⟩:=Gs.mp d
   exact ⟨cK,(h.2.2 a0 h0 b j).2⟩
 ·rcases Gk.mp c with h | h
  ·obtain ⟨x0,h0,rfl⟩:=Gs.mp h
   exact absurd rfl hf
  ·exact w.fx.frT x (Gg _ h) hf a f
theorem lA:∀ {rs:List R3} {i:Nat},R3.pl i ∈ rs->i ∈ pls rs
 | [],_,h=>by cases h
 | .pl j :: rs,i,h=>by
  rcases Gh.mp h with e | h
  ·cases e;exact Ga
  ·exact Gb _ (lA h)
 | .val _ _ :: rs,i,h=>by
  rcases Gh.mp h with e | h
  ·cases e
  ·exact lA (rs:=rs) h
theorem Ars.given:∀ {rs:List R3} {l:List V} {Ts:List It3} {ds:List D} {S:List It3} {g':Nat->Option It3} {is:List Nat},Wf K G H σ ρ T g->(∀ j y,g j=some y->∃ b,g' j=some b/\Kin y b/\(j ∈ is->b.f=.z))->(∀ i,R3.pl i ∈ rs->i ∈ is) ->
  Ars σ rs l Ts->(∀ x ∈ Ts,x ∈ T)->(∀ x ∈ Ts,dn x ∈ S)->cR rs ρ=some (.ok ds,ρ)->∃ ys:List It3,(∀ y ∈ ys,Itm S g' y/\y.f=.z)/\ys.map (·.d)=ds/\ys.map (·.v)=l
 | [],_,_,ds,S,g',is,w,hg,hi,.nil,_,_,e=>by cases e;exact ⟨[],fun _ h=>(by cases h),rfl,rfl⟩
 | r :: rs,_,_,ds,S,g',is,w,hg,hi,.cons (v:=v0) a as,hs,hS,e=>by
  obtain ⟨d,e1,B⟩:=aW (k:=fun d=>af (cR rs) fun ds=>aZ (d :: ds)) e
  obtain ⟨I,A,t⟩:=bK B
  cases t
  obtain ⟨ys,s,o,f4⟩:=Ars.given w hg (fun i h=>hi i (Gb _ h)) as (fun x c=>hs x (Gf _ c)) (fun x c=>hS x (Gf _ c)) A
  have one:∃ y,(Itm S g' y/\y.f=.z)/\y.d=d/\y.v=v0:=by
   cases a with
   | @pl i v h =>
    have E:der (.pl i) ρ=((ρ[i]?).join).map fun p=>(.ok p.1,ρ):=rfl
    rw [E] at e1
    cases q:(ρ[i]?).join with
    | none=>rw [q] at e1;exact nsE e1
    | some p =>
     rw [q] at e1
     obtain ⟨y,u,C,J,m⟩:=w.slot (d:=p.1) (f:=p.2) q
     obtain ⟨b,h1,h2,h3⟩:=hg i y u
     have n:p.1=d:=by cases e1;rfl
     rw [h] at m
     refine ⟨b,⟨.inl ⟨i,h1⟩,h3 (hi i Ga)⟩,h2.1.trans (C.trans n),?_⟩
     rw [h2.2.1];cases m;rfl
   | val x=>cases e1;exact ⟨dn x,⟨.inr (hS x (by simp)),rfl⟩,rfl,rfl⟩
  obtain ⟨y,F,f1,f2⟩:=one
  refine ⟨y :: ys,fun z hz=>?_,by simp [f1,o],by simp [f2,f4]⟩
  rcases Gh.mp hz with h | hz
  ·rw [h];exact F
  ·exact s z hz
def cT (ys:List It3) (c:Addr):Prop:=∃ y ∈ ys,c ∈ y.L
def gives (rs:List R3):M3 (List D):=af (cR rs) fun ds=>af (xr (pls rs)) fun _=>aZ ds
theorem Ars.gives (w:Wf K G H σ ρ (Ts ++ T) g) (a:Ars σ rs vs Ts) (e:af (gives rs) k ρ=some (r,ρ')) :
  ∃ ds ρ1 g1,k ds ρ1=some (r,ρ')/\ρ1=frz (pls rs) ρ/\Wf K G H σ ρ1 (Ts.map dn ++ T) g1/\(∀ j y,g j=some y->∃ c,g1 j=some c/\Kin y c)/\∃ ys:List It3,(∀ y ∈ ys,Itm (Ts.map dn ++ T) g1 y/\y.f=.z)/\ys.map (·.d)=ds/\ys.map (·.v)=vs:=by
 unfold L3.gives at e
 have m:af (cR rs) (fun ds=>af (xr (pls rs)) fun _=>k ds) ρ=some (r,ρ'):=by
  rw [<- e]
  unfold af
  cases q:cR rs ρ with
  | none=>rfl
  | some p =>
   obtain ⟨o,ρ2⟩:=p
   cases o with
   | error x=>rfl
   | ok ds=>rfl
 obtain ⟨ds,s,e1⟩:=bK m
 obtain ⟨g1,n,h1⟩:=Wf.frz (is:=pls rs) w
 refine ⟨ds,L3.frz (pls rs) ρ,g1,e1,rfl,n.lowT,fun j y h=>let ⟨c,a,b,_⟩:=h1 j y h;⟨c,a,b⟩,?_⟩
 exact Ars.given w h1 (fun i h=>lA h) a (fun x l=>Gf _ l) (fun x l=>Gf _ (Gs.mpr ⟨x,l,rfl⟩)) s
theorem Wf.alls (w:Wf K G H σ ρ T g) (a:∀ y ∈ ys,Itm T g y/\y.f=.z) (h:cT ys c):dG T g c/\(G.H0 c=none\/G.src c):=by
 obtain ⟨y,m,b⟩:=h
 exact ⟨w.kid (a y m).1 b fun hf=>absurd (a y m).2 hf,(w.itm (a y m).1).src c b⟩
theorem Wf.doneA (w:Wf K G H σ ρ (Us ++ T) g) (a:∀ y ∈ ys,Itm (Us ++ T) g y/\y.f=.z) (n:New K H H' (cT ys) x):Got K G σ ρ T (.val x.d x.f) x.v H' :=
 ⟨[x],g,(w.push n fun c h=>w.alls a h).sub (by simpa using List.Sublist.cons_cons x (Gr Us T)),.val x⟩
theorem ly:∀ {ys:List It3},(∀ y ∈ ys,Rep K H y.d y.v y.L)->Reps (Rep K H) (ys.map (·.d)) (ys.map (·.v)) (ys.map (·.L)).flatten
 | [],_=>.nil
 | y :: ys,h=>.cons (h y Ga) (ly fun z hz=>h z (Gb _ hz))
theorem ff (h:c ∈ (ys.map (·.L)).flatten):cT ys c:=by
 obtain ⟨l,b,a⟩:=List.mem_flatten.mp h
 obtain ⟨y,d,rfl⟩:=Gs.mp b
 exact ⟨y,d,a⟩
noncomputable def rT (mk:List D->D) (f:Fl) (ms:M3 (List R3)):EM:=af ms fun rs=>af (gives rs) fun ds=>ba (if ds.length<=16777216 then some (.val (mk ds) f) else none)
abbrev bU:M3 (List R3)->EM:=rT .tup .z
abbrev cn:M3 (List R3)->EM:=rT .lst .u
theorem bv (h:H p=none):Same H (upd H p o):=fun b u e=>by
 rw [ao (aS e h)];exact e
theorem DQ (hz:(16777216:Nat)=sizeLine) (h:tE K G0 W0 (bU ms) σ H Q):tTup (tA K G0 W0 ms) σ H Q:=by
 refine h.use fun G W le ρ T g o ρ' w e q=>?_
 refine tA.seq le w e q.err fun rs ρ1 e1 r H1 Ts g1 m a1=>?_
 obtain ⟨ds,ρ2,g2,l,_,f,_,ys,i,f1,f2⟩:=a1.gives m e1
 obtain ⟨v,b,rfl,rfl⟩:=bN l
 subst f1 f2
 split at b
 ·rename_i k
  cases b
  refine ⟨by rw [Go] at k ⊢;omega,fun p j=>?_⟩
  refine q _ _ (Wf.doneA (x:=⟨.tup (ys.map (·.d)),.ref p,(ys.map (·.L)).flatten,.z⟩) f i ⟨bv j,.tup aC ((ly fun y a=>(f.itm (i y a).1).rep).same (bv j)),fun c n=>.inr (ff n),fun hf=>absurd rfl hf⟩)
 ·exact nsE b
theorem DT (hz:(16777216:Nat)=sizeLine) (h:tE K G0 W0 (cn ms) σ H Q):tLst (tA K G0 W0 ms) σ H Q:=by
 refine h.use fun G W le ρ T g o ρ' w e q=>?_
 refine tA.seq le w e q.err fun rs ρ1 e1 s H1 Ts g1 r a1=>?_
 obtain ⟨ds,ρ2,g2,n,_,i,_,ys,j,f1,f2⟩:=a1.gives r e1
 obtain ⟨v,k,rfl,rfl⟩:=bN n
 subst f1 f2
 split at k
 ·rename_i m
  cases k
  refine ⟨by rw [Go] at m ⊢;omega,fun p b=>?_⟩
  have np:p ∉ (ys.map (·.L)).flatten:=fun a=>by
   obtain ⟨y,hm,a⟩:=ff a
   obtain ⟨o,l⟩:=((i.itm (j y hm).1).rep.inH p a).ex
   rw [b] at l;exact nsE l
  refine q _ _ (Wf.doneA (x:=⟨.lst (ys.map (·.d)),.ref p,p :: (ys.map (·.L)).flatten,.u⟩) i j ⟨bv b,.lst aC ((ly fun y f=>(i.itm (j y f).1).rep).same (bv b)),fun c a=>?_,fun _=>⟨rfl,p,_,rfl,rfl,np,b⟩⟩)
  rcases Gh.mp a with e | a
  ·rw [e];exact .inl b
  ·exact .inr (ff a)
 ·exact nsE k
end
end L3
end
section
namespace L3
open PySem L2
section
variable {K:FG} {G G0:Gm} {W W0:D->Sto->Prop} {H H':Hp} {σ:St} {ρ ρ':Sto} {T T':List It3} {g:Nat->Option It3} {x y z:It3} {α β:Type}
def EndS (K:FG) (G:Gm) (W:D->Sto->Prop) (T:List It3) (ρ':Sto) (E:Ends):Except D Flw->Prop
 | .ok .nx=>∀ σ' H' g',Wf K G H' σ' ρ' T g'->E.nx σ' H'
 | .ok .br=>∀ σ' H' g',Wf K G H' σ' ρ' T g'->E.bk σ' H'
 | .ok .ct=>∀ σ' H' g',Wf K G H' σ' ρ' T g'->E.ct σ' H'
 | .ok (.rt d f)=>∀ x σ' H' g',Wf K G H' σ' ρ' (x :: T) g'->x.d=d->x.f=f->E.rt x.v H'
 | .error e=>W e ρ'
theorem EndS.err (h:EndS K G W T ρ' E r):∀ x,r=.error x->W x ρ':=by
 intro x e;subst e;exact h
theorem tS.open (h:tS K G0 W0 m E σ H):∃ G W,Le K G W G0 W0/\∃ ρ T g r ρ',Wf K G H σ ρ T g/\m ρ=some (r,ρ')/\EndS K G W T ρ' E r:=by
 obtain ⟨G,W,le,ρ,T,g,r,ρ',w,e,q⟩:=h
 refine ⟨G,W,le,ρ,T,g,r,ρ',w,e,?_⟩
 cases r with
 | ok r=>cases r <;> exact q
 | error x=>exact q
theorem tS.use (h:tS K G0 W0 m E σ H) {P:Prop} (k:∀ G W,Le K G W G0 W0->∀ ρ T g r ρ',Wf K G H σ ρ T g->m ρ=some (r,ρ')->EndS K G W T ρ' E r->P):P:=by
 obtain ⟨G,W,le,ρ,T,g,r,ρ',w,e,q⟩:=h.open
 exact k G W le ρ T g r ρ' w e q
theorem tS.mk (le:Le K G W G0 W0) (w:Wf K G H σ ρ T g) (e:m ρ=some (r,ρ')) (h:EndS K G W T ρ' E r):tS K G0 W0 m E σ H:=by
 refine ⟨G,W,le,ρ,T,g,r,ρ',w,e,?_⟩
 cases r with
 | ok r=>cases r <;> exact h
 | error x=>exact h
def cz:SM:=aZ .nx
noncomputable def aG (a b:SM):SM:=af a fun f=>match f with
 | .nx=>b
 | o=>aZ o
theorem DL (h:tS K G0 W0 cz E σ H):C7 E σ H:=by
 refine h.use fun G W le ρ T g r ρ' w e q=>?_
 cases e
 exact q _ _ _ w
theorem DJ (h:tS K G0 W0 (aG a b) E σ H):tSeq (tS K G0 W0 a) (tS K G0 W0 b) E σ H:=by
 refine h.use fun G W le ρ T g r ρ' w e q=>?_
 unfold aG af at e
 cases p:a ρ with
 | none=>rw [p] at e;exact nsE e
 | some p' =>
  obtain ⟨o,ρ1⟩:=p'
  rw [p] at e
  cases o with
  | error x=>cases e;exact tS.mk le w p q
  | ok f =>
   cases f with
   | nx=>exact tS.mk le (r:=.ok .nx) w p fun σ' H' g' c=>tS.mk le c e q
   | br=>cases e;exact tS.mk le w p q
   | ct=>cases e;exact tS.mk le w p q
   | rt d f=>cases e;exact tS.mk le w p q
def gi (m:EM):SM:=af m fun _=>aZ .nx
theorem A8 (h:tS K G0 W0 (gi m) E σ H):C8 (tE K G0 W0 m) E σ H:=by
 refine h.use fun G W le ρ T g r ρ' w e q=>?_
 refine tE.seq le w e q.err fun ra ρ1 e1 v H1 ⟨Ts,g1,a,a1⟩=>?_
 cases e1
 exact q _ _ _ (a.sub (Gr Ts T))
def sIf (c:M3 Bool) (a b:SM):SM:=af c fun t=>if t then a else b
theorem tS_if (h:tS K G0 W0 (sIf c a b) E σ H):tIfS (tT K G0 W0 c) (tS K G0 W0 a) (tS K G0 W0 b) E σ H:=by
 refine h.use fun G W le ρ T g r ρ' w e q=>?_
 refine tT.seq le w e q.err fun t ρ1 e1 H1 g1 d=>?_
 cases t with
 | true=>exact tS.mk le d e1 q
 | false=>exact tS.mk le d e1 q
def nol:Fl->Fl
 | .u=>.u
 | _=>.z
theorem Fd (f:Fl):nol f ≠ .l:=by cases f <;> intro h <;> cases h
theorem Fc (f:Fl):nol f=f\/nol f=.z:=by cases f <;> first | exact .inl rfl | exact .inr rfl
noncomputable def dy (r:R3):M3 (D × Fl):=match r with
 | .val d f=>aZ (d,nol f)
 | .pl i=>fun ρ=>((ρ[i]?).join).map fun p=>(.ok (p.1,.z),lowAt i ρ)
theorem qD {i:Nat}:dy (.pl i) ρ=((ρ[i]?).join).map fun p=>(.ok (p.1,.z),lowAt i ρ):=rfl
theorem Ar.val_inv (a:Ar σ (.val d f) v Ts):∃ x,Ts=[x]/\x.d=d/\x.f=f/\x.v=v:=by
 generalize h:R3.val d f=r at a
 cases a with
 | pl _=>cases h
 | val x=>cases h;exact ⟨x,rfl,rfl,rfl,rfl⟩
theorem Ar.take (w:Wf K G H σ ρ (Ts ++ T) g) (a:Ar σ r v Ts) (e:af (dy r) k ρ=some (o,ρ')) :
  ∃ p ρ1 g1 x,k p ρ1=some (o,ρ')/\Wf K G H σ ρ1 (x :: T) g1/\x.d=p.1/\(p.2=x.f\/p.2=.z)/\p.2 ≠ .l/\x.v=v:=by
 cases a with
 | val x=>exact ⟨(x.d,nol x.f),ρ,g,x,e,w,rfl,Fc _,Fd _,rfl⟩
 | @pl i v h =>
  unfold af at e
  rw [qD] at e
  cases q:(ρ[i]?).join with
  | none=>rw [q] at e;exact nsE e
  | some p =>
   rw [q] at e
   obtain ⟨y,I,C,J,A⟩:=w.slot (d:=p.1) (f:=p.2) q
   obtain ⟨g1,b,h1⟩:=w.lowAt (i:=i)
   obtain ⟨c,n,t,E⟩:=h1 i y I
   have hz:=E rfl
   refine ⟨(p.1,.z),_,g1,c,e,?_,t.1.trans C,.inr rfl,(by intro h;cases h),?_⟩
   ·have s:∀ u:It3,NoRoot c u:=fun u hf=>absurd hz hf
    refine ⟨b.len,b.sl,b.sv,b.okS,fun u hu=>?_,b.ss,fun j u m F hu=>?_,?_,b.base,b.pro,⟨fun u hu hf a D=>?_,b.fx.frS,b.fx.bin,b.fx.ob,b.fx.lvS⟩⟩
    ·rcases Gh.mp hu with h | hu
     ·rw [h];exact b.okS i c n
     ·exact b.okT u hu
    ·rcases Gh.mp hu with h | hu
     ·rw [h]
      refine ⟨?_,s _⟩
      by_cases B:j=i
      ·subst B
       rw [n] at m;cases m
       exact s _
      ·exact b.ss j i u c B m n
     ·exact b.st j u m F hu
    ·exact List.pairwise_cons.mpr ⟨fun u hu=>⟨s _,(b.st i c n u hu).2⟩,b.tt⟩
    ·rcases Gh.mp hu with h | hu
     ·rw [h] at hf;exact absurd hz hf
     ·exact b.fx.frT u hu hf a D
   ·rw [t.2.1]
    rw [h] at A;cases A;rfl
theorem Wf.store {i:Nat} (w:Wf K G H σ ρ (x :: T) g) (hi:i < ρ.length) (L:G.pr i=false) (hf:f=x.f\/f=.z) (s:f ≠ .l) :
  Wf K G H (σ.set i (some x.v)) (ρ.set i (some (x.d,f))) T (fun j=>if j=i then some { x with f:=f } else g j):=by
 have r:i < σ.length:=by rw [w.len];exact hi
 have t:=List.pairwise_cons.mp w.tt
 have C:=w.okT x Ga
 have nx:∀ u:It3,NoRoot x u->NoRoot { x with f:=f } u:=fun u h q=>by
  rcases hf with e | e
  ·exact h (by rw [<- e];exact q)
  ·exact absurd e q
 have val:∀ j u,(if j=i then some { x with f:=f } else g j)=some u->(j=i/\u = { x with f:=f })\/(j ≠ i/\g j=some u):=fun j u h=>by
  by_cases q:j=i
  ·rw [if_pos q] at h;cases h;exact .inl ⟨q,rfl⟩
  ·rw [if_neg q] at h;exact .inr ⟨q,h⟩
 refine ⟨by rw [List.length_set,List.length_set];exact w.len,fun j=>?_,fun j u h=>?_,fun j u h=>?_,fun u hu=>w.okT u (Gb _ hu),fun j k a b n h1 h2=>?_,fun j a h b y=>?_,t.2,w.base,fun j A=>?_,⟨fun u hu=>w.fx.frT u (Gb _ hu),fun j u h B m a p=>?_,w.fx.bin,w.fx.ob,fun j u h F=>?_⟩⟩
 ·rw [cM hi]
  by_cases q:j=i
  ·rw [if_pos q,if_pos q];rfl
  ·rw [if_neg q,if_neg q];exact w.sl j
 ·rcases val j u h with ⟨rfl,rfl⟩ | ⟨n,h⟩
  ·rw [List.getElem?_set_self r]
  ·rw [List.getElem?_set_ne (fun z=>n z.symm)];exact w.sv j u h
 ·rcases val j u h with ⟨rfl,rfl⟩ | ⟨n,h⟩
  ·refine ⟨C.rep,fun q=>?_,C.src⟩
   rcases hf with e | e
   ·subst e
    exact C.own q
   ·exact absurd e q
  ·exact w.okS j u h
 ·rcases val j a h1 with ⟨I,p⟩ | ⟨M,o⟩
  ·rcases val k b h2 with ⟨D,E⟩ | ⟨J,c⟩
   ·exact absurd (I.trans D.symm) n
   ·rw [p];exact nx b (w.st k b c x Ga).2
  ·rcases val k b h2 with ⟨D,E⟩ | ⟨J,c⟩
   ·rw [E];exact (w.st j a o x Ga).1
   ·exact w.ss j k a b n o c
 ·rcases val j a h with ⟨rfl,rfl⟩ | ⟨n,h⟩
  ·exact ⟨nx b (t.1 b y).1,(t.1 b y).2⟩
  ·exact w.st j a h b (Gb _ y)
 ·have n:j ≠ i:=fun z=>by subst z;rw [L] at A;cases A
  rw [List.getElem?_set_ne (fun z=>n z.symm)];exact w.pro j A
 ·rcases val j u h with ⟨_,rfl⟩ | ⟨n,h⟩
  ·rcases hf with e | e
   ·exact w.fx.frT x Ga (by rw [<- e];exact m) a p
   ·exact absurd e m
  ·exact w.fx.frS j u h B m a p
 ·rcases val j u h with ⟨_,rfl⟩ | ⟨n,h⟩
  ·exact absurd F s
  ·exact w.fx.lvS j u h F
def a7 (i:Nat) (m:EM):SM:=af m fun r=>af (dy r) fun p=>fun ρ=>if i < ρ.length then some (.ok .nx,ρ.set i (some p)) else none
theorem DI {i:Nat} (j:G0.pr i=false) (h:tS K G0 W0 (a7 i m) E σ H):yp (tE K G0 W0 m) (vN i) E σ H:=by
 refine h.use fun G W le ρ T g r ρ' w e q=>?_
 refine tE.seq le w e q.err fun ra ρ1 e1 v H1 ⟨Ts,g1,c,a1⟩=>?_
 obtain ⟨p,ρ2,g2,x,a,d,f1,f2,f4,b⟩:=a1.take c e1
 split at a
 ·rename_i hi
  cases a
  have:=d.store (f:=p.2) hi (by rw [le.pr];exact j) f2 f4
  rw [f1,b] at this
  exact q _ _ _ this
 ·exact nsE a
def aM (np:Nat) (m:EM):SM:=af m fun r=>match r with
 | .val d f=>aZ (.rt d f)
 | .pl i=>fun ρ=>match (ρ[i]?).join with
  | some (d,.u)=>if i < np then some (.ok (.rt d .z),lowAt i ρ) else some (.ok (.rt d .u),ρ.set i none)
  | some (d,_)=>some (.ok (.rt d .z),lowAt i ρ)
  | none=>none
def uW:SM:=aZ (.rt .non .z)
theorem Wf.move {i:Nat} (w:Wf K G H σ ρ T g) (f:G.pr i=false) (e:g i=some y):Wf K G H σ (ρ.set i none) (y :: T) (fun j=>if j=i then none else g j):=by
 have hi:i < ρ.length:=by
  have:=w.sl i
  rw [e] at this
  exact fX this.symm
 have val:∀ j u,(if j=i then none else g j)=some u->j ≠ i/\g j=some u:=fun j u h=>by
  grind
 refine ⟨by rw [List.length_set];exact w.len,fun j=>?_,fun j u h=>w.sv j u (val j u h).2,fun j u h=>w.okS j u (val j u h).2,fun u hu=>?_,fun j k a b n h1 h2=>w.ss j k a b n (val j a h1).2 (val k b h2).2,fun j a h b c=>?_,?_,w.base,w.pro,⟨fun u hu hf a d=>?_,fun j u h=>w.fx.frS j u (val j u h).2,w.fx.bin,w.fx.ob,fun j u h=>w.fx.lvS j u (val j u h).2⟩⟩
 ·rw [cM hi]
  by_cases q:j=i
  ·rw [if_pos q,if_pos q];rfl
  ·rw [if_neg q,if_neg q];exact w.sl j
 ·rcases Gh.mp hu with h | hu
  ·rw [h];exact w.okS i y e
  ·exact w.okT u hu
 ·obtain ⟨n,h⟩:=val j a h
  rcases Gh.mp c with h' | c
  ·rw [h'];exact ⟨w.ss j i a y n h e,w.ss i j y a (Ne.symm n) e h⟩
  ·exact w.st j a h b c
 ·exact List.pairwise_cons.mpr ⟨fun u hu=>w.st i y e u hu,w.tt⟩
 ·rcases Gh.mp hu with h | hu
  ·subst h;exact w.fx.frS i u e f hf a d
  ·exact w.fx.frT u hu hf a d
theorem DK {np:Nat} (s:∀ i,np<=i->G0.pr i=false) (h:tS K G0 W0 (aM np m) E σ H):tRet (tE K G0 W0 m) E σ H:=by
 refine h.use fun G W le ρ T g r ρ' w e q=>?_
 refine tE.seq le w e q.err fun ra ρ1 e1 v H1 ⟨Ts,g1,k,a1⟩=>?_
 have low:∀ {i:Nat} {d:D} {f:Fl},(ρ1[i]?).join=some (d,f)->some ((.ok (.rt d .z),lowAt i ρ1):Except D Flw × Sto)=some (r,ρ')->Ar σ (.pl i) v Ts->E.rt v H1:=fun {i d f} b I a=>by
  cases I
  have F:af (dy (.pl i)) (fun p=>aZ (Flw.rt p.1 p.2)) ρ1=some (.ok (.rt d .z),L3.lowAt i ρ1):=by
   unfold af
   rw [qD,b]
   rfl
  obtain ⟨p,ρ2,g2,x,j,n,f1,f2,_,B⟩:=a.take k F
  have c:Flw.rt p.1 p.2=Flw.rt d .z/\ρ2=L3.lowAt i ρ1:=by
   unfold aZ at j
   injection j with j
   injection j with c o
   injection c with c
   exact ⟨c,o⟩
  obtain ⟨c,o⟩:=c
  injection c with e7 e8
  subst o
  rw [<- B]
  have J:=Wf.lowT (Ts:=[x]) n
  exact q (dn x) σ H1 g2 J (f1.trans e7) rfl
 cases a1 with
 | val x=>cases e1;exact q x σ H1 g1 k rfl rfl
 | @pl i v h =>
  dsimp only at e1
  cases b:(ρ1[i]?).join with
  | none=>rw [b] at e1;exact nsE e1
  | some p =>
   obtain ⟨d,f⟩:=p
   rw [b] at e1
   cases f with
   | u =>
    dsimp only at e1
    split at e1
    ·exact low b e1 (.pl h)
    ·cases e1
     obtain ⟨y,C,L,A,t⟩:=k.slot b
     have n:=Wf.move k (by rw [le.pr];exact s i (by omega)) C
     have:=q y σ H1 _ n L A
     rw [h] at t
     cases t
     exact this
   | l=>exact low b e1 (.pl h)
   | z=>exact low b e1 (.pl h)
def bY (c:M3 Bool) (b:SM):Nat->SM
 | 0=>fun _=>none
 | n+1=>af c fun t=>if t then af b (fun f=>match f with
   | .nx=>bY c b n
   | .ct=>bY c b n
   | .br=>aZ .nx
   | .rt d f=>aZ (.rt d f)) else aZ .nx
def fL (c:M3 Bool) (b:SM):SM:=fun ρ=>open Classical in if h:∃ n r,bY c b n ρ=some r then some (Classical.choose (Classical.choose_spec h)) else none
theorem gJ:∀ {n:Nat} {ρ:Sto} {r:Except D Flw × Sto},bY c b n ρ=some r->bY c b (n+1) ρ=some r
 | 0,ρ,r,e=>by cases e
 | n+1,ρ,r,e=>by
  unfold bY at e ⊢
  unfold af at e ⊢
  cases h:c ρ with
  | none=>rw [h] at e;exact nsE e
  | some p =>
   obtain ⟨o,ρ1⟩:=p
   rw [h] at e
   cases o with
   | error x=>exact e
   | ok t =>
    cases t with
    | false=>exact e
    | true =>
     simp only [if_true] at e ⊢
     cases h2:b ρ1 with
     | none=>rw [h2] at e;exact nsE e
     | some p2 =>
      obtain ⟨a,ρ2⟩:=p2
      rw [h2] at e
      cases a with
      | error x=>exact e
      | ok f =>
       cases f with
       | nx=>exact gJ (n:=n) e
       | ct=>exact gJ (n:=n) e
       | br=>exact e
       | rt d f=>exact e
theorem j5 {n m:Nat} (h:n<=m) (e:bY c b n ρ=some r):bY c b m ρ=some r:=by
 induction h with
 | refl=>exact e
 | step _ ih=>exact gJ ih
theorem qO (e:fL c b ρ=some r):∃ n,bY c b n ρ=some r:=by
 unfold fL at e
 split at e
 ·grind
 ·exact nsE e
theorem yg (h:tS K G0 W0 (fL c b) E σ H):ye (tT K G0 W0 c) (tS K G0 W0 b) E σ H:=by
 refine h.use fun G W le ρ T g r ρ' w e q=>?_
 obtain ⟨n,e⟩:=qO e
 refine ⟨fun m σ H=>∃ ρ g,Wf K G H σ ρ T g/\bY c b m ρ=some (r,ρ'),⟨n,ρ,g,w,e⟩,?_⟩
 rintro m σ1 H1 ⟨ρ1,g1,k,e1⟩
 cases m with
 | zero=>exact nsE e1
 | succ m =>
  unfold bY at e1
  refine tT.seq le k e1 q.err fun t ρ2 a H2 g2 i=>?_
  cases t with
  | false=>cases a;exact q _ _ _ i
  | true =>
   refine ⟨fun σ H=>∃ ρ g,Wf K G H σ ρ T g/\bY c b m ρ=some (r,ρ'),fun σ' H' h=>⟨m,Nat.lt_succ_self m,h⟩,?_⟩
   simp only [if_true] at a
   unfold af at a
   cases p:b ρ2 with
   | none=>rw [p] at a;exact nsE a
   | some p2 =>
    obtain ⟨o,ρ3⟩:=p2
    rw [p] at a
    cases o with
    | error x=>cases a;exact tS.mk le i p q
    | ok f =>
     cases f with
     | nx=>exact tS.mk le (r:=.ok .nx) i p fun σ' H' g' j=>⟨ρ3,g',j,a⟩
     | ct=>exact tS.mk le (r:=.ok .ct) i p fun σ' H' g' j=>⟨ρ3,g',j,a⟩
     | br=>cases a;exact tS.mk le (r:=.ok .br) i p q
     | rt d f=>cases a;exact tS.mk le (r:=.ok (.rt d f)) i p q
end
end L3
end
section
namespace L3
open PySem L2
abbrev Fn:=List (D × Fl)->Option (Except D (D × Fl) × List (D × Fl))
def prs (ρ:Sto):List R3->Option (List (D × Fl))
 | []=>some []
 | .pl i :: rs=>match (ρ[i]?).join,prs ρ rs with
  | some p,some ps=>some (p :: ps)
  | _,_=>none
 | .val d f :: rs=>match prs ρ rs with
  | some ps=>some ((d,f) :: ps)
  | _=>none
def d7 (rs:List R3):List Nat:=(pls rs).filter fun i=>decide (2<=(pls rs).count i)
def back:List R3->List (D × Fl)->List (D × Fl)->Sto->Sto
 | .pl i :: rs,p :: ps,q :: qs,ρ=>back rs ps qs (if p.2=.z then ρ else ρ.set i (some (q.1,if q.2=.z then .z else p.2)))
 | .val _ _ :: rs,_ :: ps,_ :: qs,ρ=>back rs ps qs ρ
 | _,_,_,ρ=>ρ
def gp (F:Fn) (ms:M3 (List R3)):EM:=af ms fun rs=>fun ρ=>match prs (frz (d7 rs) ρ) rs with
 | none=>none
 | some ps=>match F ps with
  | none=>none
  | some (.ok p,qs)=>if qs.length=ps.length then some (.ok (.val p.1 p.2),back rs ps qs (frz (d7 rs) ρ)) else none
  | some (.error e,qs)=>if qs.length=ps.length then some (.error e,back rs ps qs (frz (d7 rs) ρ)) else none
section
variable {K:FG} {G G0:Gm} {W W0:D->Sto->Prop} {H H':Hp} {σ:St} {ρ ρ':Sto} {T T':List It3} {g:Nat->Option It3} {x y z:It3} {α β:Type}
structure Back1 (K:FG) (H H':Hp) (ps:List It3) (p q:It3):Prop where
 z:p.f=.z->q=p
 v:q.v=p.v
 f:q.f=p.f\/q.f=.z
 arg:Arg K H' q
 src:∀ c ∈ q.L,H c=none\/cT ps c
 there:p.f=.u->∀ b,p.v=.ref b->∃ o,H' b=some o
structure BehindX (K:FG) (H H':Hp) (ps qs:List It3):Prop where
 frame:∀ b o,H b=some o->(∀ p ∈ ps,p.f=.u->p.v ≠ .ref b)->H' b=some o
 back:Paired (Back1 K H H' ps) ps qs
 apart:qs.Pairwise Apart3
structure Behind (K:FG) (H H':Hp) (ps qs:List It3) (x:It3):Prop extends BehindX K H H' ps qs where
 rep:Rep K H' x.d x.v x.L
 own:x.f ≠ .z->jS x.d=true/\∃ a L',x.v=.ref a/\x.L=a :: L'/\a ∉ L'/\H a=none
 src:∀ c ∈ x.L,H c=none\/cT ps c
 apx:∀ q ∈ qs,Apart3 x q
def spF (XA:D->Value->Option Addr->Hp->Prop) (K:FG) (F:Fn):Sp:=fun a H Q E=>∃ (ps:List It3) (o:Except D (D × Fl)) (fs:List (D × Fl)),a=ps.map (·.v)/\(∀ p ∈ ps,Arg K H p)/\ps.Pairwise Apart3/\F (ps.map fun p=>(p.d,p.f))=some (o,fs)/\match o with
 | .ok p=>∀ x qs H',Behind K H H' ps qs x->x.d=p.1->x.f=p.2->qs.map (fun q=>(q.d,q.f))=fs->Q x.v H'
 | .error e=>∀ qs H' cls da,BehindX K H H' ps qs->qs.map (fun q=>(q.d,q.f))=fs->XA e cls da H'->E cls da H'
theorem Ars.args:∀ {rs:List R3} {C:List V} {Ts T:List It3} {k:List (D × Fl)},Ars σ rs C Ts->Wf K G H σ ρ (Ts ++ T) g->(∀ i,2<=(pls rs).count i->∀ y,g i=some y->y.f=.z)->prs ρ rs=some k ->
  ∃ ps:List It3,ps.map (fun p=>(p.d,p.f))=k/\ps.map (·.v)=C/\ps.Pairwise Apart3/\(∀ p ∈ ps,(∃ i,R3.pl i ∈ rs/\g i=some p)\/p ∈ Ts)/\Paired (fun r p=>match r with | .pl i=>g i=some p | .val _ _=>p ∈ Ts) rs ps
 | [],_,_,T,k,.nil,w,_,e=>by cases e;exact ⟨[],rfl,rfl,.nil,fun _ h=>(by cases h),.nil⟩
 | r :: rs,_,_,T,k,.cons (v:=v0) (Ts:=T0) (Us:=U0) a as,w,hd,e=>by
  have E:Wf K G H σ ρ (U0 ++ (T0 ++ T)) g:=by rw [<- List.append_assoc];exact w
  have o:∀ i,2<=(pls rs).count i->∀ y,g i=some y->y.f=.z:=fun i s=>hd i (by
   cases r with
   | pl j=>show 2<=(j :: pls rs).count i;rw [List.count_cons];omega
   | val _ _=>exact s)
  cases a with
  | @pl i v h =>
   unfold prs at e
   cases q:(ρ[i]?).join with
   | none=>rw [q] at e;exact nsE e
   | some p0 =>
    cases l:prs ρ rs with
    | none=>rw [q,l] at e;exact nsE e
    | some pfs' =>
     rw [q,l] at e
     cases e
     obtain ⟨ps,f1,f2,t,f4,B⟩:=Ars.args as E o l
     obtain ⟨y,m,J,L,F⟩:=w.slot (d:=p0.1) (f:=p0.2) q
     have I:y.v=v0:=by rw [h] at F;cases F;rfl
     refine ⟨y :: ps,by rw [Gz,f1,J,L],by rw [Gz,f2,I],List.pairwise_cons.mpr ⟨fun p b=>?_,t⟩,fun p b=>?_,.cons m ?_⟩
     ·rcases f4 p b with ⟨j,n,c⟩ | b
      ·by_cases u:i=j
       ·subst u
        have s:2<=(pls (R3.pl i :: rs)).count i:=by
         show 2<=(i :: pls rs).count i
         rw [List.count_cons_self]
         have:=List.count_pos_iff.mpr (lA n)
         omega
        have hz:=hd i s y m
        have A:=hd i s p c
        exact ⟨fun q=>absurd hz q,fun q=>absurd A q⟩
       ·exact ⟨w.ss i j y p u m c,w.ss j i p y (Ne.symm u) c m⟩
      ·exact w.st i y m p (Gf _ (Gf _ b))
     ·rcases Gh.mp b with h' | b
      ·rw [h'];exact .inl ⟨i,Ga,m⟩
      ·rcases f4 p b with ⟨j,n,c⟩ | b
       ·exact .inl ⟨j,Gb _ n,c⟩
       ·exact .inr (Gf _ b)
     ·exact Paired.mapP B fun r p h=>by
       cases r with
       | pl j=>exact h
       | val _ _=>exact Gf _ h
  | val x =>
   unfold prs at e
   cases l:prs ρ rs with
   | none=>rw [l] at e;exact nsE e
   | some pfs' =>
    rw [l] at e
    cases e
    obtain ⟨ps,f1,f2,t,f4,B⟩:=Ars.args as E o l
    refine ⟨x :: ps,by rw [Gz,f1],by rw [Gz,f2],List.pairwise_cons.mpr ⟨fun p b=>?_,t⟩,fun p b=>?_,.cons (Gg _ Ga) ?_⟩
    ·rcases f4 p b with ⟨j,n,c⟩ | b
     ·exact (w.st j p c x (Gf _ (Gg _ Ga))).symm
     ·have t1:=(List.pairwise_append.mp w.tt).1
      exact ((List.pairwise_append.mp t1).2.2 p b x Ga).symm
    ·rcases Gh.mp b with h' | b
     ·rw [h'];exact .inr (Gg _ Ga)
     ·rcases f4 p b with ⟨j,n,c⟩ | b
      ·exact .inl ⟨j,Gb _ n,c⟩
      ·exact .inr (Gf _ b)
    ·exact Paired.mapP B fun r p h=>by
      cases r with
      | pl j=>exact h
      | val _ _=>exact Gf _ h
theorem fZ:∀ {rs:List R3} {ps qs:List It3} {ρ:Sto} {g:Nat->Option It3},(∀ j,(g j).map (fun x=>(x.d,x.f))=(ρ[j]?).join)->rs.length=ps.length->Paired (Back1 K H H' T) ps qs->(∀ i,R3.pl i ∈ rs->i < ρ.length) ->
  ∃ g':Nat->Option It3,(∀ j,(g' j).map (fun x=>(x.d,x.f))=((back rs (ps.map fun p=>(p.d,p.f)) (qs.map fun q=>(q.d,q.f)) ρ)[j]?).join)/\(back rs (ps.map fun p=>(p.d,p.f)) (qs.map fun q=>(q.d,q.f)) ρ).length = ρ.length /\
   ∀ j:Nat,(g' j=g j/\∀ (k:Nat) (p:It3),rs[k]?=some (R3.pl j)->ps[k]?=some p->p.f=.z)\/∃ (k:Nat) (p q:It3),rs[k]?=some (R3.pl j)/\ps[k]?=some p/\qs[k]?=some q/\p.f ≠ .z/\g' j=some q
 | [],[],_,ρ,g,hg,_,.nil,_=>⟨g,hg,rfl,fun j=>.inl ⟨rfl,fun k p h=>by simp at h⟩⟩
 | [],_ :: _,_,_,_,_,h,_,_=>by cases h
 | _ :: _,[],_,_,_,_,h,_,_=>by cases h
 | .val d f :: rs,p :: ps,_,ρ,g,hg,hl,.cons (b:=q) (l₂:=qs) b1 bs,hi=>by
  obtain ⟨g',h1,h2,h3⟩:=fZ (rs:=rs) hg (by simpa using hl) bs fun i h=>hi i (Gb _ h)
  refine ⟨g',h1,h2,fun j=>?_⟩
  rcases h3 j with ⟨e,h⟩ | ⟨k,a,m,a1,a2,n,l⟩
  ·refine .inl ⟨e,fun k a e1 c=>?_⟩
   cases k with
   | zero=>simp at e1
   | succ k=>exact h k a (by simpa using e1) (by simpa using c)
  ·exact .inr ⟨k+1,a,m,by simpa using a1,by simpa using a2,by simpa using n,l⟩
 | .pl i :: rs,p :: ps,_,ρ,g,hg,hl,.cons (b:=q) (l₂:=qs) b1 bs,hi=>by
  have s:=hi i Ga
  by_cases hz:p.f=.z
  ·have r:back (.pl i :: rs) ((p :: ps).map fun p=>(p.d,p.f)) ((q :: qs).map fun q=>(q.d,q.f)) ρ=back rs (ps.map fun p=>(p.d,p.f)) (qs.map fun q=>(q.d,q.f)) ρ:=by
    show back rs _ _ (if p.f=.z then ρ else _)=_
    rw [if_pos hz]
   rw [r]
   obtain ⟨g',h1,h2,h3⟩:=fZ (rs:=rs) hg (by simpa using hl) bs fun i h=>hi i (Gb _ h)
   refine ⟨g',h1,h2,fun j=>?_⟩
   rcases h3 j with ⟨e,h⟩ | ⟨k,a,m,a1,a2,n,l⟩
   ·refine .inl ⟨e,fun k a e1 c=>?_⟩
    cases k with
    | zero=>simp at c;rw [<- c];exact hz
    | succ k=>exact h k a (by simpa using e1) (by simpa using c)
   ·exact .inr ⟨k+1,a,m,by simpa using a1,by simpa using a2,by simpa using n,l⟩
  ·have r:back (.pl i :: rs) ((p :: ps).map fun p=>(p.d,p.f)) ((q :: qs).map fun q=>(q.d,q.f)) ρ=back rs (ps.map fun p=>(p.d,p.f)) (qs.map fun q=>(q.d,q.f)) (ρ.set i (some (q.d,q.f))):=by
    show back rs _ _ (if p.f=.z then ρ else ρ.set i (some (q.d,if q.f=.z then .z else p.f)))=_
    rw [if_neg hz]
    have:(if q.f=.z then Fl.z else p.f)=q.f:=by
     by_cases h:q.f=.z
     ·rw [if_pos h,h]
     ·rw [if_neg h]
      rcases b1.f with h' | h'
      ·exact h'.symm
      ·exact absurd h' h
    rw [this]
   rw [r]
   obtain ⟨g',h1,h2,h3⟩:=fZ (rs:=rs) (ρ:=ρ.set i (some (q.d,q.f))) (g:=fun j=>if j=i then some q else g j) (fun j=>by
    rw [cM s]
    by_cases e:j=i
    ·rw [if_pos e,if_pos e];rfl
    ·rw [if_neg e,if_neg e];exact hg j) (by simpa using hl) bs fun i h=>by rw [List.length_set];exact hi i (Gb _ h)
   refine ⟨g',h1,by rw [h2,List.length_set],fun j=>?_⟩
   rcases h3 j with ⟨e,h⟩ | ⟨k,a,m,a1,a2,n,l⟩
   ·by_cases o:j=i
    ·rw [if_pos o] at e
     exact .inr ⟨0,p,q,by simp [o],rfl,rfl,hz,e⟩
    ·rw [if_neg o] at e
     refine .inl ⟨e,fun k a e1 c=>?_⟩
     cases k with
     | zero=>simp at e1;exact absurd e1.symm o
     | succ k=>exact h k a (by simpa using e1) (by simpa using c)
   ·exact .inr ⟨k+1,a,m,by simpa using a1,by simpa using a2,by simpa using n,l⟩
theorem pF:∀ {rs:List R3} {a:List (D × Fl)},prs ρ rs=some a->rs.length=a.length
 | [],a,e=>by cases e;rfl
 | .pl i :: rs,a,e=>by
  unfold prs at e
  cases q:(ρ[i]?).join with
  | none=>rw [q] at e;exact nsE e
  | some p =>
   cases b:prs ρ rs with
   | none=>rw [q,b] at e;exact nsE e
   | some ps=>rw [q,b] at e;cases e;rw [GG,GG,pF b]
 | .val d f :: rs,a,e=>by
  unfold prs at e
  cases b:prs ρ rs with
  | none=>rw [b] at e;exact nsE e
  | some ps=>rw [b] at e;cases e;rw [GG,GG,pF b]
theorem tN:∀ {rs:List R3} {a:List (D × Fl)},prs ρ rs=some a->∀ i,R3.pl i ∈ rs->i < ρ.length
 | [],a,e,i,h=>by cases h
 | .pl i :: rs,a,e,j,h=>by
  unfold prs at e
  cases q:(ρ[i]?).join with
  | none=>rw [q] at e;exact nsE e
  | some p =>
   cases b:prs ρ rs with
   | none=>rw [q,b] at e;exact nsE e
   | some ps =>
    rcases Gh.mp h with h | h
    ·cases h;exact fX q
    ·exact tN b j h
 | .val d f :: rs,a,e,j,h=>by
  unfold prs at e
  cases b:prs ρ rs with
  | none=>rw [b] at e;exact nsE e
  | some ps =>
   rcases Gh.mp h with h | h
   ·cases h
   ·exact tN b j h
theorem Paired.at:∀ {l:List α} {m:List β} {k:Nat} {a:α} {b:β},Paired F l m->l[k]?=some a->m[k]?=some b->F a b
 | _,_,_,_,_,.nil,h,_=>by simp at h
 | _,_,0,_,_,.cons r _,h,h'=>by simp at h h';subst h h';exact r
 | _,_,k+1,_,_,.cons _ t,h,h'=>Paired.at (k:=k) t (by simpa using h) (by simpa using h')
theorem Paired.exL:∀ {l:List α} {m:List β} {k:Nat} {a:α},Paired F l m->l[k]?=some a->∃ b,m[k]?=some b/\F a b
 | _,_,_,_,.nil,h=>by simp at h
 | _,_,0,_,.cons r _,h=>by simp at h;subst h;exact ⟨_,rfl,r⟩
 | _,_,k+1,_,.cons _ t,h=>let ⟨b,h1,h2⟩:=Paired.exL (k:=k) t (by simpa using h);⟨b,by simpa using h1,h2⟩
theorem Paired.exR:∀ {l:List α} {m:List β} {k:Nat} {b:β},Paired F l m->m[k]?=some b->∃ a,l[k]?=some a/\F a b
 | _,_,_,_,.nil,h=>by simp at h
 | _,_,0,_,.cons r _,h=>by simp at h;subst h;exact ⟨_,rfl,r⟩
 | _,_,k+1,_,.cons _ t,h=>let ⟨b,h1,h2⟩:=Paired.exR (k:=k) t (by simpa using h);⟨b,by simpa using h1,h2⟩
theorem cu {R:α->α->Prop} {l:List α} (p:l.Pairwise R) (f:∀ a b,R a b->R b a) {i j:Nat} {a b:α} (n:i ≠ j) (d:l[i]?=some a) (c:l[j]?=some b):R a b:=by
 obtain ⟨h1,e1⟩:=Gp.mp d
 obtain ⟨h2,e⟩:=Gp.mp c
 have q:=List.pairwise_iff_getElem.mp p
 grind
theorem Wf.after (w:Wf K G H σ ρ (Ts ++ T) g) (e:prs ρ rs=some pfs) (f1:ps.map (fun p=>(p.d,p.f))=pfs) (f4:∀ p ∈ ps,(∃ i,R3.pl i ∈ rs/\g i=some p)\/p ∈ Ts) (f5:Paired (fun r p=>match r with | .pl i=>g i=some p | .val _ _=>p ∈ Ts) rs ps) (B:BehindX K H H' ps qs) :
  ∃ g',Wf K G H' σ (L3.back rs pfs (qs.map fun q=>(q.d,q.f)) ρ) T g' /\
   ∀ x,Rep K H' x.d x.v x.L->(x.f ≠ .z->jS x.d=true/\∃ a L',x.v=.ref a/\x.L=a :: L'/\a ∉ L'/\H a=none)->(∀ c ∈ x.L,H c=none\/cT ps c)->(∀ q ∈ qs,Apart3 x q)->Wf K G H' σ (L3.back rs pfs (qs.map fun q=>(q.d,q.f)) ρ) (x :: T) g':=by
 subst f1
 have W:rs.length=ps.length:=by have:=pF e;rwa [Go] at this
 obtain ⟨g',h1,h2,h3⟩:=fZ (K:=K) (H:=H) (H':=H') (T:=ps) (rs:=rs) (ps:=ps) (qs:=qs) w.sl W B.back (tN e)
 have F:∀ p ∈ ps,Itm (Ts ++ T) g p:=fun p l=>by
  rcases f4 p l with ⟨i,_,Q⟩ | h
  ·exact .inl ⟨i,Q⟩
  ·exact .inr (Gf _ h)
 have X:∀ b o,H b=some o->∃ o',H' b=some o':=fun b o S=>by
  by_cases h:∀ p ∈ ps,p.f=.u->p.v ≠ .ref b
  ·exact ⟨o,B.frame b o S h⟩
  ·have h':∃ p,p ∈ ps/\p.f=.u/\p.v=.ref b:=by
    refine Classical.byContradiction fun n=>h fun p l hf J=>n ⟨p,l,hf,J⟩
   obtain ⟨p,l,hf,J⟩:=h'
   obtain ⟨k,hk,ek⟩:=List.mem_iff_getElem.mp l
   obtain ⟨q,e1,b1⟩:=Paired.exL B.back (show ps[k]?=some p by rw [Gi hk,ek])
   exact b1.there hf b J
 have ka:∀ j z,g j=some z->(∀ (k:Nat) (p:It3),rs[k]?=some (R3.pl j)->ps[k]?=some p->p.f=.z)->∀ p ∈ ps,Apart3 p z:=fun j z ej hu p l=>by
  rcases f4 p l with ⟨i,hi,Q⟩ | h
  ·by_cases ij:i=j
   ·subst ij
    have ae:p=z:=GU (Q.symm.trans ej)
    subst ae
    have hz:p.f=.z:=by
     obtain ⟨k,hk,ek⟩:=List.mem_iff_getElem.mp hi
     have Y:rs[k]?=some (R3.pl i):=by rw [Gi hk,ek]
     obtain ⟨C,e1,D⟩:=Paired.exL f5 Y
     have D:g i=some C:=D
     rw [Q] at D
     cases D
     exact hu k p Y e1
    exact ⟨fun q=>absurd hz q,fun q=>absurd hz q⟩
   ·exact ⟨w.ss i j p z ij Q ej,w.ss j i z p (Ne.symm ij) ej Q⟩
  ·exact (w.st j z ej p (Gf _ h)).symm
 have kt:∀ z ∈ T,∀ p ∈ ps,Apart3 p z:=fun z hz p l=>by
  rcases f4 p l with ⟨i,hi,Q⟩ | h
  ·exact w.st i p Q z (Gg _ hz)
  ·exact (List.pairwise_append.mp w.tt).2.2 p h z hz
 have keep:∀ z,ItOk K G H z->(∀ p ∈ ps,Apart3 p z)->ItOk K G H' z:=fun z P V=>by
  refine P.keep (M:=fun b=>∃ p ∈ ps,p.f=.u/\p.v=.ref b) (fun b o S n=>B.frame b o S fun p l hf J=>n ⟨p,l,hf,J⟩) (fun b ⟨p,l,hf,J⟩=>?_) (fun b S ⟨p,l,hf,J⟩=>?_)
  ·obtain ⟨_,a,L',e1,D,_⟩:=(w.itm (F p l)).own (by rw [hf];intro q;cases q)
   rw [J] at e1
   cases e1
   exact (w.itm (F p l)).rep.inH b (by rw [D];exact Ga)
  ·exact (V p l).1 (by rw [hf];intro q;cases q) b J S
 have ar:∀ k p q,ps[k]?=some p->qs[k]?=some q->ItOk K G H' q:=fun k p q e1 D=>by
  have b:=Paired.at B.back e1 D
  refine ⟨b.arg.rep,fun hf=>?_,fun c U=>?_⟩
  ·obtain ⟨m,a,L',v1,v2,v3⟩:=b.arg.own hf
   refine ⟨m,a,L',v1,v2,v3,fun hu=>?_⟩
   have pf:p.f=.u:=by
    rcases b.f with h | h
    ·rw [<- h];exact hu
    ·rw [h] at hu;cases hu
   obtain ⟨_,a',a4,e3,_,_,e5⟩:=(w.itm (F p (Gq e1))).own (by rw [pf];intro q;cases q)
   rw [<- b.v,v1] at e3
   cases e3
   exact e5 pf
  ·rcases b.src c U with h | ⟨C,A,h⟩
   ·exact .inl (w.h0none h)
   ·exact (w.itm (F C A)).src c h
 have kq:∀ z,ItOk K G H z->(∀ p ∈ ps,Apart3 p z)->∀ k p q,ps[k]?=some p->qs[k]?=some q->Apart3 z q:=fun z P V k p q e1 D=>by
  have b:=Paired.at B.back e1 D
  refine ⟨fun hf a ev hm=>?_,fun hf a ev=>?_⟩
  ·rcases b.src a hm with h | ⟨C,A,U⟩
   ·obtain ⟨_,a',L',s,O,_⟩:=P.own hf
    rw [ev] at s;cases s
    obtain ⟨o,I⟩:=(P.rep.inH a (by rw [O];exact Ga)).ex
    rw [h] at I;exact nsE I
   ·exact (V C A).2 hf a ev U
  ·have pf:p.f ≠ .z:=fun Z=>by
    have:=b.z Z
    rw [this] at hf
    exact hf Z
   exact (V p (Gq e1)).1 pf a (by rw [<- b.v];exact ev)
 have old:∀ j z,g' j=some z->(g j=some z/\∀ p ∈ ps,Apart3 p z)\/∃ k p,rs[k]?=some (R3.pl j)/\ps[k]?=some p/\qs[k]?=some z:=fun j z E=>by
  rcases h3 j with ⟨e1,hu⟩ | ⟨k,p,q,a1,a2,y,_,a5⟩
  ·rw [e1] at E
   exact .inl ⟨E,ka j z E hu⟩
  ·rw [a5] at E
   cases E
   exact .inr ⟨k,p,a1,a2,y⟩
 have wf:Wf K G H' σ (L3.back rs (ps.map fun p=>(p.d,p.f)) (qs.map fun q=>(q.d,q.f)) ρ) T g':=by
  refine ⟨by rw [h2];exact w.len,h1,fun j z E=>?_,fun j z E=>?_,fun z hz=>keep z (w.okT z (Gg _ hz)) (kt z hz),fun i j a b n R eb=>?_,fun j z E t N=>?_,(List.pairwise_append.mp w.tt).2.1,fun b o e n=>?_,w.pro,⟨fun u hu=>w.fx.frT u (Gg _ hu),fun j u h l hf a R=>?_,fun b S=>?_,fun b o h=>?_,fun j u h W=>?_⟩⟩
  ·rcases old j z E with ⟨e1,_⟩ | ⟨k,p,a1,a2,y⟩
   ·exact w.sv j z e1
   ·have ep:g j=some p:=by
     obtain ⟨C,s,O⟩:=Paired.exL f5 a1
     rw [a2] at s;cases s
     exact O
    rw [(Paired.at B.back a2 y).v]
    exact w.sv j p ep
  ·rcases old j z E with ⟨e1,ap⟩ | ⟨k,p,a1,a2,y⟩
   ·exact keep z (w.okS j z e1) ap
   ·exact ar k p z a2 y
  ·rcases old i a R with ⟨e1,ap⟩ | ⟨k,p,a1,a2,y⟩
   ·rcases old j b eb with ⟨D,_⟩ | ⟨k',C,b1,b2,b3⟩
    ·exact w.ss i j a b n e1 D
    ·exact (kq a (w.okS i a e1) ap k' C b b2 b3).1
   ·rcases old j b eb with ⟨D,ap⟩ | ⟨k',C,b1,b2,b3⟩
    ·exact (kq b (w.okS j b D) ap k p a a2 y).2
    ·have kk:k ≠ k':=fun z=>by
      subst z
      rw [a1] at b1
      cases b1
      exact n rfl
     exact (cu B.apart (fun _ _=>Apart3.symm) kk y b3).1
  ·rcases old j z E with ⟨e1,ap⟩ | ⟨k,p,a1,a2,y⟩
   ·exact w.st j z e1 t (Gg _ N)
   ·exact (kq t (w.okT t (Gg _ N)) (kt t N) k p z a2 y).symm
  ·refine B.frame b o (w.base b o e n) fun p l hf J=>?_
   obtain ⟨_,a,L',e1,_,_,e3⟩:=(w.itm (F p l)).own (by rw [hf];intro q;cases q)
   rw [J] at e1
   cases e1
   rcases e3 hf with h | h
   ·rw [e] at h;cases h
   ·exact n h
  ·rcases old j u h with ⟨e1,_⟩ | ⟨k,p,a1,a2,y⟩
   ·exact w.fx.frS j u e1 l hf a R
   ·have b:=Paired.at B.back a2 y
    have ep:g j=some p:=by
     obtain ⟨C,s,O⟩:=Paired.exL f5 a1
     rw [a2] at s;cases s
     exact O
    refine w.fx.frS j p ep l (fun Z=>?_) a (by rw [<- b.v];exact R)
    have:=b.z Z
    rw [this] at hf
    exact hf Z
  ·obtain ⟨o,I⟩:=w.fx.bin b S
   exact X b o I
  ·obtain ⟨o',I⟩:=w.fx.ob b o h
   exact X b o' I
  ·rcases old j u h with ⟨e1,_⟩ | ⟨k,p,a1,a2,y⟩
   ·exact w.fx.lvS j u e1 W
   ·have b:=Paired.at B.back a2 y
    have ep:g j=some p:=by
     obtain ⟨C,s,O⟩:=Paired.exL f5 a1
     rw [a2] at s;cases s
     exact O
    rw [b.v]
    refine w.fx.lvS j p ep ?_
    rcases b.f with h | h
    ·rw [<- h];exact W
    ·rw [h] at W;cases W
 refine ⟨g',wf,fun x rx ox sx ax=>?_⟩
 have kx:∀ z,ItOk K G H z->(∀ p ∈ ps,Apart3 p z)->Apart3 z x:=fun z P V=>by
  refine ⟨fun hf a ev hm=>?_,fun hf a ev hm=>?_⟩
  ·rcases sx a hm with h | ⟨C,A,U⟩
   ·obtain ⟨_,a',L',s,O,_⟩:=P.own hf
    rw [ev] at s;cases s
    obtain ⟨o,I⟩:=(P.rep.inH a (by rw [O];exact Ga)).ex
    rw [h] at I;exact nsE I
   ·exact (V C A).2 hf a ev U
  ·obtain ⟨_,a',L',s,_,_,q4⟩:=ox hf
   rw [ev] at s;cases s
   obtain ⟨o,I⟩:=(P.rep.inH a hm).ex
   rw [q4] at I;exact nsE I
 refine ⟨wf.len,wf.sl,wf.sv,wf.okS,fun z hz=>?_,wf.ss,fun j z E t N=>?_,?_,wf.base,wf.pro,⟨fun u hu hf a R=>?_,wf.fx.frS,wf.fx.bin,wf.fx.ob,wf.fx.lvS⟩⟩
 ·rcases Gh.mp hz with h | hz
  ·rw [h]
   refine ⟨rx,fun hf=>?_,fun c U=>?_⟩
   ·obtain ⟨m,a,L',v1,v2,v3,v4⟩:=ox hf
    exact ⟨m,a,L',v1,v2,v3,fun _=>.inl (w.h0none v4)⟩
   ·rcases sx c U with h | ⟨C,A,h⟩
    ·exact .inl (w.h0none h)
    ·exact (w.itm (F C A)).src c h
  ·exact wf.okT z hz
 ·rcases Gh.mp N with h | N
  ·rw [h]
   rcases old j z E with ⟨e1,ap⟩ | ⟨k,p,a1,a2,y⟩
   ·exact kx z (w.okS j z e1) ap
   ·exact (ax z (Gq y)).symm
  ·exact wf.st j z E t N
 ·exact List.pairwise_cons.mpr ⟨fun t N=>(kx t (w.okT t (Gg _ N)) (kt t N)).symm,wf.tt⟩
 ·rcases Gh.mp hu with h | hu
  ·subst h
   obtain ⟨_,a',L',s,_,_,q4⟩:=ox hf
   rw [R] at s;cases s
   exact w.ornone q4
  ·exact wf.fx.frT u hu hf a R
theorem ub {i a:Nat} (h:(ρ[i]?).join=none):((L3.lowAt a ρ)[i]?).join=none:=by
 unfold L3.lowAt
 split
 ·grind
 ·rename_i d hd
  rw [cM (fX hd)]
  by_cases b:i=a
  ·subst b;rw [h] at hd;exact nsE hd
  ·rw [if_neg b];exact h
 ·exact h
theorem mK {i:Nat}:∀ {is:List Nat} {ρ:Sto},(ρ[i]?).join=none->((L3.frz is ρ)[i]?).join=none
 | [],ρ,h=>h
 | a :: is,ρ,h=>mK (is:=is) (ρ:=L3.lowAt a ρ) (ub h)
def EX (XA:D->Value->Option Addr->Hp->Prop) (K:FG) (G:Gm) (W:D->Sto->Prop) (σ:St):XK:=fun cls da H'=>∃ e ρ' T' g',Wf K G H' σ ρ' T' g'/\XA e cls da H'/\W e ρ'
theorem Bg (h:tE K G0 W0 (gp F ms) σ H Q):tA K G0 W0 ms σ H fun C H1=>spF XA K F C H1 Q (EX XA K G0 W0 σ):=by
 refine h.use fun G W le ρ T g o ρ' w e q=>?_
 refine tA.seq le w e q.err fun rs ρ1 e1 C H1 Ts g1 u a1=>?_
 obtain ⟨g2,b,J⟩:=Wf.frz (is:=d7 rs) u
 cases j:prs (L3.frz (d7 rs) ρ1) rs with
 | none=>rw [j] at e1;exact nsE e1
 | some pfs =>
  rw [j] at e1
  dsimp only at e1
  have hd:∀ i,2<=(pls rs).count i->∀ y,g2 i=some y->y.f=.z:=fun i M y D=>by
   have hm:i ∈ d7 rs:=GM.mpr ⟨List.count_pos_iff.mp (by omega),by simpa using M⟩
   have s1:=b.sl i
   rw [D] at s1
   have U:∃ y0,g1 i=some y0:=by
    cases R:g1 i with
    | some y0=>exact ⟨y0,rfl⟩
    | none =>
     exfalso
     have s2:=u.sl i
     rw [R] at s2
     have:=mK (is:=d7 rs) s2.symm
     rw [this] at s1
     cases s1
   obtain ⟨y0,s⟩:=U
   obtain ⟨Z,c,_,E⟩:=J i y0 s
   rw [D] at c
   cases c
   exact E hm
  obtain ⟨ps,f1,f2,O,f4,A⟩:=Ars.args a1 b hd j
  have hit:∀ p ∈ ps,Itm (Ts ++ T) g2 p:=fun p k=>by
   rcases f4 p k with ⟨i,_,X⟩ | h
   ·exact .inl ⟨i,X⟩
   ·exact .inr (Gf _ h)
  have d:∀ p ∈ ps,Arg K H1 p:=fun p k=>⟨(b.itm (hit p k)).rep,fun hf=>by
   obtain ⟨m,a,L',v1,v2,v3,_⟩:=(b.itm (hit p k)).own hf
   exact ⟨m,a,L',v1,v2,v3⟩⟩
  subst f2
  cases c:F pfs with
  | none=>rw [c] at e1;exact nsE e1
  | some r =>
   obtain ⟨out,fs⟩:=r
   rw [c] at e1
   refine ⟨ps,out,fs,rfl,d,O,by rw [f1];exact c,?_⟩
   cases out with
   | ok p =>
    dsimp only at e1
    split at e1
    ·cases e1
     intro x qs H' B x1 S l
     obtain ⟨g',n,Y⟩:=Wf.after b j f1 f4 A B.toBehindX
     have t:=Y x B.rep B.own B.src B.apx
     rw [l] at t
     rw [<- x1,<- S] at q
     exact q x.v H' ⟨[x],g',t,.val x⟩
    ·exact nsE e1
   | error er =>
    dsimp only at e1
    split at e1
    ·cases e1
     intro qs H' cls da B l P
     obtain ⟨g',n,_⟩:=Wf.after b j f1 f4 A B
     rw [l] at n
     obtain ⟨ρ5,V,I,L,N⟩:=le.ex H' σ _ T g' er n q
     exact ⟨er,ρ5,V,I,L,P,N⟩
    ·exact nsE e1
end
end L3
end
section
namespace L3
open PySem L2
def du (ρ:Sto):Nat->List (D × Fl)->Option (List (D × Fl))
 | _,[]=>some []
 | i,(d,.z) :: ps=>(du ρ (i+1) ps).map fun r=>(d,.z) :: r
 | i,(d,f) :: ps=>match (ρ[i]?).join,du ρ (i+1) ps with
  | some (d',f'),some r=>if f'=f\/f'=.z then some ((d',f') :: r) else none
  | _,_=>none
def d6 (n:Nat) (ps:List (D × Fl)):Sto:=ps.map some ++ List.replicate (n - ps.length) none
def fn0 (n:Nat) (b:SM):Fn:=fun ps=>match b (d6 n ps) with
 | some (.ok .nx,ρ')=>(du ρ' 0 ps).map fun fs=>(.ok (.non,.z),fs)
 | some (.ok (.rt d f),ρ')=>(du ρ' 0 ps).map fun fs=>(.ok (d,f),fs)
 | some (.error e,ρ')=>(du ρ' 0 ps).map fun fs=>(.error e,fs)
 | _=>none
def lf (b:Bool) (p:D × Fl):D × Fl:=if b then (p.1,.z) else p
noncomputable def fnM (mask:List Bool) (n:Nat) (b:SM):Fn:=fun ps=>if ps.length=mask.length then fn0 n b (List.zipWith lf mask ps) else none
section
variable {K:FG} {G:Gm} {W:D->Sto->Prop} {H H':Hp} {σ:St} {ρ ρ':Sto} {T T':List It3} {g:Nat->Option It3} {x y z:It3} {α β:Type}
def gOf (H:Hp) (pr:Nat->Bool) (σ0:St) (ps:List It3):Gm:=⟨H,fun b=>∃ p ∈ ps,p.f=.u/\p.v=.ref b,pr,σ0,H,cT ps,fun i=>(ps[i]?).map (·.v)⟩
theorem xA {n:Nat} (a:ps.length<=n) (i:Nat):((d6 n ps)[i]?).join=ps[i]?:=by
 unfold d6
 grind
theorem j7 {n:Nat} {a:List V} {i:Nat} (h:a[i]?=some v):(a.map some ++ List.replicate n (none:Option V))[i]?=some (some v):=by grind
theorem qw {n:Nat} (r:ps.length<=n) (g:∀ p ∈ ps,Arg K H p) (w:ps.Pairwise Apart3) (k:∀ (i:Nat) (p:It3),ps[i]?=some p->p.f ≠ .z->pr i=true) :
  Wf K (gOf H pr ((ps.map (·.v)).map some ++ List.replicate (n - (ps.map (·.v)).length) none) ps) H ((ps.map (·.v)).map some ++ List.replicate (n - (ps.map (·.v)).length) none) (d6 n (ps.map fun p=>(p.d,p.f))) [] (fun i=>ps[i]?):=by
 refine ⟨?_,fun i=>?_,fun i x e=>?_,fun i x e=>?_,fun _ h=>(by cases h),fun i j a b n s l=>?_,fun _ _ _ _ h=>(by cases h),.nil,fun b o e _=>e,fun i _=>rfl,⟨fun _ h=>(by cases h),fun i x e hz hf=>?_,fun b h=>?_,fun b o e=>⟨o,e⟩,fun i x e _=>(by show (ps[i]?).map (·.v)=_;rw [e];rfl)⟩⟩
 ·unfold d6;simp
 ·rw [xA (by simpa using r),Gu]
 ·exact j7 (by rw [Gu,e];rfl)
 ·have hm:=Gq e
  refine ⟨(g x hm).rep,fun hf=>?_,fun c t=>.inr ⟨x,hm,t⟩⟩
  obtain ⟨m,a,L',v1,v2,v3⟩:=(g x hm).own hf
  exact ⟨m,a,L',v1,v2,v3,fun hu=>.inr ⟨x,hm,hu,v1⟩⟩
 ·exact (cu w (fun _ _=>Apart3.symm) n s l).1
 ·have hz:pr i=false:=hz
  rw [k i x e hf] at hz;cases hz
 ·obtain ⟨p,hm,hf,u⟩:=h
  obtain ⟨_,a,L',v1,v2,_⟩:=(g p hm).own (by rw [hf];intro q;cases q)
  rw [u] at v1;cases v1
  exact ((g p hm).rep.inH b (by rw [v2];exact Ga)).ex
def FinsOk (ρ:Sto) (i:Nat) (ps fs:List (D × Fl)):Prop:=fs.length=ps.length/\∀ (k:Nat) (p:D × Fl),ps[k]?=some p->∃ q,fs[k]?=some q/\(p.2=.z->q=p)/\(p.2 ≠ .z->(ρ[i+k]?).join=some q/\(q.2=p.2\/q.2=.z))
theorem FinsOk.cons {i:Nat} {e d:D × Fl} {ps fs:List (D × Fl)} (h:FinsOk ρ (i+1) ps fs) (hz:e.2=.z->d=e) (g:e.2 ≠ .z->(ρ[i]?).join=some d/\(d.2=e.2\/d.2=.z)):FinsOk ρ i (e :: ps) (d :: fs):=by
 refine ⟨by rw [GG,GG,h.1],fun k p f=>?_⟩
 cases k with
 | zero=>cases f;exact ⟨d,rfl,hz,g⟩
 | succ k =>
  obtain ⟨q,a,b,c⟩:=h.2 k p f
  grind
theorem ky:∀ {i:Nat} {ps:List (D × Fl)} {fs:List (D × Fl)},du ρ i ps=some fs->FinsOk ρ i ps fs
 | i,[],fs,e=>by cases e;exact ⟨rfl,fun k p h=>by cases h⟩
 | i,p0 :: ps,fs,e=>by
  obtain ⟨d,f⟩:=p0
  have key:f ≠ .z->(match (ρ[i]?).join,du ρ (i+1) ps with
    | some (d',a),some r=>if a=f\/a=.z then some ((d',a) :: r) else none
    | _,_=>none)=some fs->FinsOk ρ i ((d,f) :: ps) fs:=fun hf e=>by
   cases h:(ρ[i]?).join with
   | none=>rw [h] at e;exact nsE e
   | some p0 =>
    cases h2:du ρ (i+1) ps with
    | none=>rw [h,h2] at e;exact nsE e
    | some r =>
     rw [h,h2] at e
     obtain ⟨d',a⟩:=p0
     dsimp only at e
     rcases Decidable.em (a=f\/a=.z) with b | b
     ·rw [if_pos b] at e
      cases e
      exact (ky h2).cons (fun z=>absurd z hf) fun _=>⟨h,b⟩
     ·rw [if_neg b] at e;exact nsE e
  cases f with
  | z =>
   obtain ⟨r,h,h'⟩:=Ge.mp (show (du ρ (i+1) ps).map (fun r=>(d,Fl.z) :: r)=some fs from e)
   subst h'
   exact (ky h).cons (fun _=>rfl) fun n=>absurd rfl n
  | u=>exact key (by intro q;cases q) e
  | l=>exact key (by intro q;cases q) e
theorem kX {P:Nat->α->β->Prop}:∀ (l:List α) (i:Nat),(∀ (k:Nat) a,l[k]?=some a->∃ b,P (i+k) a b)->∃ m:List β,m.length=l.length/\∀ (k:Nat) a,l[k]?=some a->∃ b,m[k]?=some b/\P (i+k) a b
 | [],i,_=>⟨[],rfl,fun k a h=>by simp at h⟩
 | a :: l,i,h=>by
  obtain ⟨b,d⟩:=h 0 a rfl
  obtain ⟨m,h1,h2⟩:=kX l (i+1) fun k a e=>by
   have:=h (k+1) a (by simpa using e)
   rwa [show i+(k+1)=i+1+k by omega] at this
  refine ⟨b :: m,by simp [h1],fun k c e=>?_⟩
  cases k with
  | zero=>simp at e;subst e;exact ⟨b,rfl,d⟩
  | succ k =>
   obtain ⟨f,e1,g⟩:=h2 k c (by simpa using e)
   exact ⟨f,by simpa using e1,by rwa [show i+(k+1)=i+1+k by omega]⟩
theorem Paired.ofGet:∀ {l:List α} {m:List β},l.length=m.length->(∀ (k:Nat) a b,l[k]?=some a->m[k]?=some b->F a b)->Paired F l m
 | [],[],_,_=>.nil
 | [],_ :: _,h,_=>by cases h
 | _ :: _,[],h,_=>by cases h
 | a :: l,b :: m,h,f=>.cons (f 0 a b rfl rfl) (Paired.ofGet (by simpa using h) fun k a b e1 c=>f (k+1) a b (by simpa using e1) (by simpa using c))
theorem k8 {n:Nat} {pr:Nat->Bool} {σ0:St} {ps:List It3} {fs:List (D × Fl)} (G:∀ p ∈ ps,Arg K H p) (I:ps.Pairwise Apart3) (O:∀ (i:Nat) (p:It3),ps[i]?=some p->p.f ≠ .z->pr i=true) (h0:∀ (i:Nat) (p:It3),ps[i]?=some p->σ0[i]?=some (some p.v))
  (w:Wf K (gOf H pr σ0 ps) H' σ ρ T g) (e:du ρ 0 (ps.map fun p=>(p.d,p.f))=some fs) :
  ∃ qs,BehindX K H H' ps qs/\qs.map (fun q=>(q.d,q.f))=fs/\(∀ (k:Nat) (p q:It3),ps[k]?=some p->qs[k]?=some q->(p.f=.z/\q=p)\/(p.f ≠ .z/\g k=some q)):=by
 obtain ⟨hl,hs⟩:=ky e
 rw [Go] at hl
 have frame:∀ b o,H b=some o->(∀ p ∈ ps,p.f=.u->p.v ≠ .ref b)->H' b=some o:=fun b o t R=>w.base b o t fun ⟨p,hm,hf,x⟩=>R p hm hf x
 have there:∀ b o,H b=some o->∃ o',H' b=some o':=fun b o t=>w.fx.ob b o t
 have C:∀ (k:Nat) (p:It3),ps[k]?=some p->p.f=.z->Rep K H' p.d p.v p.L:=fun k p l hz=>by
  refine (G p (Gq l)).rep.keep (M:=fun b=>∃ p ∈ ps,p.f=.u/\p.v=.ref b) (fun b o t R=>frame b o t fun p I hf x=>R ⟨p,I,hf,x⟩) (fun b ⟨B,hm,hf,x⟩=>?_) fun b t ⟨B,hm,hf,x⟩=>?_
  ·obtain ⟨_,a,L',v1,v2,_⟩:=(G B hm).own (by rw [hf];intro q;cases q)
   rw [x] at v1;cases v1
   exact (G B hm).rep.inH b (by rw [v2];exact Ga)
  ·obtain ⟨j,N,J⟩:=List.mem_iff_getElem.mp hm
   have A:ps[j]?=some B:=by rw [Gi N,J]
   have jk:j ≠ k:=fun z=>by subst z;rw [l] at A;cases A;rw [hz] at hf;cases hf
   exact (cu I (fun _ _=>Apart3.symm) jk A l).1 (by rw [hf];intro q;cases q) b x t
 have one:∀ (k:Nat) (p:It3),ps[k]?=some p->∃ q,(q.d,q.f)=(fs[k]?).getD (p.d,p.f)/\fs[k]?=some (q.d,q.f)/\Back1 K H H' ps p q/\((p.f=.z/\q=p)\/(p.f ≠ .z/\g k=some q)):=fun k p l=>by
  have hm:=Gq l
  obtain ⟨W,f1,f2,f3⟩:=hs k (p.d,p.f) (by rw [Gu,l];rfl)
  by_cases hz:p.f=.z
  ·have:=f2 hz
   subst this
   refine ⟨p,by rw [f1];rfl,f1,⟨fun _=>rfl,rfl,.inl rfl,⟨C k p l hz,fun h=>absurd hz h⟩,fun c Q=>.inr ⟨p,hm,Q⟩,fun h=>?_⟩,.inl ⟨hz,rfl⟩⟩
   rw [hz] at h;cases h
  ·obtain ⟨h1,h2⟩:=f3 hz
   rw [GD] at h1
   obtain ⟨y,Z,y2,V,y4⟩:=w.slot (d:=W.1) (f:=W.2) h1
   have x:y.v=p.v:=by
    have:=w.pro k (O k p l hz)
    rw [y4] at this
    have h0:some (some y.v)=some (some p.v):=this.trans (h0 k p l)
    injection h0 with h0
    injection h0
   have ok:=w.okS k y Z
   refine ⟨y,by rw [f1,y2,V];rfl,by rw [f1,y2,V],⟨fun h=>absurd h hz,x,by rw [V];exact h2,⟨ok.rep,fun hf=>?_⟩,fun c Q=>ok.src c Q,fun hf b t=>?_⟩,.inr ⟨hz,Z⟩⟩
   ·obtain ⟨m,a,L',v1,v2,v3,_⟩:=ok.own hf
    exact ⟨m,a,L',v1,v2,v3⟩
   ·obtain ⟨_,a,L',v1,v2,_⟩:=(G p hm).own hz
    rw [t] at v1;cases v1
    obtain ⟨o,ho⟩:=((G p hm).rep.inH b (by rw [v2];exact Ga)).ex
    exact there b o ho
 obtain ⟨qs,hq,E⟩:=kX (P:=fun k p q=>fs[k]?=some (q.d,q.f)/\Back1 K H H' ps p q/\((p.f=.z/\q=p)\/(p.f ≠ .z/\g k=some q))) ps 0 fun k p l=>by
  obtain ⟨q,_,a,b,c⟩:=one k p l
  exact ⟨q,by simpa using ⟨a,b,c⟩⟩
 have get:∀ (k:Nat) (p q:It3),ps[k]?=some p->qs[k]?=some q->fs[k]?=some (q.d,q.f)/\Back1 K H H' ps p q/\((p.f=.z/\q=p)\/(p.f ≠ .z/\g k=some q)):=fun k p q s eq=>by
  obtain ⟨q',e1,e2⟩:=E k p s
  rw [eq] at e1
  cases e1
  simpa using e2
 have par:∀ (k:Nat) (q:It3),qs[k]?=some q->∃ p,ps[k]?=some p:=fun k q e=>by
  have Y:=(Gp.mp e).1
  exact ⟨ps[k]'(by omega),by simp [show k < ps.length by omega]⟩
 refine ⟨qs,⟨frame,Paired.ofGet hq.symm fun k p q s eq=>(get k p q s eq).2.1,?_⟩,?_,fun k p q s eq=>(get k p q s eq).2.2⟩
 ·rw [List.pairwise_iff_getElem]
  intro k j Y N lt
  have l:qs[k]?=some qs[k]:=Gi Y
  have J:qs[j]?=some qs[j]:=Gi N
  have side:∀ (k j:Nat) (q r:It3),k ≠ j->qs[k]?=some q->qs[j]?=some r->NoRoot q r:=fun k j q r n eq X=>by
   obtain ⟨p,s⟩:=par k q eq
   obtain ⟨B,F⟩:=par j r X
   obtain ⟨_,b,c⟩:=get k p q s eq
   obtain ⟨_,b',c'⟩:=get j B r F X
   rcases c with ⟨hz,e⟩ | ⟨hz,e⟩
   ·rw [e];exact fun h=>absurd hz h
   ·rcases c' with ⟨U,S⟩ | ⟨U,S⟩
    ·rw [S]
     intro hf a ea
     exact (cu I (fun _ _=>Apart3.symm) n s F).1 hz a (by rw [<- b.v];exact ea)
    ·exact w.ss k j q r n e S
  exact ⟨side k j _ _ (Gx lt) l J,side j k _ _ (Nat.ne_of_gt lt) J l⟩
 ·refine List.ext_getElem? fun k=>?_
  rw [Gu]
  cases eq:qs[k]? with
  | none =>
   have:qs.length<=k:=List.getElem?_eq_none_iff.mp eq
   rw [List.getElem?_eq_none (by omega)]
   rfl
  | some q =>
   obtain ⟨p,s⟩:=par k q eq
   rw [(get k p q s eq).1]
   rfl
theorem m8 {n:Nat} {pr:Nat->Bool} {σ0:St} {ps:List It3} {fs:List (D × Fl)} (l:∀ p ∈ ps,Arg K H p) (E:ps.Pairwise Apart3) (j:∀ (i:Nat) (p:It3),ps[i]?=some p->p.f ≠ .z->pr i=true) (h0:∀ (i:Nat) (p:It3),ps[i]?=some p->σ0[i]?=some (some p.v))
  (w:Wf K (gOf H pr σ0 ps) H' σ ρ (x :: T) g) (e:du ρ 0 (ps.map fun p=>(p.d,p.f))=some fs):∃ qs,Behind K H H' ps qs x/\qs.map (fun q=>(q.d,q.f))=fs:=by
 obtain ⟨qs,B,f,u⟩:=k8 (n:=n) l E j h0 w e
 have ok:=w.okT x Ga
 refine ⟨qs,⟨B,ok.rep,fun hf=>?_,fun c C=>ok.src c C,fun q y=>?_⟩,f⟩
 ·obtain ⟨m,a,L',v1,v2,v3,_⟩:=ok.own hf
  exact ⟨m,a,L',v1,v2,v3,w.fx.frT x Ga hf a v1⟩
 ·obtain ⟨k,F,t⟩:=List.mem_iff_getElem.mp y
  have eq:qs[k]?=some q:=by rw [Gi F,t]
  obtain ⟨p,s,b⟩:=Paired.exR B.back eq
  rcases u k p q s eq with ⟨hz,e⟩ | ⟨hz,e⟩
  ·rw [e]
   refine ⟨fun hf a A hm=>?_,fun h=>absurd hz h⟩
   have h1:=w.fx.frT x Ga hf a A
   obtain ⟨o,r⟩:=((l p (Gq s)).rep.inH a hm).ex
   have h2:H a=none:=h1
   rw [h2] at r;exact nsE r
  ·exact (w.st k q e x Ga).symm
end
end L3
end
section
namespace L3
open PySem L2
def cL:Fl->Fl
 | .u=>.l
 | f=>f
def bg (x:It3):It3:={ x with f:=cL x.f }
def gv:Fl->Fl
 | .l=>.u
 | f=>f
def A6 (x:It3):It3:={ x with f:=gv x.f }
def jK (h:Fl->Fl) (i:Nat) (ρ:Sto):Sto:=match (ρ[i]?).join with
 | some (d,f)=>ρ.set i (some (d,h f))
 | none=>ρ
def aK (h:Fl->Fl) (is:List Nat) (ρ:Sto):Sto:=is.foldl (fun ρ i=>jK h i ρ) ρ
def us (ρ:Sto) (is:List Nat):List Nat:=is.filter fun i=>match (ρ[i]?).join with
 | some (_,.u)=>true
 | _=>false
theorem lentF_z:cL f=.z ↔ f=.z:=by cases f <;> simp [cL]
theorem unlF_z:gv f=.z ↔ f=.z:=by cases f <;> simp [gv]
theorem vE (f:Fl):cL f ≠ .u:=by cases f <;> simp [cL]
theorem DB (f:Fl):gv f ≠ .l:=by cases f <;> simp [gv]
section
variable {K:FG} {G G0:Gm} {W W0:D->Sto->Prop} {H H':Hp} {σ:St} {ρ ρ':Sto} {T T':List It3} {g:Nat->Option It3} {x y z:It3} {α β:Type}
theorem t4 {i j:Nat}:((jK h i ρ)[j]?).join=if j=i then ((ρ[j]?).join).map (fun p=>(p.1,h p.2)) else (ρ[j]?).join:=by
 unfold jK
 grind
theorem wX {i:Nat}:(jK h i ρ).length = ρ.length:=by
 unfold jK
 split
 ·rw [List.length_set]
 ·rfl
theorem ik (a:∀ f,h (h f)=h f):∀ {is:List Nat} {ρ:Sto} {j:Nat},((aK h is ρ)[j]?).join=if j ∈ is then ((ρ[j]?).join).map (fun p=>(p.1,h p.2)) else (ρ[j]?).join
 | [],ρ,j=>by simp [aK]
 | i :: is,ρ,j=>by
  have e:aK h (i :: is) ρ=aK h is (jK h i ρ):=rfl
  rw [e,ik a,t4]
  by_cases q:j=i
  ·subst q
   by_cases m:j ∈ is
   ·rw [if_pos m,if_pos rfl,if_pos Ga]
    cases (ρ[j]?).join with
    | none=>rfl
    | some p=>simp [a]
   ·rw [if_neg m,if_pos rfl,if_pos Ga]
  ·by_cases m:j ∈ is
   ·rw [if_pos m,if_neg q,if_pos (Gb _ m)]
   ·rw [if_neg m,if_neg q,if_neg (fun z=>(Gh.mp z).elim q m)]
theorem jp:∀ {is:List Nat} {ρ:Sto},(aK h is ρ).length = ρ.length
 | [],ρ=>rfl
 | i :: is,ρ=>by
  have e:aK h (i :: is) ρ=aK h is (jK h i ρ):=rfl
  rw [e,jp,wX]
def d5 (G:Gm) (H:Hp) (g:Nat->Option It3) (is:List Nat):Gm :=
 ⟨H,fun b=>∃ j y,j ∉ is/\g j=some y/\y.f=.u/\y.v=.ref b,G.pr,G.σ0,G.orig,fun c=>G.H0 c=none\/G.src c,fun j=>if j ∈ is then (g j).map (·.v) else G.lv j⟩
structure Fk (x y:It3):Prop where
 d:y.d=x.d
 v:y.v=x.v
 L:y.L=x.L
 z:y.f=.z ↔ x.f=.z
theorem Fk.noRoot (a:Fk x x') (b:Fk y y') (h:NoRoot x y):NoRoot x' y':=fun hf c e=>by
 rw [b.L]
 exact h (fun q=>hf (a.z.mpr q)) c (by rw [<- a.v];exact e)
theorem Fk.apart (a:Fk x x') (b:Fk y y') (h:Apart3 x y):Apart3 x' y':=⟨a.noRoot b h.1,b.noRoot a h.2⟩
theorem Fk.refl (x:It3):Fk x x:=⟨rfl,rfl,rfl,Iff.rfl⟩
theorem lD (x:It3):Fk x (bg x):=⟨rfl,rfl,rfl,lentF_z⟩
theorem FJ (x:It3):Fk x (A6 x):=⟨rfl,rfl,rfl,unlF_z⟩
theorem rM {o:Option It3} {h:Fl->Fl} (e:o.map (fun x=>(x.d,x.f))=p):(o.map fun x=>{ x with f:=h x.f }).map (fun x:It3=>(x.d,x.f))=p.map fun p=>(p.1,h p.2):=by
 subst e
 cases o <;> rfl
theorem Wf.enter (w:Wf K G H σ ρ T g) (is:List Nat):Wf K (d5 G H g is) H σ (aK cL is ρ) (T.map bg) (fun j=>if j ∈ is then (g j).map bg else g j):=by
 have val:∀ j u,(if j ∈ is then (g j).map bg else g j)=some u->∃ l,g j=some l/\Fk l u/\((j ∈ is/\u=bg l)\/(j ∉ is/\u=l)):=fun j u h=>by
  by_cases q:j ∈ is
  ·rw [if_pos q] at h
   obtain ⟨l,e1,s⟩:=Ge.mp h
   subst s
   exact ⟨l,e1,lD l,.inl ⟨q,rfl⟩⟩
  ·rw [if_neg q] at h
   exact ⟨u,h,Fk.refl u,.inr ⟨q,rfl⟩⟩
 refine ⟨by rw [jp];exact w.len,fun j=>?_,fun j u h=>?_,fun j u h=>?_,fun u hu=>?_,fun i j a b n A p=>?_,fun j a h b p=>?_,?_,fun b o e _=>e,w.pro,⟨fun u hu hf a r=>?_,fun j u h C hf a r=>?_,fun b p=>?_,w.fx.ob,fun j u h B=>?_⟩⟩
 ·rw [ik (by intro f;cases f <;> rfl)]
  by_cases q:j ∈ is
  ·rw [if_pos q,if_pos q];exact rM (w.sl j)
  ·rw [if_neg q,if_neg q];exact w.sl j
 ·obtain ⟨l,e,k,_⟩:=val j u h
  rw [k.v];exact w.sv j l e
 ·obtain ⟨l,e,k,c⟩:=val j u h
  have ok:=w.okS j l e
  refine ⟨by rw [k.d,k.v,k.L];exact ok.rep,fun hf=>?_,fun c t=>.inr (ok.src c (by rw [<- k.L];exact t))⟩
  obtain ⟨m,a,L',v1,v2,v3,_⟩:=ok.own (fun q=>hf (k.z.mpr q))
  refine ⟨by rw [k.d];exact m,a,L',by rw [k.v];exact v1,by rw [k.L];exact v2,v3,fun hu=>?_⟩
  rcases c with ⟨_,rfl⟩ | ⟨D,rfl⟩
  ·exact absurd hu (vE _)
  ·exact .inr ⟨j,u,D,e,hu,v1⟩
 ·obtain ⟨l,h0,rfl⟩:=Gs.mp hu
  have ok:=w.okT l h0
  refine ⟨ok.rep,fun hf=>?_,fun c t=>.inr (ok.src c t)⟩
  obtain ⟨m,a,L',v1,v2,v3,_⟩:=ok.own (fun q=>hf (lentF_z.mpr q))
  exact ⟨m,a,L',v1,v2,v3,fun hu=>absurd hu (vE _)⟩
 ·obtain ⟨a0,e1,k1,_⟩:=val i a A
  obtain ⟨b0,s,k2,_⟩:=val j b p
  exact k1.noRoot k2 (w.ss i j a0 b0 n e1 s)
 ·obtain ⟨a0,e1,k1,_⟩:=val j a h
  obtain ⟨b0,h0,rfl⟩:=Gs.mp p
  exact k1.apart (lD b0) (w.st j a0 e1 b0 h0)
 ·rw [List.pairwise_map]
  exact w.tt.imp fun {a b} h=>(lD a).apart (lD b) h
 ·obtain ⟨l,h0,rfl⟩:=Gs.mp hu
  exact w.fx.frT l h0 (fun q=>hf (lentF_z.mpr q)) a r
 ·obtain ⟨l,e,k,_⟩:=val j u h
  exact w.fx.frS j l e C (fun q=>hf (k.z.mpr q)) a (by rw [<- k.v];exact r)
 ·obtain ⟨j,y,_,e,hf,x⟩:=p
  obtain ⟨_,a,L',v1,v2,_⟩:=(w.okS j y e).own (by rw [hf];intro q;cases q)
  rw [x] at v1;cases v1
  exact ((w.okS j y e).rep.inH b (by rw [v2];exact Ga)).ex
 ·obtain ⟨l,e,k,c⟩:=val j u h
  show (if j ∈ is then (g j).map (·.v) else G.lv j)=_
  rcases c with ⟨q,rfl⟩ | ⟨q,rfl⟩
  ·rw [if_pos q,e];rfl
  ·rw [if_neg q];exact w.fx.lvS j u e B
theorem Wf.leave (w:Wf K G H σ ρ T g) (C:∀ i ∈ is,∀ y,g i=some y->y.f=.u) (J:T'.Sublist T) (p:Wf K (d5 G H g is) H' σ' ρ2 (R ++ T'.map bg) g2) :
  Wf K G H' σ' (aK gv is ρ2) (R ++ T') (fun j=>if j ∈ is then (g2 j).map A6 else g2 j):=by
 have val:∀ j u,(if j ∈ is then (g2 j).map A6 else g2 j)=some u->∃ r,g2 j=some r/\Fk r u/\((j ∈ is/\u=A6 r)\/(j ∉ is/\u=r)):=fun j u h=>by
  by_cases q:j ∈ is
  ·rw [if_pos q] at h
   obtain ⟨r,e1,F⟩:=Ge.mp h
   subst F
   exact ⟨r,e1,FJ r,.inl ⟨q,rfl⟩⟩
  ·rw [if_neg q] at h
   exact ⟨u,h,Fk.refl u,.inr ⟨q,rfl⟩⟩
 have may:∀ a,H a=none\/(∃ j y,j ∉ is/\g j=some y/\y.f=.u/\y.v=.ref a)->G.H0 a=none\/G.bw a:=fun a h=>by
  rcases h with h | ⟨j,y,_,e,hf,S⟩
  ·exact .inl (w.h0none h)
  ·obtain ⟨_,U,L',v1,_,_,v4⟩:=(w.okS j y e).own (by rw [hf];intro q;cases q)
   rw [S] at v1;cases v1
   exact v4 hf
 have t:∀ c,H c=none\/(G.H0 c=none\/G.src c)->G.H0 c=none\/G.src c:=fun c h=>by
  rcases h with h | h
  ·exact .inl (w.h0none h)
  ·exact h
 have O:∀ x ∈ T',x ∈ T:=fun x P=>J.subset P
 have D:∀ b o,H b=some o->∃ o',H' b=some o':=fun b o s=>by
  by_cases q:∃ j y,j ∉ is/\g j=some y/\y.f=.u/\y.v=.ref b
  ·exact p.fx.bin b q
  ·exact ⟨o,p.base b o s q⟩
 refine ⟨by rw [jp];exact p.len,fun j=>?_,fun j u h=>?_,fun j u h=>?_,fun u hu=>?_,fun i j a b n E s=>?_,fun j a h b s=>?_,?_,fun b o e n=>?_,p.pro,⟨fun u hu=>?_,fun j u h Y hf a Q=>?_,fun b s=>?_,p.fx.ob,fun j u h B=>?_⟩⟩
 ·rw [ik (by intro f;cases f <;> rfl)]
  by_cases q:j ∈ is
  ·rw [if_pos q,if_pos q];exact rM (p.sl j)
  ·rw [if_neg q,if_neg q];exact p.sl j
 ·obtain ⟨r,e,k,_⟩:=val j u h
  rw [k.v];exact p.sv j r e
 ·obtain ⟨r,e,k,c⟩:=val j u h
  have ok:=p.okS j r e
  refine ⟨by rw [k.d,k.v,k.L];exact ok.rep,fun hf=>?_,fun c I=>t c (ok.src c (by rw [<- k.L];exact I))⟩
  obtain ⟨m,a,L',v1,v2,v3,v4⟩:=ok.own (fun q=>hf (k.z.mpr q))
  refine ⟨by rw [k.d];exact m,a,L',by rw [k.v];exact v1,by rw [k.L];exact v2,v3,fun hu=>?_⟩
  rcases c with ⟨q,rfl⟩ | ⟨Z,rfl⟩
  ·cases A:r.f with
   | u=>exact may a (v4 A)
   | l =>
    have B:=p.fx.lvS j r e A
    have B:(if j ∈ is then (g j).map (·.v) else G.lv j)=some r.v:=B
    rw [if_pos q] at B
    obtain ⟨y,N,ev⟩:=Ge.mp B
    have M:=C j q y N
    obtain ⟨_,U,V,b1,_,_,W⟩:=(w.okS j y N).own (by rw [M];intro q;cases q)
    rw [ev,v1] at b1;cases b1
    exact W M
   | z=>exact absurd (unlF_z.mpr A) hf
  ·exact may a (v4 hu)
 ·rcases Gk.mp hu with hu | hu
  ·have ok:=p.okT u (Gf _ hu)
   refine ⟨ok.rep,fun hf=>?_,fun c I=>t c (ok.src c I)⟩
   obtain ⟨m,a,L',v1,v2,v3,v4⟩:=ok.own hf
   exact ⟨m,a,L',v1,v2,v3,fun h=>may a (v4 h)⟩
  ·have ok:=w.okT u (O u hu)
   exact ⟨(p.okT (bg u) (Gg _ (Gs.mpr ⟨u,hu,rfl⟩))).rep,ok.own,ok.src⟩
 ·obtain ⟨a0,e1,k1,_⟩:=val i a E
  obtain ⟨b0,F,k2,_⟩:=val j b s
  exact k1.noRoot k2 (p.ss i j a0 b0 n e1 F)
 ·obtain ⟨a0,e1,k1,_⟩:=val j a h
  rcases Gk.mp s with s | s
  ·exact k1.apart (Fk.refl b) (p.st j a0 e1 b (Gf _ s))
  ·have:=p.st j a0 e1 (bg b) (Gg _ (Gs.mpr ⟨b,s,rfl⟩))
   exact k1.apart (y:=bg b) ⟨rfl,rfl,rfl,lentF_z.symm⟩ this
 ·have h:=List.pairwise_append.mp p.tt
  refine List.pairwise_append.mpr ⟨h.1,w.tt.sublist J,fun a E b s=>?_⟩
  exact (Fk.refl a).apart (y:=bg b) ⟨rfl,rfl,rfl,lentF_z.symm⟩ (h.2.2 a E (bg b) (Gs.mpr ⟨b,s,rfl⟩))
 ·have s:=w.base b o e n
  refine p.base b o s fun q=>?_
  rcases may b (.inr q) with h | h
  ·rw [e] at h;cases h
  ·exact n h
 ·rcases Gk.mp hu with hu | hu
  ·exact p.fx.frT u (Gf _ hu)
  ·exact w.fx.frT u (O u hu)
 ·obtain ⟨r,e,k,_⟩:=val j u h
  exact p.fx.frS j r e Y (fun q=>hf (k.z.mpr q)) a (by rw [<- k.v];exact Q)
 ·obtain ⟨o,X⟩:=w.fx.bin b s
  exact D b o X
 ·obtain ⟨r,e,k,c⟩:=val j u h
  rcases c with ⟨q,rfl⟩ | ⟨q,rfl⟩
  ·exact absurd B (DB _)
  ·have:=p.fx.lvS j u e B
   have this:(if j ∈ is then (g j).map (·.v) else G.lv j)=some u.v:=this
   rw [if_neg q] at this
   exact this
theorem Cv (w:Wf K G H σ ρ T g) (a:∀ i ∈ is,∀ y,g i=some y->y.f=.u):∀ (H':Hp) (σ':St) (ρ2:Sto) (b:List It3) (g2:Nat->Option It3),Wf K (d5 G H g is) H' σ' ρ2 b g2->∃ g3,Wf K G H' σ' (aK gv is ρ2) [] g3 :=
 fun H' σ' ρ2 b g2 c=>⟨_,by simpa using Wf.leave (T':=[]) (R:=[]) w a (List.nil_sublist T) (by simpa using c.sub (List.nil_sublist b))⟩
end
end L3
end
section
namespace L3
open PySem L2
section
variable {K:FG} {G G0:Gm} {W W0:D->Sto->Prop} {H H':Hp} {σ:St} {ρ ρ':Sto} {T T':List It3} {g:Nat->Option It3} {x y z:It3} {α β:Type}
def Walk (K:FG) (J:It) (H1:Hp) (ys:List It3) (ds:List D):Prop:=∃ els:List It3,(∀ x ∈ els,x.f=.z/\Rep K H1 x.d x.v x.L/\∀ c ∈ x.L,dw ys c) /\
 ∀ (M:Addr->Prop) (H':Hp),(∀ b,M b->MutAt H1 b)->(∀ b o,H1 b=some o->¬ M b->H' b=some o)->(∀ y ∈ ys,∀ b ∈ y.L,¬ M b) ->
  (∀ (i:Nat) (d:D),ds[i]?=some d->J.go i H'/\∀ x a,J.yld i H' x a->∃ w,New K H' a (cT els) w/\w.d=d/\w.f=.z/\w.v=x)/\J.stop ds.length H'
abbrev IM:=M3 (List R3 × List D)
def EndI (K:FG) (G:Gm) (W:D->Sto->Prop) (σ:St) (T:List It3) (ρ':Sto) (R:It->Hp->Prop):Except D (List R3 × List D)->Prop
 | .ok p=>∀ J H1 a Ts g1 ys,Wf K G H1 σ ρ' (Ts ++ T) g1->Ars σ p.1 a Ts->(∀ y ∈ ys,(∃ i,i ∈ pls p.1/\g1 i=some y)\/y ∈ Ts)->Walk K J H1 ys p.2->R J H1
 | .error e=>W e ρ'
def tI (K:FG) (G0:Gm) (W0:D->Sto->Prop) (m:IM):TI:=fun σ H R=>∃ G W,Le K G W G0 W0/\∃ ρ T g r ρ',Wf K G H σ ρ T g/\m ρ=some (r,ρ')/\EndI K G W σ T ρ' R r
theorem tI.seq (le:Le K G W G0 W0) (w:Wf K G H σ ρ T g) (e:af m k ρ=some (r,ρ')) (he:∀ x,r=.error x->W x ρ') (h:∀ p ρ1,k p ρ1=some (r,ρ')->EndI K G W σ T ρ1 P (.ok p)):tI K G0 W0 m σ H P:=by
 unfold af at e
 cases q:m ρ with
 | none=>rw [q] at e;exact nsE e
 | some p =>
  obtain ⟨o,ρ1⟩:=p
  rw [q] at e
  cases o with
  | error x=>cases e;exact ⟨G,W,le,ρ,T,g,.error x,ρ',w,q,he x rfl⟩
  | ok ra=>exact ⟨G,W,le,ρ,T,g,.ok ra,ρ1,w,q,h ra ρ1 e⟩
def Bnd (K:FG) (pr:Nat->Bool) (tg:TG) (bnd:D->Sto->Option Sto):Prop:=∀ (G:Gm) (H:Hp) (σ:St) (ρ ρ1:Sto) (T:List It3) (g:Nat->Option It3) (w:It3) (Q:St->Hp->Prop),G.pr=pr->w.f=.z->Wf K G H σ ρ (w :: T) g->bnd w.d ρ=some ρ1 ->
 (∀ σ2 g2,Wf K G H σ2 ρ1 T g2->Q σ2 H)->tg w.v σ H Q
def aw (i:Nat) (d:D) (ρ:Sto):Option Sto:=if i < ρ.length then some (ρ.set i (some (d,.z))) else none
theorem iL {i:Nat} (b:pr i=false):Bnd K pr (vN i) (aw i):=fun G H σ ρ ρ1 T g w Q a hz wf e q=>by
 unfold aw at e
 split at e
 ·rename_i hi
  cases e
  exact q _ _ (wf.store (f:=.z) hi (by rw [a];exact b) (.inr rfl) (by intro h;cases h))
 ·exact nsE e
def A2 (K:FG) (pr:Nat->Bool) (tg:TGs) (bnd:List D->Sto->Option Sto):Prop:=∀ (G:Gm) (H:Hp) (σ:St) (ρ ρ1:Sto) (T:List It3) (g:Nat->Option It3) (ws:List It3) (Q:St->Hp->Prop),G.pr=pr->(∀ w ∈ ws,w.f=.z)->Wf K G H σ ρ (ws ++ T) g->bnd (ws.map (·.d)) ρ=some ρ1 ->
 (∀ σ2 g2,Wf K G H σ2 ρ1 T g2->Q σ2 H)->tg (ws.map (·.v)) σ H Q
def j3:List D->Sto->Option Sto
 | [],ρ=>some ρ
 | _,_=>none
def cy (b:D->Sto->Option Sto) (bs:List D->Sto->Option Sto):List D->Sto->Option Sto
 | [],_=>none
 | d :: ds,ρ=>match b d ρ with
  | some ρ1=>bs ds ρ1
  | none=>none
theorem sM:A2 K pr gNil j3:=fun G H σ ρ ρ1 T g ws Q _ _ wf e q=>by
 cases ws with
 | nil=>cases e;exact ⟨rfl,q _ _ wf⟩
 | cons w ws=>exact nsE e
theorem kD (h1:Bnd K pr tg b) (h2:A2 K pr tgs bs):A2 K pr (Dt tg tgs) (cy b bs):=fun G H σ ρ ρ1 T g ws Q a hz wf e q=>by
 cases ws with
 | nil=>exact nsE e
 | cons w ws =>
  have e:(match b w.d ρ with | some ρ1=>bs (ws.map (·.d)) ρ1 | none=>none)=some ρ1:=e
  cases c:b w.d ρ with
  | none=>rw [c] at e;exact nsE e
  | some ρ2 =>
   rw [c] at e
   exact ⟨w.v,ws.map (·.v),rfl,h1 G H σ ρ ρ2 (ws ++ T) g w _ a (hz w Ga) wf c fun σ2 g2 f=>h2 G H σ2 ρ2 ρ1 T g2 ws Q a (fun x h=>hz x (Gb _ h)) f e q⟩
def j0 (n:Nat) (bs:List D->Sto->Option Sto):D->Sto->Option Sto
 | .tup ds,ρ=>if ds.length=n then bs ds ρ else none
 | _,_=>none
theorem Reps.split:∀ {ds:List D} {b:List V} {L:List Addr},Reps (Rep K H) ds b L->∃ ws:List It3,ws.map (·.d)=ds/\ws.map (·.v)=b/\(∀ w ∈ ws,w.f=.z/\Rep K H w.d w.v w.L/\∀ c ∈ w.L,c ∈ L)
 | _,_,_,.nil=>⟨[],rfl,rfl,fun _ h=>(by cases h)⟩
 | _,_,_,.cons (d:=d) (v:=v) (L:=L) r rs=>by
  obtain ⟨ws,h1,h2,h3⟩:=Reps.split rs
  refine ⟨⟨d,v,L,.z⟩ :: ws,by simp [h1],by simp [h2],fun w hw=>?_⟩
  rcases Gh.mp hw with h | h
  ·subst h;exact ⟨rfl,r,fun c a=>Gf _ a⟩
  ·exact ⟨(h3 w h).1,(h3 w h).2.1,fun c a=>Gg _ ((h3 w h).2.2 c a)⟩
theorem Wf.pushAll:∀ {ws:List It3} {T:List It3},Wf K G H σ ρ T g->(∀ w ∈ ws,w.f=.z/\Rep K H w.d w.v w.L/\∀ c ∈ w.L,dG T g c/\(G.H0 c=none\/G.src c))->Wf K G H σ ρ (ws ++ T) g
 | [],T,w,_=>w
 | x :: ws,T,w,h=>by
  have e:=Wf.pushAll (ws:=ws) w fun y a=>h y (Gb _ a)
  obtain ⟨hz,i,b⟩:=h x Ga
  refine e.push (Ks:=fun c=>c ∈ x.L) ⟨Same.refl _,i,fun c h=>.inr h,fun q=>absurd hz q⟩ fun c m=>⟨⟨(b c m).1.1,fun y a hf=>?_⟩,(b c m).2⟩
  rcases Gk.mp a with q | q
  ·exact absurd (h y (Gb _ q)).1 hf
  ·exact (b c m).1.2 y q hf
theorem wa {n:Nat} (h2:A2 K pr tgs bs):Bnd K pr (gTup K n tgs) (j0 n bs):=fun G H σ ρ ρ1 T g w Q j hz wf e q=>by
 have r:=(wf.okT w Ga).rep
 obtain ⟨d,v,L,f⟩:=w
 cases r with
 | @tup xs a vs _ hs rs =>
  have e:(if xs.length=n then bs xs ρ else none)=some ρ1:=e
  split at e
  ·rename_i l
   obtain ⟨ws,h1,h3,h⟩:=Reps.split rs
   refine ⟨a,vs,rfl,SqT.of hs,?_,?_⟩
   ·rw [<- h3,Go,<- l,<- h1,Go]
   ·have m:Wf K G H σ ρ (ws ++ (⟨.tup xs,.ref a,L,f⟩ :: T)) g:=wf.pushAll fun u hu=>⟨(h u hu).1,(h u hu).2.1,fun c k=>⟨wf.kid (y:=⟨.tup xs,.ref a,L,f⟩) (.inr Ga) ((h u hu).2.2 c k) fun hf=>absurd hz hf,(wf.okT _ Ga).src c ((h u hu).2.2 c k)⟩⟩
    have o:Wf K G H σ ρ (ws ++ T) g:=m.sub ((List.Sublist.refl ws).append (List.sublist_cons_self _ _))
    rw [<- h3]
    exact h2 G H σ ρ ρ1 T g ws Q j (fun u hu=>(h u hu).1) o (by rw [h1];exact e) q
  ·exact nsE e
 | non=>exact nsE e
 | bl b=>exact nsE e
 | int i=>exact nsE e
 | str s=>exact nsE e
 | lst _ _=>exact nsE e
 | lstF _ _=>exact nsE e
 | dK _ _ _=>exact nsE e
 | dT _ _ _=>exact nsE e
 | exc _ _=>exact nsE e
noncomputable def cQ (bnd:D->Sto->Option Sto) (b:SM):List D->SM
 | []=>aZ .nx
 | d :: ds=>fun ρ=>match bnd d ρ with
  | none=>none
  | some ρ1=>af b (fun f=>match f with
   | .nx=>cQ bnd b ds
   | .ct=>cQ bnd b ds
   | .br=>aZ .nx
   | .rt d f=>aZ (.rt d f)) ρ1
noncomputable def c8 (im:IM) (bnd:D->Sto->Option Sto) (b:SM):SM:=af im fun p=>fun ρ=>(cQ bnd b p.2 (aK cL (us ρ (pls p.1)) ρ)).map fun r=>(r.1,aK gv (us ρ (pls p.1)) r.2)
theorem us_u (w:Wf K G H σ ρ T g):∀ i ∈ us ρ is,∀ y,g i=some y->y.f=.u:=fun i hi y a=>by
 have h:=(GM.mp hi).2
 have s:=w.sl i
 rw [a] at s
 have s:some (y.d,y.f)=(ρ[i]?).join:=s
 rw [<- s] at h
 cases hf:y.f with
 | u=>rfl
 | l=>rw [hf] at h;cases h
 | z=>rw [hf] at h;cases h
theorem xU {i:Nat} (w:Wf K G H σ ρ T g) (hi:i ∈ is) (a:g i=some y) (hf:y.f=.u):i ∈ us ρ is:=by
 refine GM.mpr ⟨hi,?_⟩
 have s:=w.sl i
 grind
theorem DM (U:Bnd K G0.pr tg bnd) (h:tS K G0 W0 (c8 im bnd b) E σ H):tFor (tI K G0 W0 im) tg (tS K G0 W0 b) E σ H:=by
 refine h.use fun G W le ρ T g r ρ' w e q=>?_
 refine tI.seq le w e q.err fun p ρ1 e1=>?_
 intro J H1 vs Ts g1 ys t a1 ae hw
 have M:=us_u (is:=pls p.1) t
 have X:∀ i y,i ∈ pls p.1->g1 i=some y->y.f=.u->i ∈ us ρ1 (pls p.1):=fun i y hi ey hf=>xU t hi ey hf
 generalize us ρ1 (pls p.1)=is at e1 M X
 have w2:=t.enter is
 obtain ⟨els,n,walk⟩:=hw
 have hM:∀ b,(∃ j y,j ∉ is/\g1 j=some y/\y.f=.u/\y.v=.ref b)->MutAt H1 b:=fun b ⟨j,y,_,ey,hf,D⟩=>by
  obtain ⟨_,a,L',v1,v2,_⟩:=(t.okS j y ey).own (by rw [hf];intro q;cases q)
  rw [D] at v1;cases v1
  exact (t.okS j y ey).rep.inH b (by rw [v2];exact Ga)
 have ar:∀ y ∈ ys,∀ b ∈ y.L,¬ ∃ j y,j ∉ is/\g1 j=some y/\y.f=.u/\y.v=.ref b:=fun y A b U ⟨j,y',nj,C,hf,D⟩=>by
  have ax:y'.f ≠ .z:=by rw [hf];intro q;cases q
  rcases ae y A with ⟨i,hi,ei⟩ | A
  ·by_cases ij:i=j
   ·subst ij
    rw [ei] at C;cases C
    exact nj (X i y hi ei hf)
   ·exact t.ss j i y' y (Ne.symm ij) C ei ax b D U
  ·exact (t.st j y' C y (Gf _ A)).1 ax b D U
 have Y:∀ y ∈ ys,Itm (Ts ++ T) g1 y:=fun y A=>by
  rcases ae y A with ⟨i,_,ei⟩ | h
  ·exact .inl ⟨i,ei⟩
  ·exact .inr (Gf _ h)
 have kid:∀ x ∈ els,∀ c ∈ x.L,dG ((Ts ++ T).map bg) (fun j=>if j ∈ is then (g1 j).map bg else g1 j) c/\(H1 c=none\/(G.H0 c=none\/G.src c)):=fun x hx c hc=>by
  obtain ⟨nr,sr⟩:=t.kids Y ((n x hx).2.2 c hc)
  refine ⟨⟨fun i z V hf D=>?_,fun z hz hf D=>?_⟩,.inr sr⟩
  ·have V:(if i ∈ is then (g1 i).map bg else g1 i)=some z:=V
   by_cases q:i ∈ is
   ·rw [if_pos q] at V
    obtain ⟨z0,e0,e1⟩:=Ge.mp V
    subst e1
    exact nr.1 i z0 e0 (fun q=>hf (lentF_z.mpr q)) D
   ·rw [if_neg q] at V
    exact nr.1 i z V hf D
  ·obtain ⟨z0,h0,rfl⟩:=Gs.mp hz
   exact nr.2 z0 h0 (fun q=>hf (lentF_z.mpr q)) D
 have w3:Wf K (d5 G H1 g1 is) H1 σ (aK cL is ρ1) (els ++ (Ts ++ T).map bg) (fun j=>if j ∈ is then (g1 j).map bg else g1 j):=w2.pushAll fun x hx=>⟨(n x hx).1,(n x hx).2.1,fun c hc=>kid x hx c hc⟩
 cases e2:cQ bnd b p.2 (aK cL is ρ1) with
 | none=>rw [e2] at e1;exact nsE e1
 | some rr =>
  obtain ⟨r2,ρ3⟩:=rr
  rw [e2] at e1
  have er:r2=r/\aK gv is ρ3 = ρ':=by cases e1;exact ⟨rfl,rfl⟩
  obtain ⟨rfl,eρ⟩:=er
  have leave:∀ {σ':St} {H':Hp} {ρ2:Sto} {g2:Nat->Option It3} {R:List It3},Wf K (d5 G H1 g1 is) H' σ' ρ2 (R ++ (els ++ (Ts ++ T).map bg)) g2->∃ g3,Wf K G H' σ' (aK gv is ρ2) (R ++ T) g3:=fun {σ' H' ρ2 g2 R} F =>
   ⟨_,Wf.leave (T:=Ts ++ T) (T':=T) (R:=R) t M (Gr Ts T) (F.sub ((List.Sublist.refl R).append (by
    rw [List.map_append]
    exact (Gr (Ts.map bg) (T.map bg)).trans (Gr els _))))⟩
  have az:Le K (d5 G H1 g1 is) (fun e ρ2=>W e (aK gv is ρ2)) G W:=⟨rfl,fun H' σ' ρ2 T2 g2 e F he=>by
   obtain ⟨g3,Z⟩:=Cv t M H' σ' ρ2 T2 g2 F
   exact ⟨_,[],g3,Z,he⟩⟩
  have s:Le K (d5 G H1 g1 is) (fun e ρ2=>W e (aK gv is ρ2)) G0 W0:=az.trans le
  refine ⟨fun k m σ' H'=>k<=p.2.length/\m=p.2.length - k/\∃ ρ2 g2,Wf K (d5 G H1 g1 is) H' σ' ρ2 (els ++ (Ts ++ T).map bg) g2/\cQ bnd b (p.2.drop k) ρ2=some (r2,ρ3),⟨_,Nat.zero_le _,rfl,_,_,w3,e2⟩,?_⟩
  rintro k m σ' H' ⟨hk,rfl,ρ2,g2,F,e4⟩
  obtain ⟨a3,S⟩:=walk _ H' hM (fun b o U hn=>F.base b o U hn) ar
  by_cases B:k < p.2.length
  ·obtain ⟨d,hd⟩:∃ d,p.2[k]?=some d:=⟨_,Gi B⟩
   have N:p.2.drop k=d :: p.2.drop (k+1):=by
    rw [List.drop_eq_getElem_cons B]
    rw [Gi B] at hd
    cases hd;rfl
   rw [N] at e4
   obtain ⟨go,yld⟩:=a3 k d hd
   refine .inr ⟨go,fun σ5 H5=>∃ ρ5 g5,Wf K (d5 G H1 g1 is) H5 σ5 ρ5 (els ++ (Ts ++ T).map bg) g5/\cQ bnd b (p.2.drop (k+1)) ρ5=some (r2,ρ3),fun σ5 H5 ⟨ρ5,g5,Z,l⟩=>⟨p.2.length - (k+1),by omega,B,rfl,ρ5,g5,Z,l⟩,fun x O A=>?_⟩
   obtain ⟨u,nu,ud,uf,uv⟩:=yld x O A
   have Z:Wf K (d5 G H1 g1 is) O σ' ρ2 (u :: (els ++ (Ts ++ T).map bg)) g2:=F.push nu fun c hc=>F.alls (ys:=els) (fun y A=>⟨.inr (Gf _ A),(n y A).1⟩) hc
   have l:(match bnd d ρ2 with
    | none=>none
    | some ρ1=>af b (fun f=>match f with
     | .nx=>cQ bnd b (p.2.drop (k+1))
     | .ct=>cQ bnd b (p.2.drop (k+1))
     | .br=>aZ .nx
     | .rt d f=>aZ (.rt d f)) ρ1)=some (r2,ρ3):=e4
   cases e6:bnd d ρ2 with
   | none=>rw [e6] at l;exact nsE l
   | some ρ6 =>
    rw [e6] at l
    dsimp only at l
    rw [<- uv]
    refine U (d5 G H1 g1 is) O σ' ρ2 ρ6 _ g2 u _ le.pr uf Z (by rw [ud];exact e6) fun σ6 g6 w6=>?_
    unfold af at l
    cases Q:b ρ6 with
    | none=>rw [Q] at l;exact nsE l
    | some pr7 =>
     obtain ⟨o7,ρ7⟩:=pr7
     rw [Q] at l
     cases o7 with
     | error er =>
      cases l
      refine tS.mk (r:=.error er) s w6 Q ?_
      show W er (aK gv is _)
      rw [eρ];exact q
     | ok f =>
      cases f with
      | nx=>exact tS.mk (r:=.ok .nx) s w6 Q fun σ8 H8 g8 P=>⟨ρ7,g8,P,l⟩
      | ct=>exact tS.mk (r:=.ok .ct) s w6 Q fun σ8 H8 g8 P=>⟨ρ7,g8,P,l⟩
      | br =>
       cases l
       refine tS.mk (r:=.ok .br) s w6 Q fun σ8 H8 g8 P=>?_
       obtain ⟨g9,I⟩:=leave (R:=[]) P
       rw [eρ] at I
       exact q _ _ _ I
      | rt d' f' =>
       cases l
       refine tS.mk (r:=.ok (.rt d' f')) s w6 Q fun x8 σ8 H8 g8 P x1 x2=>?_
       obtain ⟨g9,I⟩:=leave (R:=[x8]) P
       rw [eρ] at I
       exact q x8 _ _ _ I x1 x2
  ·have ek:k=p.2.length:=by omega
   subst ek
   rw [List.drop_length] at e4
   cases e4
   obtain ⟨g9,I⟩:=leave (R:=[]) F
   rw [eρ] at I
   exact .inl ⟨S,q _ _ _ I⟩
end
end L3
end
section
namespace L3
open PySem L2
def uu (ix:List (Option Nat)) (ρ:Sto):Sto:=ix.map fun o=>match o with
 | some i=>(ρ[i]?).join
 | none=>none
def uncap:List (Option Nat)->Sto->Sto->Option Sto
 | [],_,ρ=>some ρ
 | none :: ix,τ,ρ=>uncap ix τ.tail ρ
 | some i :: ix,τ,ρ=>match (ρ[i]?).join,τ.head? with
  | some (_,f),some (some (d',f'))=>if f'=f\/f'=.z then uncap ix τ.tail (ρ.set i (some (d',f'))) else none
  | _,_=>none
noncomputable def bX (bnd:D->Sto->Option Sto) (c:M3 Bool) (elt:EM):List D->M3 (List D)
 | []=>aZ []
 | d :: ds=>fun τ=>match bnd d τ with
  | none=>none
  | some τ1=>af c (fun b=>if b then af elt (fun r=>af (dy r) fun p=>af (bX bnd c elt ds) fun l=>aZ (p.1 :: l)) else bX bnd c elt ds) τ1
def bx (im:IM) (bnd:D->Sto->Option Sto) (c:M3 Bool) (elt:EM) (ix:List (Option Nat)):EM:=af im fun p=>fun ρ =>
 match bX bnd c elt p.2 (uu ix (aK cL (us ρ (pls p.1)) ρ)) with
 | some (.ok ds,τ)=>if p.2.length < 16777216 then (uncap ix τ (aK cL (us ρ (pls p.1)) ρ)).map fun ρ2=>(.ok (.val (.lst ds) .u),aK gv (us ρ (pls p.1)) ρ2) else none
 | _=>none
section
variable {K:FG} {G G0:Gm} {W W0:D->Sto->Prop} {H H':Hp} {σ τ:St} {ρ ρ':Sto} {T T':List It3} {g:Nat->Option It3} {x y z:It3} {α β:Type} {ix:List (Option Nat)}
def Inj (ix:List (Option Nat)):Prop:=∀ (j k i:Nat),ix[j]?=some (some i)->ix[k]?=some (some i)->j=k
def CM (ix:List (Option Nat)) (g:Nat->Option It3) (j:Nat):Option It3:=(ix[j]?).join.bind g
def jJ (ix:List (Option Nat)) (n:Nat) (g:Nat->Option It3):List It3:=(List.range n).filterMap fun i=>if some i ∈ ix then none else g i
def AF (G:Gm) (ix:List (Option Nat)) (σ:St):Gm:=⟨G.H0,G.bw,fun j=>((ix[j]?).join).isSome,cap ix σ,fun _=>none,G.src,fun j=>(ix[j]?).join.bind G.lv⟩
theorem dL {j:Nat} (h:CM ix g j=some x):∃ i,ix[j]?=some (some i)/\g i=some x:=by
 unfold CM at h
 cases e:ix[j]? with
 | none=>rw [e] at h;exact nsE h
 | some o =>
  rw [e] at h
  cases o with
  | none=>exact nsE h
  | some i=>exact ⟨i,rfl,h⟩
theorem mq {n:Nat} (h:x ∈ jJ ix n g):∃ i,some i ∉ ix/\g i=some x:=by
 obtain ⟨i,_,e⟩:=List.mem_filterMap.mp h
 split at e
 ·exact nsE e
 ·rename_i a;exact ⟨i,a,e⟩
theorem zC {n i:Nat} (hi:i < n) (a:some i ∉ ix) (e:g i=some x):x ∈ jJ ix n g:=List.mem_filterMap.mpr ⟨i,List.mem_range.mpr hi,by rw [if_neg a];exact e⟩
theorem Wf.cap (w:Wf K G H σ ρ T g) (r:Inj ix):Wf K (AF G ix σ) H (cap ix σ) (uu ix ρ) (jJ ix ρ.length g ++ T) (CM ix g):=by
 have ne:∀ {i j:Nat},ix[j]?=some (some i)->∀ k,some k ∉ ix->i ≠ k:=fun e k l q=>l (by rw [<- q];exact Gq e)
 refine ⟨by unfold L2.cap uu;rw [Go,Go],fun j=>?_,fun j x h=>?_,fun j x h=>?_,fun x p=>?_,fun j k x y n p t=>?_,fun j x h y t=>?_,?_,w.base,fun _ _=>rfl,⟨fun _ _ _ _ _=>rfl,fun _ _ _ _ _ _ _=>rfl,w.fx.bin,fun b o e=>(by cases e),fun j x h v=>?_⟩⟩
 ·unfold CM uu
  rw [Gu]
  cases e:ix[j]? with
  | none=>rfl
  | some o =>
   cases o with
   | none=>rfl
   | some i=>exact w.sl i
 ·obtain ⟨i,e1,c⟩:=dL h
  unfold L2.cap
  rw [Gu,e1]
  show some ((σ[i]?).getD none)=_
  rw [w.sv i x c];rfl
 ·obtain ⟨i,_,c⟩:=dL h
  have ok:=w.okS i x c
  exact ⟨ok.rep,ok.own,ok.src⟩
 ·rcases Gk.mp p with h | h
  ·obtain ⟨i,_,e⟩:=mq h
   have ok:=w.okS i x e
   exact ⟨ok.rep,ok.own,ok.src⟩
  ·have ok:=w.okT x h
   exact ⟨ok.rep,ok.own,ok.src⟩
 ·obtain ⟨i,e1,c⟩:=dL p
  obtain ⟨A,u,z⟩:=dL t
  exact w.ss i A x y (fun q=>n (r j k i e1 (q ▸ u))) c z
 ·obtain ⟨i,e1,c⟩:=dL h
  rcases Gk.mp t with q | q
  ·obtain ⟨k,l,e⟩:=mq q
   have:=ne e1 k l
   exact ⟨w.ss i k x y this c e,w.ss k i y x (Ne.symm this) e c⟩
  ·exact w.st i x c y q
 ·refine List.pairwise_append.mpr ⟨?_,w.tt,fun a m b s=>?_⟩
  ·unfold jJ
   rw [List.pairwise_filterMap]
   refine List.pairwise_lt_range.imp fun {i k} lt a m b s=>?_
   have d:(if some i ∈ ix then none else g i)=some a:=m
   have f:(if some k ∈ ix then none else g k)=some b:=s
   split at d
   ·cases d
   ·split at f
    ·cases f
    ·exact ⟨w.ss i k a b (Gx lt) d f,w.ss k i b a (Nat.ne_of_gt lt) f d⟩
  ·obtain ⟨k,l,e⟩:=mq m
   exact w.st k a e b s
 ·obtain ⟨i,e1,c⟩:=dL h
  show (ix[j]?).join.bind G.lv=_
  rw [e1]
  exact w.fx.lvS i x c v
theorem Wf.perm (w:Wf K G H σ ρ T g) (p:T.Perm T'):Wf K G H σ ρ T' g :=
 ⟨w.len,w.sl,w.sv,w.okS,fun x a=>w.okT x (p.mem_iff.mpr a),w.ss,fun i x e y b=>w.st i x e y (p.mem_iff.mpr b),(p.pairwise_iff fun h=>Apart3.symm h).mp w.tt,w.base,w.pro,w.fx.sub fun x a=>p.mem_iff.mpr a⟩
theorem jh:∀ {ix:List (Option Nat)} {τ ρ ρ2:Sto},uncap ix τ ρ=some ρ2->Inj ix->ρ2.length = ρ.length/\(∀ i,some i ∉ ix->(ρ2[i]?).join=(ρ[i]?).join) /\
  ∀ (j i:Nat),ix[j]?=some (some i)->∃ p q,(ρ[i]?).join=some p/\(τ[j]?).join=some q/\(ρ2[i]?).join=some q/\(q.2=p.2\/q.2=.z)
 | [],τ,ρ,ρ2,e,_=>by cases e;exact ⟨rfl,fun _ _=>rfl,fun j i h=>by simp at h⟩
 | none :: ix,τ,ρ,ρ2,e,hij=>by
  unfold uncap at e
  obtain ⟨h1,h2,h3⟩:=jh e fun j k i a b=>by
   have:=hij (j+1) (k+1) i (by simpa using a) (by simpa using b)
   omega
  refine ⟨h1,fun i hi=>h2 i fun q=>hi (Gb _ q),fun j i h=>?_⟩
  cases j with
  | zero=>simp at h
  | succ j =>
   obtain ⟨p,q,a,b,c⟩:=h3 j i (by simpa using h)
   exact ⟨p,q,a,by rw [List.getElem?_tail] at b;exact b,c⟩
 | some i0 :: ix,τ,ρ,ρ2,e,hij=>by
  unfold uncap at e
  cases e1:(ρ[i0]?).join with
  | none=>rw [e1] at e;exact nsE e
  | some p =>
   obtain ⟨d,f⟩:=p
   cases n:τ.head? with
   | none=>rw [e1,n] at e;exact nsE e
   | some o =>
    cases o with
    | none=>rw [e1,n] at e;exact nsE e
    | some q =>
     obtain ⟨d',s⟩:=q
     rw [e1,n] at e
     dsimp only at e
     split at e
     ·rename_i hf
      have g:=fX e1
      have l:some i0 ∉ ix:=fun m=>by
       obtain ⟨k,u,t⟩:=List.mem_iff_getElem.mp m
       have:=hij 0 (k+1) i0 rfl (by simp [u,t])
       omega
      obtain ⟨h1,h2,h3⟩:=jh e fun j k i a b=>by
       have:=hij (j+1) (k+1) i (by simpa using a) (by simpa using b)
       omega
      refine ⟨by rw [h1,List.length_set],fun i hi=>?_,fun j i h=>?_⟩
      ·rw [h2 i fun q=>hi (Gb _ q),cM g,if_neg (fun q=>hi (by rw [q];exact Ga))]
      ·cases j with
       | zero =>
        simp at h
        subst h
        refine ⟨(d,f),(d',s),e1,?_,?_,hf⟩
        ·rw [List.head?_eq_getElem?] at n;rw [n];rfl
        ·rw [h2 i0 l,cM g,if_pos rfl]
       | succ j =>
        have r:ix[j]?=some (some i):=by simpa using h
        obtain ⟨p,q,a,b,c⟩:=h3 j i r
        have ii:i ≠ i0:=fun z=>l (by rw [<- z];exact Gq r)
        rw [cM g,if_neg ii] at a
        exact ⟨p,q,a,by rw [List.getElem?_tail] at b;exact b,c⟩
     ·exact nsE e
theorem Wf.uncap (w:Wf K G H σ ρ T g) (hH:∀ b o,H b=some o->G.H0 b=some o) (V:Inj ix) (e:L3.uncap ix τρ ρ=some ρ2) (hR:∀ x ∈ R,x.f=.z) (r:Wf K (AF G ix σ) H' τ' τρ (R ++ (jJ ix ρ.length g ++ T)) gC) :
  ∃ g2,Wf K G H' σ ρ2 (R ++ T) g2:=by
 obtain ⟨I,h2,h3⟩:=jh e V
 let inv (i:Nat):Option Nat:=(List.range ix.length).find? fun j=>decide (ix[j]?=some (some i))
 have B:∀ i j,inv i=some j->ix[j]?=some (some i):=fun i j h=>by simpa using List.find?_some h
 have A:∀ i,inv i=none->some i ∉ ix:=fun i h m=>by
  obtain ⟨k,hk,ek⟩:=List.mem_iff_getElem.mp m
  have:=List.find?_eq_none.mp h k (List.mem_range.mpr hk)
  simp [hk,ek] at this
 let g2 (i:Nat):Option It3:=match inv i with | some j=>gC j | none=>g i
 have val:∀ i u,g2 i=some u->(∃ j p q,ix[j]?=some (some i)/\gC j=some u/\(ρ[i]?).join=some p/\(τρ[j]?).join=some q/\(q.2=p.2\/q.2=.z))\/(some i ∉ ix/\g i=some u):=fun i u h=>by
  grind
 have out:∀ i u,some i ∉ ix->g i=some u->u ∈ jJ ix ρ.length g:=fun i u C e=>by
  have s:=w.sl i
  rw [e] at s
  exact zC (fX s.symm) C e
 have back:∀ i j u,ix[j]?=some (some i)->gC j=some u->σ[i]?=some (some u.v):=fun i j u t l=>by
  have a:=r.sv j u l
  have b:=r.pro j (by show ((ix[j]?).join).isSome=true;rw [t];rfl)
  rw [a] at b
  have b:some (some u.v)=(L2.cap ix σ)[j]?:=b
  unfold L2.cap at b
  rw [Gu,t] at b
  have b:some (some u.v)=some ((σ[i]?).getD none):=b
  cases q:σ[i]? with
  | none=>rw [q] at b;cases b
  | some o=>rw [q] at b;cases b;rfl
 have M:∀ i j u p q,ix[j]?=some (some i)->gC j=some u->(ρ[i]?).join=some p->(τρ[j]?).join=some q->(q.2=p.2\/q.2=.z)->∃ y,g i=some y/\y.v=u.v/\(u.f=y.f\/u.f=.z):=fun i j u p q t l N eq hf=>by
  obtain ⟨y,J,P,O,y4⟩:=w.slot (d:=p.1) (f:=p.2) N
  have b:=back i j u t l
  rw [y4] at b
  have s:=r.sl j
  rw [l,eq] at s
  have s:some (u.d,u.f)=some q:=s
  refine ⟨y,J,by injection b with b;injection b,?_⟩
  rw [O,show u.f=q.2 by injection s with s;rw [<- s]]
  exact hf
 refine ⟨g2,⟨by rw [I];exact w.len,fun i=>?_,fun i u h=>?_,fun i u h=>?_,fun u hu=>?_,fun i k a b n ha E=>?_,fun i a h b E=>?_,r.tt.sublist ((List.Sublist.refl R).append (Gr _ T)),r.base,w.pro,⟨fun u hu hf=>?_,fun i u h Z hf a X=>?_,r.fx.bin,fun b o E=>?_,fun i u h I=>?_⟩⟩⟩
 ·show (match inv i with | some j=>gC j | none=>g i).map _=_
  cases Y:inv i with
  | none=>rw [h2 i (A i Y)];exact w.sl i
  | some j =>
   obtain ⟨p,q,a,b,c,_⟩:=h3 j i (B i j Y)
   rw [c,<- b];exact r.sl j
 ·rcases val i u h with ⟨j,p,q,t,l,_⟩ | ⟨C,e⟩
  ·exact back i j u t l
  ·exact w.sv i u e
 ·rcases val i u h with ⟨j,p,q,t,l,_⟩ | ⟨C,e⟩
  ·have ok:=r.okS j u l
   exact ⟨ok.rep,ok.own,ok.src⟩
  ·have ok:=r.okT u (Gg _ (Gf _ (out i u C e)))
   exact ⟨ok.rep,ok.own,ok.src⟩
 ·have ok:=r.okT u (by
   rcases Gk.mp hu with q | q
   ·exact Gf _ q
   ·exact Gg _ (Gg _ q))
  exact ⟨ok.rep,ok.own,ok.src⟩
 ·rcases val i a ha with ⟨j,p,q,t,l,_⟩ | ⟨C,e⟩
  ·rcases val k b E with ⟨W,p',q',D,F,_⟩ | ⟨L,S⟩
   ·exact r.ss j W a b (fun z=>n (by subst z;rw [t] at D;injection D with z;injection z)) l F
   ·exact (r.st j a l b (Gg _ (Gf _ (out k b L S)))).1
  ·rcases val k b E with ⟨W,p',q',D,F,_⟩ | ⟨L,S⟩
   ·exact (r.st W b F a (Gg _ (Gf _ (out i a C e)))).2
   ·exact w.ss i k a b n e S
 ·have Q:b ∈ R ++ (jJ ix ρ.length g ++ T):=by
   rcases Gk.mp E with q | q
   ·exact Gf _ q
   ·exact Gg _ (Gg _ q)
  rcases val i a h with ⟨j,p,q,t,l,_⟩ | ⟨C,e⟩
  ·exact r.st j a l b Q
  ·rcases Gk.mp E with q | q
   ·exact ((List.pairwise_append.mp r.tt).2.2 b q a (Gf _ (out i a C e))).symm
   ·exact w.st i a e b q
 ·rcases Gk.mp hu with q | q
  ·exact absurd (hR u q) hf
  ·exact w.fx.frT u q hf
 ·rcases val i u h with ⟨j,p,q,t,l,N,eq,U⟩ | ⟨C,e⟩
  ·obtain ⟨y,J,P,O⟩:=M i j u p q t l N eq U
   refine w.fx.frS i y J Z (fun z=>hf ?_) a (by rw [P];exact X)
   rcases O with h | h
   ·rw [h];exact z
   ·exact h
  ·exact w.fx.frS i u e Z hf a X
 ·obtain ⟨o',ho⟩:=w.fx.ob b o E
  have h0:=hH b o' ho
  by_cases q:G.bw b
  ·exact r.fx.bin b q
  ·exact ⟨o',r.base b o' h0 q⟩
 ·rcases val i u h with ⟨j,p,q,t,l,N,eq,U⟩ | ⟨C,e⟩
  ·obtain ⟨y,J,P,O⟩:=M i j u p q t l N eq U
   rw [<- P]
   refine w.fx.lvS i y J ?_
   rcases O with h | h
   ·rw [<- h];exact I
   ·rw [h] at I;cases I
  ·exact w.fx.lvS i u e I
theorem xE {J:It} {H1:Hp} {ys els:List It3} {ds:List D} {bnd:D->Sto->Option Sto} {c:M3 Bool} {elt:EM} {tg:TG} {tc:TT} {te:TE} {Gc:Gm} {a:List It3} {j:List D} {τρ τρ':Sto} {gC:Nat->Option It3} {Z:List V->Hp->Prop} {M:Addr->Prop}
  (hz:(16777216:Nat)=sizeLine) (G:∀ x ∈ els,x ∈ a/\x.f=.z)
  (ae:∀ H',(∀ b o,H1 b=some o->¬ Gc.bw b->H' b=some o)->(∀ (i:Nat) (d:D),ds[i]?=some d->J.go i H'/\∀ x g,J.yld i H' x g->∃ w,New K H' g (cT els) w/\w.d=d/\w.f=.z/\w.v=x)/\J.stop ds.length H')
  (h0:Gc.H0=H1) (hb:Bnd K Gc.pr tg bnd) (W:∀ σ H Q,tT K Gc (fun _ _=>False) c σ H Q->tc σ H Q) (P:∀ σ H Q,tE K Gc (fun _ _=>False) elt σ H Q->te σ H Q)
  (hlen:ds.length < 16777216) (w:Wf K Gc H1 τ τρ a gC) (e:bX bnd c elt ds τρ=some (.ok j,τρ'))
  (hZ:∀ (us:List It3) (τ':St) (H':Hp) (g':Nat->Option It3),(∀ x ∈ us,x.f=.z)->us.map (·.d)=j->Wf K Gc H' τ' τρ' (us ++ a) g'->Z (us.map (·.v)) H'):sS J tg tc te Z τ H1:=by
 refine ⟨fun i m vs τ' H'=>i<=ds.length/\m=ds.length - i/\vs.length<=i/\∃ (us:List It3) (ρ2:Sto) (g2:Nat->Option It3) (r:List D),(∀ x ∈ us,x.f=.z)/\us.map (·.v)=vs/\Wf K Gc H' τ' ρ2 (us ++ a) g2/\bX bnd c elt (ds.drop i) ρ2=some (.ok r,τρ')/\us.map (·.d) ++ r=j,⟨_,Nat.zero_le _,rfl,Gv _,[],τρ,gC,j,fun _ h=>(by cases h),rfl,w,e,rfl⟩,?_⟩
 rintro i m vs τ1 H2 ⟨hi,rfl,az,us,ρ2,g2,r,s,t,N,O,k⟩
 refine ⟨by omega,?_⟩
 obtain ⟨ax,B⟩:=ae H2 fun b o S hn=>N.base b o (by rw [h0];exact S) hn
 by_cases n:i < ds.length
 ·obtain ⟨d,hd⟩:∃ d,ds[i]?=some d:=⟨_,Gi n⟩
  have q:ds.drop i=d :: ds.drop (i+1):=by
   rw [List.drop_eq_getElem_cons n]
   rw [Gi n] at hd
   cases hd;rfl
  rw [q] at O
  obtain ⟨go,yld⟩:=ax i d hd
  refine .inr ⟨go,fun A τ5 Y=>A.length<=i+1/\∃ (us:List It3) (ρ5:Sto) (R:Nat->Option It3) (r:List D),(∀ x ∈ us,x.f=.z)/\us.map (·.v)=A/\Wf K Gc Y τ5 ρ5 (us ++ a) R/\bX bnd c elt (ds.drop (i+1)) ρ5=some (.ok r,τρ')/\us.map (·.d) ++ r=j,
   fun A τ5 Y ⟨ar,h5⟩=>⟨ds.length - (i+1),by omega,n,rfl,ar,h5⟩,fun x g E=>?_⟩
  obtain ⟨u,nu,ud,uf,uv⟩:=yld x g E
  have w3:Wf K Gc g τ1 ρ2 (u :: (us ++ a)) g2:=N.push nu fun c hc=>N.alls (ys:=els) (fun y E=>⟨.inr (Gg _ (G y E).1),(G y E).2⟩) hc
  have I:(match bnd d ρ2 with
   | none=>none
   | some τ1=>af c (fun b=>if b then af elt (fun r=>af (dy r) fun p=>af (bX bnd c elt (ds.drop (i+1))) fun l=>aZ (p.1 :: l)) else bX bnd c elt (ds.drop (i+1))) τ1)=some (.ok r,τρ'):=O
  cases T:bnd d ρ2 with
  | none=>rw [T] at I;exact nsE I
  | some ρ3 =>
   rw [T] at I
   dsimp only at I
   rw [<- uv]
   refine hb Gc g τ1 ρ2 ρ3 _ g2 u _ rfl uf w3 (by rw [ud];exact T) fun τ4 g4 w4=>?_
   refine W _ _ _ (tT.seq (Le.refl K Gc _) w4 I (fun x X=>by cases X) fun b ρ5 L Y R w5=>?_)
   cases b with
   | false =>
    simp only [GL,if_false] at L ⊢
    exact ⟨by omega,us,ρ5,R,r,s,t,w5,L,k⟩
   | true =>
    simp only [if_true] at L ⊢
    refine P _ _ _ (tE.seq (Le.refl K Gc _) w5 L (fun x X=>by cases X) fun ra ρ6 e6 v H6 ⟨Ts,g6,w6,a6⟩=>?_)
    obtain ⟨p,ρ7,g7,F,C,w7,f1,f2,_,f3⟩:=a6.take w6 e6
    have w8:=Wf.lowT (Ts:=[F]) w7
    unfold af at C
    cases U:bX bnd c elt (ds.drop (i+1)) ρ7 with
    | none=>rw [U] at C;exact nsE C
    | some pr =>
     obtain ⟨o,ρ8⟩:=pr
     rw [U] at C
     cases o with
     | error x=>cases C
     | ok l =>
      cases C
      refine ⟨by rw [GF];simp;omega,us ++ [dn F],ρ7,g7,l,fun y E=>?_,by rw [List.map_append,t,<- f3];rfl,?_,U,?_⟩
      ·rcases Gk.mp E with h | h
       ·exact s y h
       ·rw [GK.mp h];rfl
      ·exact w8.perm (by
        show ([dn F] ++ (us ++ a)).Perm (us ++ [dn F] ++ a)
        rw [<- List.append_assoc]
        exact (List.perm_append_comm).append_right a)
      ·rw [List.map_append,List.append_assoc]
       show us.map (·.d) ++ ((dn F).d :: l)=j
       rw [show (dn F).d=p.1 from f1]
       exact k
 ·have ei:i=ds.length:=by omega
  subst ei
  rw [List.drop_length] at O
  cases O
  rw [List.append_nil] at k
  subst t
  exact .inl ⟨B,hZ us τ1 H2 g2 s k N⟩
end
end L3
end
section
namespace L3
open PySem L2
section
variable {K:FG} {G G0:Gm} {W W0:D->Sto->Prop} {H H':Hp} {σ τ:St} {ρ ρ':Sto} {T T':List It3} {g:Nat->Option It3} {x y z:It3} {α β:Type} {ix:List (Option Nat)}
def bd (ix:List (Option Nat)):Gm:=⟨fun _=>none,fun _=>False,fun j=>((ix[j]?).join).isSome,[],fun _=>none,fun _=>False,fun _=>none⟩
abbrev noX:D->Sto->Prop:=fun _ _=>False
theorem vG (h:G1.pr=(bd ix).pr) (le:Le K G W G1 noX):Le K G W (bd ix) noX:=⟨le.pr.trans h,fun H σ ρ T g e w q=>by
 obtain ⟨_,_,_,_,f⟩:=le.ex H σ ρ T g e w q
 exact f.elim⟩
theorem Bd (h:G1.pr=(bd ix).pr) (q:tE K G1 noX m σ H Q):tE K (bd ix) noX m σ H Q:=by
 obtain ⟨G,W,le,r⟩:=q
 exact ⟨G,W,vG h le,r⟩
theorem A7 (h:G1.pr=(bd ix).pr) (q:tT K G1 noX m σ H Q):tT K (bd ix) noX m σ H Q:=by
 obtain ⟨G,W,le,r⟩:=q
 exact ⟨G,W,vG h le,r⟩
def dE:M3 Bool:=aZ true
theorem DF (h:tT K G0 W0 dE σ H Q):tYes σ H Q:=by
 refine h.use fun G W le ρ T g o ρ' w e q=>?_
 cases e
 exact q _ _ w
theorem kB:∀ {ds a:List D} {τρ τρ':Sto},bX bnd c elt ds τρ=some (.ok a,τρ')->a.length<=ds.length
 | [],a,τρ,τρ',e=>by cases e;exact Gv _
 | d :: ds,a,τρ,τρ',e=>by
  unfold bX at e
  split at e
  ·exact nsE e
  ·rename_i τ1 _
   unfold af at e
   split at e
   ·exact nsE e
   ·cases e
   ·rename_i b τ2 _
    cases b with
    | false =>
     simp only [GL,if_false] at e
     have:=kB e
     simp;omega
    | true =>
     simp only [if_true] at e
     split at e
     ·exact nsE e
     ·cases e
     ·split at e
      ·exact nsE e
      ·cases e
      ·split at e
       ·exact nsE e
       ·cases e
       ·rename_i l τ5 f
        cases e
        have:=kB f
        simp;omega
theorem sy (hz:(16777216:Nat)=sizeLine) (I:Inj ix) (V:Bnd K (bd ix).pr tg bnd) (le:Le K G W G0 W0) (w:Wf K G H σ ρ T g) (e:bx im bnd c elt ix ρ=some (o,ρ')) (he:∀ x,o=.error x->W x ρ') (hZ:∀ (us:List It3) (H':Hp) (g':Nat->Option It3) (Ts:List It3) (ds:List D),o=.ok (.val (.lst ds) .u)->(∀ x ∈ us,x.f=.z)->us.map (·.d)=ds->us.length<=16777216->Wf K G H' σ ρ' (us ++ T) g'->Z (us.map (·.v)) H') :
  tI K G0 W0 im σ H fun J H1=>sS J tg (tT K (bd ix) noX c) (tE K (bd ix) noX elt) Z (cap ix σ) H1:=by
 refine tI.seq le w e he fun p ρ1 e1=>?_
 intro J H1 vs Ts g1 ys m a1 E hw
 have t:=us_u (is:=pls p.1) m
 have B:∀ i y,i ∈ pls p.1->g1 i=some y->y.f=.u->i ∈ us ρ1 (pls p.1):=fun i y hi X hf=>xU m hi X hf
 generalize us ρ1 (pls p.1)=is at e1 t B
 have w2:=m.enter is
 obtain ⟨els,k,walk⟩:=hw
 have hM:∀ b,(∃ j y,j ∉ is/\g1 j=some y/\y.f=.u/\y.v=.ref b)->MutAt H1 b:=fun b ⟨j,y,_,X,hf,n⟩=>by
  obtain ⟨_,a,L',v1,v2,_⟩:=(m.okS j y X).own (by rw [hf];intro q;cases q)
  rw [n] at v1;cases v1
  exact (m.okS j y X).rep.inH b (by rw [v2];exact Ga)
 have N:∀ y ∈ ys,∀ b ∈ y.L,¬ ∃ j y,j ∉ is/\g1 j=some y/\y.f=.u/\y.v=.ref b:=fun y O b V ⟨j,y',nj,l,hf,n⟩=>by
  have S:y'.f ≠ .z:=by rw [hf];intro q;cases q
  rcases E y O with ⟨i,hi,P⟩ | O
  ·by_cases ij:i=j
   ·subst ij
    rw [P] at l;cases l
    exact nj (B i y hi P hf)
   ·exact m.ss j i y' y (Ne.symm ij) l P S b n V
  ·exact (m.st j y' l y (Gf _ O)).1 S b n V
 have C:∀ y ∈ ys,Itm (Ts ++ T) g1 y:=fun y O=>by
  rcases E y O with ⟨i,_,P⟩ | h
  ·exact .inl ⟨i,P⟩
  ·exact .inr (Gf _ h)
 have kid:∀ x ∈ els,∀ c ∈ x.L,dG ((Ts ++ T).map bg) (fun j=>if j ∈ is then (g1 j).map bg else g1 j) c/\(H1 c=none\/(G.H0 c=none\/G.src c)):=fun x r c Y=>by
  obtain ⟨nr,sr⟩:=m.kids C ((k x r).2.2 c Y)
  refine ⟨⟨fun i z s hf n=>?_,fun z hz hf n=>?_⟩,.inr sr⟩
  ·have s:(if i ∈ is then (g1 i).map bg else g1 i)=some z:=s
   by_cases q:i ∈ is
   ·rw [if_pos q] at s
    obtain ⟨z0,e0,e1⟩:=Ge.mp s
    subst e1
    exact nr.1 i z0 e0 (fun q=>hf (lentF_z.mpr q)) n
   ·rw [if_neg q] at s
    exact nr.1 i z s hf n
  ·obtain ⟨z0,h0,rfl⟩:=Gs.mp hz
   exact nr.2 z0 h0 (fun q=>hf (lentF_z.mpr q)) n
 have w3:Wf K (d5 G H1 g1 is) H1 σ (aK cL is ρ1) (els ++ (Ts ++ T).map bg) (fun j=>if j ∈ is then (g1 j).map bg else g1 j):=w2.pushAll fun x r=>⟨(k x r).1,(k x r).2.1,fun c Y=>kid x r c Y⟩
 have w4:=w3.cap I
 cases U:bX bnd c elt p.2 (uu ix (aK cL is ρ1)) with
 | none=>rw [U] at e1;exact nsE e1
 | some rr =>
  obtain ⟨o2,τρ⟩:=rr
  rw [U] at e1
  cases o2 with
  | error x=>exact nsE e1
  | ok ds =>
   dsimp only at e1
   split at e1
   ·rename_i hlen
    cases e3:uncap ix τρ (aK cL is ρ1) with
    | none=>rw [e3] at e1;exact nsE e1
    | some ρ3 =>
     rw [e3] at e1
     have eo:o=.ok (.val (.lst ds) .u)/\ρ'=aK gv is ρ3:=by cases e1;exact ⟨rfl,rfl⟩
     obtain ⟨eo,eρ⟩:=eo
     refine xE (K:=K) (Gc:=AF (d5 G H1 g1 is) ix σ) (els:=els) (M:=fun _=>False) (ys:=ys) hz (fun x r=>⟨Gg _ (Gf _ r),(k x r).1⟩) (fun H' hk=>walk _ H' hM hk N) rfl V (fun σ' H Q q=>A7 (G1:=AF (d5 G H1 g1 is) ix σ) rfl q) (fun σ' H Q q=>Bd (G1:=AF (d5 G H1 g1 is) ix σ) rfl q) hlen w4 U fun us τ' H' g' A F w5=>?_
     obtain ⟨g6,w6⟩:=Wf.uncap w3 (fun b o h=>h) I e3 A w5
     have w7:=Wf.leave (T:=Ts ++ T) (T':=T) (R:=us) m t (Gr Ts T) (w6.sub ((List.Sublist.refl us).append (by
      rw [List.map_append]
      exact (Gr (Ts.map bg) (T.map bg)).trans (Gr els _))))
     have hle:us.length<=16777216:=by
      have h1:us.length=ds.length:=by rw [<- F,Go]
      have h2:=kB U
      omega
     rw [<- eρ] at w7
     exact hZ us H' _ Ts ds eo A F hle w7
   ·exact nsE e1
theorem oY {us:List It3} (w:Wf K G H σ ρ (us ++ T) g) (j:∀ x ∈ us,x.f=.z) (b:H p=none) :
  Wf K G (upd H p (.lst (us.map (·.v)))) σ ρ (⟨.lst (us.map (·.d)),.ref p,p :: (us.map (·.L)).flatten,.u⟩ :: T) g:=by
 have hi:∀ y ∈ us,Itm (us ++ T) g y/\y.f=.z:=fun y i=>⟨.inr (Gf _ i),j y i⟩
 have np:p ∉ (us.map (·.L)).flatten:=fun a=>by
  obtain ⟨y,hm,a⟩:=ff a
  obtain ⟨o,k⟩:=((w.itm (hi y hm).1).rep.inH p a).ex
  rw [b] at k;exact nsE k
 have n:New K H (upd H p (.lst (us.map (·.v)))) (cT us) ⟨.lst (us.map (·.d)),.ref p,p :: (us.map (·.L)).flatten,.u⟩:=⟨bv b,.lst aC ((ly fun y i=>(w.itm (hi y i).1).rep).same (bv b)),fun c a=>by
  rcases Gh.mp a with e | a
  ·rw [e];exact .inl b
  ·exact .inr (ff a),fun _=>⟨rfl,p,_,rfl,rfl,np,b⟩⟩
 exact (w.push n fun c h=>w.alls hi h).sub (List.Sublist.cons_cons _ (Gr us T))
theorem Bf (hz:(16777216:Nat)=sizeLine) (f:Inj ix) (j:Bnd K (bd ix).pr tg bnd) (h:tE K G0 W0 (bx im bnd c elt ix) σ H Q) :
  Da (tI K G0 W0 im) tg (tT K (bd ix) noX c) (tE K (bd ix) noX elt) ix σ H Q:=by
 refine h.use fun G W le ρ T g o ρ' w e q=>?_
 refine sy hz f j le w e q.err fun us H' g' Ts ds m a b n i=>?_
 subst m b
 intro p l
 have k:=oY i a l
 exact q (.ref p) _ ⟨[_],g',k,Ar.val (⟨.lst (us.map (·.d)),.ref p,p :: (us.map (·.L)).flatten,.u⟩:It3)⟩
theorem s9 {i:Nat} (hz:(16777216:Nat)=sizeLine) (l:Inj ix) (s:Bnd K (bd ix).pr tg bnd) (v:G0.pr i=false) (h:tS K G0 W0 (a7 i (bx im bnd c elt ix)) E σ H) :
  Dc i (tI K G0 W0 im) tg (tT K (bd ix) noX c) (tE K (bd ix) noX elt) ix E σ H:=by
 refine h.use fun G W le ρ T g r ρ' w e q=>?_
 unfold a7 af at e
 cases e1:bx im bnd c elt ix ρ with
 | none=>rw [e1] at e;exact nsE e
 | some pr =>
  obtain ⟨o,ρ1⟩:=pr
  rw [e1] at e
  have a:∀ x,o=.error x->W x ρ1:=fun x m=>by subst m;cases e;exact q
  refine sy hz l s le w e1 a fun us H' g' Ts ds y j k z n=>?_
  subst y k
  intro p b
  have t:=oY n j b
  have e:(if i < ρ1.length then some ((.ok .nx,ρ1.set i (some (D.lst (us.map (·.d)),Fl.u))):Except D Flw × Sto) else none)=some (r,ρ'):=e
  split at e
  ·rename_i hi
   cases e
   exact q _ _ _ (t.store (f:=.u) hi (by rw [le.pr];exact v) (.inl rfl) (by intro h;cases h))
  ·exact nsE e
end
end L3
end
section
namespace L3
open PySem L2
section
variable {K:FG} {G G0:Gm} {W W0:D->Sto->Prop} {H H':Hp} {σ:St} {ρ ρ':Sto} {T T':List It3} {g:Nat->Option It3} {x y z:It3} {α β:Type}
theorem Wf.mutate {i:Nat} (w:Wf K G H σ ρ T g) (C:g i=some y) (hu:y.f=.u) (ev:y.v=.ref a) (hm:jS d'=true) (rep:Rep K (upd H a o') d' (.ref a) (a :: B)) (na:a ∉ B) (X:∀ c ∈ B,dG T g c/\(G.H0 c=none\/G.src c)):Wf K G (upd H a o') σ (ρ.set i (some (d',.u))) T (fun j=>if j=i then some ⟨d',.ref a,a :: B,.u⟩ else g j):=by
 have s:y.f ≠ .z:=by rw [hu];intro q;cases q
 have P:=w.okS i y C
 obtain ⟨_,a',L',v1,v2,v3,v4⟩:=P.own s
 rw [ev] at v1;cases v1
 have hi:i < ρ.length:=by
  have:=w.sl i
  rw [C] at this
  exact fX this.symm
 have ma:MutAt H a:=P.rep.inH a (by rw [v2];exact Ga)
 have val:∀ j u,(if j=i then some (⟨d',.ref a,a :: B,.u⟩:It3) else g j)=some u->(j=i/\u=⟨d',.ref a,a :: B,.u⟩)\/(j ≠ i/\g j=some u):=fun j u h=>by
  by_cases q:j=i
  ·rw [if_pos q] at h;cases h;exact .inl ⟨q,rfl⟩
  ·rw [if_neg q] at h;exact .inr ⟨q,h⟩
 have keep:∀ u,ItOk K G H u->a ∉ u.L->ItOk K G (upd H a o') u:=fun u ou hn=>ou.keep (M:=fun b=>b=a) (fun b o x n=>by rw [ao n];exact x) (fun b e=>by rw [e];exact ma) fun b x e=>hn (by rw [<- e];exact x)
 have U:∀ j u,j ≠ i->g j=some u->a ∉ u.L:=fun j u n e=>w.ss i j y u (Ne.symm n) C e s a ev
 have W:∀ u ∈ T,a ∉ u.L:=fun u r=>(w.st i y C u r).1 s a ev
 have E:∀ b o,H b=some o->∃ R,upd H a o' b=some R:=fun b o x=>by
  by_cases q:b=a
  ·rw [q,aC];exact ⟨_,rfl⟩
  ·rw [ao q];exact ⟨o,x⟩
 refine ⟨by rw [List.length_set];exact w.len,fun j=>?_,fun j u h=>?_,fun j u h=>?_,fun u r=>keep u (w.okT u r) (W u r),fun j k p q n N Z=>?_,fun j u h t J=>?_,w.tt,fun b o e n=>?_,w.pro,⟨w.fx.frT,fun j u h N hf b O=>?_,fun b x=>?_,fun b o x=>?_,fun j u h Q=>?_⟩⟩
 ·rw [cM hi]
  by_cases q:j=i
  ·rw [if_pos q,if_pos q];rfl
  ·rw [if_neg q,if_neg q];exact w.sl j
 ·rcases val j u h with ⟨rfl,rfl⟩ | ⟨n,h⟩
  ·rw [w.sv j y C,ev]
  ·exact w.sv j u h
 ·rcases val j u h with ⟨rfl,rfl⟩ | ⟨n,h⟩
  ·refine ⟨rep,fun _=>⟨hm,a,B,rfl,rfl,na,fun _=>v4 hu⟩,fun c d=>?_⟩
   rcases Gh.mp d with e | d
   ·rw [e];exact P.src a (by rw [v2];exact Ga)
   ·exact (X c d).2
  ·exact keep u (w.okS j u h) (U j u n h)
 ·rcases val j p N with ⟨F,ep⟩ | ⟨n1,l⟩
  ·rcases val k q Z with ⟨Y,eq⟩ | ⟨n2,A⟩
   ·exact absurd (F.trans Y.symm) n
   ·rw [ep]
    intro _ c m
    cases m
    exact U k q n2 A
  ·rcases val k q Z with ⟨Y,eq⟩ | ⟨n2,A⟩
   ·rw [eq]
    intro hf c m d
    rcases Gh.mp d with e | d
    ·obtain ⟨_,b,L2,I,S,_⟩:=(w.okS j p l).own hf
     rw [m] at I;cases I
     exact U j p n1 l (by rw [<- e,S];exact Ga)
    ·exact (X c d).1.1 j p l hf m
   ·exact w.ss j k p q n l A
 ·rcases val j u h with ⟨F,D⟩ | ⟨n,h'⟩
  ·rw [D]
   refine ⟨fun _ c m=>by cases m;exact W t J,fun hf c m d=>?_⟩
   rcases Gh.mp d with e | d
   ·obtain ⟨_,b,L2,I,S,_⟩:=(w.okT t J).own hf
    rw [m] at I;cases I
    exact W t J (by rw [<- e,S];exact Ga)
   ·exact (X c d).1.2 t J hf m
  ·exact w.st j u h' t J
 ·have:b ≠ a:=fun z=>by
   subst z
   rcases v4 hu with h | h
   ·rw [e] at h;cases h
   ·exact n h
  rw [ao this];exact w.base b o e n
 ·rcases val j u h with ⟨F,D⟩ | ⟨n,h'⟩
  ·subst F
   rw [D] at O
   cases O
   exact w.fx.frS j y C N s a ev
  ·exact w.fx.frS j u h' N hf b O
 ·obtain ⟨o,V⟩:=w.fx.bin b x
  exact E b o V
 ·obtain ⟨o2,V⟩:=w.fx.ob b o x
  exact E b o2 V
 ·rcases val j u h with ⟨F,D⟩ | ⟨n,h'⟩
  ·rw [D] at Q;cases Q
  ·exact w.fx.lvS j u h' Q
def MutD (K:FG) (r:V->List V->Hp->VK->Prop) (f:D->List D->Option (D × D)):Prop:=∀ (a:Addr) (d:D) (b:List Addr) (as:List It3) (H:Hp) (Q:VK) (p:D × D),Rep K H d (.ref a) (a :: b)->jS d=true->a ∉ b->(∀ x ∈ as,Rep K H x.d x.v x.L)->(∀ x ∈ as,a ∉ x.L)->f d (as.map (·.d))=some p ->
 (∀ (o':HO) (e:List Addr) (w:It3),Rep K (upd H a o') p.1 (.ref a) (a :: e)->jS p.1=true->(∀ c ∈ e,c ∈ b\/cT as c)->w.f=.z->w.d=p.2->Rep K (upd H a o') w.d w.v w.L->(∀ c ∈ w.L,c ∈ b\/cT as c)->Q w.v (upd H a o'))->r (.ref a) (as.map (·.v)) H Q
def chk (ok:D->Bool) (i:Nat):M3 Unit:=fun ρ=>match (ρ[i]?).join with
 | some (d,_)=>if ok d then some (.ok (),ρ) else none
 | none=>none
theorem qy {i:Nat} (e:af (ac i) k ρ=some (r,ρ')):∃ p,(ρ[i]?).join=some p/\k (.pl i) ρ=some (r,ρ'):=by
 unfold af ac at e
 cases q:(ρ[i]?).join with
 | none=>rw [q] at e;exact nsE e
 | some p=>rw [q] at e;exact ⟨p,rfl,e⟩
theorem AC {i:Nat} (e:af (chk ok i) k ρ=some (r,ρ')):(∀ p,(ρ[i]?).join=some p->ok p.1=true)/\k () ρ=some (r,ρ'):=by
 unfold af chk at e
 grind
def pN (ok:D->Bool) (f:D->List D->Option (D × D)) (i:Nat) (ms:M3 (List R3)):EM:=af (ac i) fun _=>af (chk ok i) fun _=>af ms fun rs=>af (gives rs) fun ds=>fun ρ=>match (ρ[i]?).join with
 | some (d,.u)=>match f d ds with
  | some p=>some (.ok (.val p.2 .z),ρ.set i (some (p.1,.u)))
  | none=>none
 | _=>none
theorem Wf.changed {i:Nat} {as us:List It3} (X:MutD K r f) (w:Wf K G H σ ρ (us ++ T) g) (e:(ρ[i]?).join=some (d,.u)) (P:σ[i]?=some (some v)) (D:∀ y ∈ as,Itm (us ++ T) g y/\y.f=.z) (V:f d (as.map (·.d))=some p) (q:∀ v H',Got K G σ (ρ.set i (some (p.1,.u))) T (.val p.2 .z) v H'->Q v H'):r v (as.map (·.v)) H Q:=by
 obtain ⟨y,C,J,N,t⟩:=w.slot e
 rw [P] at t
 injection t with t
 injection t with t
 have n:y.f ≠ .z:=by rw [N];intro q;cases q
 have F:=w.okS i y C
 obtain ⟨m,a,E,v1,v2,v3,_⟩:=F.own n
 have ra:=F.rep
 rw [v1,v2,J] at ra
 rw [J] at m
 rw [t,v1]
 have na:∀ x ∈ as,a ∉ x.L:=fun x o b=>by
  have:=(w.kid (D x o).1 b fun hf=>absurd (D x o).2 hf).1 i y C n
  exact this v1
 refine X a d E as H Q p ra m v3 (fun x o=>(w.itm (D x o).1).rep) na V fun o' Z u S U s1 M O W B=>?_
 have k:∀ c,(c ∈ E\/cT as c)->dG (us ++ T) g c/\(G.H0 c=none\/G.src c):=fun c b=>by
  rcases b with b | b
  ·have A:c ∈ y.L:=by rw [v2];exact Gb _ b
   exact ⟨w.kid (.inl ⟨i,C⟩) A fun _ l=>by rw [v1] at l;cases l;exact v3 b,F.src c A⟩
  ·exact w.alls D b
 have I:∀ c,(c ∈ E\/cT as c)->c ≠ a:=fun c b z=>(k c b).1.1 i y C n (by rw [z];exact v1)
 have Y:=w.mutate (o':=o') C N v1 U S (fun h=>I a (s1 a h) rfl) fun c b=>k c (s1 c b)
 have R:=Y.pushAll (ws:=[u]) fun x o=>by
  rw [GK.mp o]
  refine ⟨M,W,fun c b=>?_⟩
  have s:=k c (B c b)
  refine ⟨⟨fun j z l hf hz=>?_,s.1.2⟩,s.2⟩
  have l:(if j=i then some (⟨p.1,.ref a,a :: Z,.u⟩:It3) else g j)=some z:=l
  by_cases q:j=i
  ·rw [if_pos q] at l
   cases l
   cases hz
   exact I a (B a b) rfl
  ·rw [if_neg q] at l
   exact s.1.1 j z l hf hz
 rw [<- O,<- M] at q
 exact q u.v _ ⟨[u],_,R.sub ((List.Sublist.refl [u]).append (Gr us T)),.val u⟩
theorem DS {i:Nat} (D:MutD K r f) (hok:∀ d v L H,ok d=true->Rep K H d v L->tyV K Ty v H) (h:tE K G0 W0 (pN ok f i ms) σ H Q):tBM K Ty r (wr i) (tA K G0 W0 ms) σ H Q:=by
 refine h.use fun G W le ρ T g o ρ' w e q=>?_
 obtain ⟨n,j,e⟩:=qy e
 obtain ⟨F,e⟩:=AC e
 obtain ⟨m,f0⟩:=n
 obtain ⟨y,B,C,J,k⟩:=w.slot j
 refine ⟨y.v,k,hok m y.v y.L H (F _ j) (by rw [<- C];exact (w.okS i y B).rep),?_⟩
 refine tA.seq le w e q.err fun rs ρ1 e1 I H1 Ts g1 E a1=>?_
 obtain ⟨ds,ρ2,g2,a,_,t,_,ys,x,f1,f2⟩:=a1.gives E e1
 subst f1 f2
 cases c:(ρ2[i]?).join with
 | none=>rw [c] at a;exact nsE a
 | some p3 =>
  obtain ⟨A,s⟩:=p3
  rw [c] at a
  cases s with
  | u =>
   dsimp only at a
   cases b:f A (ys.map (·.d)) with
   | none=>rw [b] at a;exact nsE a
   | some p =>
    rw [b] at a
    cases a
    exact t.changed D c k x b q
  | l=>exact nsE a
  | z=>exact nsE a
def md (t:V->V->V->Hp->(Hp->Prop)->Prop):V->List V->Hp->VK->Prop:=fun x a H Q=>∃ k v,a=[k,v]/\t x k v H fun H'=>Q .non H'
def nk (f:D->List D->Option (D × D)) (i:Nat) (mk a:EM):SM:=af a fun c=>af (ac i) fun _=>af mk fun b=>af (gives [b,c]) fun ds=>fun ρ=>match (ρ[i]?).join with
 | some (d,.u)=>match f d ds with
  | some p=>some (.ok .nx,ρ.set i (some (p.1,.u)))
  | none=>none
 | _=>none
theorem DH {i:Nat} (N:MutD K (md t) f) (h:tS K G0 W0 (nk f i mk mv) E σ H):yp (tE K G0 W0 mv) (gSub (wr i) (tE K G0 W0 mk) t) E σ H:=by
 refine h.use fun G W le ρ T g r ρ' w e q=>?_
 refine tE.seq le w e q.err fun S ρ1 e1 v H1 ⟨Ts,g1,m,a1⟩=>?_
 obtain ⟨o,n,e1⟩:=qy e1
 obtain ⟨U,f0⟩:=o
 obtain ⟨y,Y,y2,y3,k⟩:=m.slot n
 refine ⟨y.v,k,?_⟩
 ·refine tE.seq le m e1 q.err fun P ρ2 J x H2 ⟨Us,g2,C,a2⟩=>?_
  have B:Ars σ [P,S] [x,v] (([] ++ Ts) ++ Us):=.cons a2 (.cons a1 .nil)
  have L:Wf K G H2 σ ρ2 ((([] ++ Ts) ++ Us) ++ T) g2:=C.perm (by
   rw [List.nil_append,<- List.append_assoc]
   exact (List.perm_append_comm).append_right T)
  obtain ⟨ds,ρ3,g3,a,_,O,_,ys,D,f1,f2⟩:=B.gives L J
  subst f1
  cases c:(ρ3[i]?).join with
  | none=>rw [c] at a;exact nsE a
  | some p3 =>
   obtain ⟨F,s⟩:=p3
   rw [c] at a
   cases s with
   | u =>
    dsimp only at a
    cases b:f F (ys.map (·.d)) with
    | none=>rw [b] at a;exact nsE a
    | some p =>
     rw [b] at a
     cases a
     have:=O.changed (Q:=fun _ H'=>E.nx σ H') N c k D b fun R H' ⟨I,V,M,X⟩=>q _ _ _ (M.sub (Gr I T))
     rw [f2] at this
     obtain ⟨Z,R,j,A⟩:=this
     cases j
     exact A
   | l=>exact nsE a
   | z=>exact nsE a
end
end L3
end
section
namespace L3
open PySem L2
structure RE (X:Cx) (G0:Gm) (W0:D->Sto->Prop) (e:Expr) (m:EM):Prop where
 h:PE X e (tE X.K G0 W0 m)
structure RT (X:Cx) (G0:Gm) (W0:D->Sto->Prop) (e:Expr) (m:M3 Bool):Prop where
 h:PT X e (tT X.K G0 W0 m)
structure RW (X:Cx) (G0:Gm) (W0:D->Sto->Prop) (e:Expr) (m:M3 Bool):Prop where
 h:PW X e (tT X.K G0 W0 m)
structure RA (X:Cx) (G0:Gm) (W0:D->Sto->Prop) (es:List Expr) (m:M3 (List R3)):Prop where
 h:PA X es (tA X.K G0 W0 m)
structure RS (X:Cx) (G0:Gm) (W0:D->Sto->Prop) (s:Stmt) (m:SM):Prop where
 h:PS X s (tS X.K G0 W0 m)
structure RSs (X:Cx) (G0:Gm) (W0:D->Sto->Prop) (s:List Stmt) (m:SM):Prop where
 h:PSs X s (tS X.K G0 W0 m)
structure RI (X:Cx) (G0:Gm) (W0:D->Sto->Prop) (tg iter:Expr) (m:IM):Prop where
 h:PI X tg iter (tI X.K G0 W0 m)
structure RG (X:Cx) (pr:Nat->Bool) (target:Expr) (bnd:D->Sto->Option Sto):Prop where
 h:∃ tg,PG X target tg/\Bnd X.K pr tg bnd
structure RGs (X:Cx) (pr:Nat->Bool) (targets:List Expr) (bnd:List D->Sto->Option Sto):Prop where
 h:∃ tg,PGs X targets tg/\A2 X.K pr tg bnd
theorem PE.imp (h:PE X e t) (f:∀ σ H Q,t' σ H Q->t σ H Q):PE X e t':=fun pins s σ H Q I q=>h pins s σ H Q I (f σ H Q q)
theorem PT.imp (h:PT X e t) (f:∀ σ H Q,t' σ H Q->t σ H Q):PT X e t':=fun pins s σ H Q I q=>h pins s σ H Q I (f σ H Q q)
theorem PW.imp (h:PW X e t) (f:∀ σ H Q,t' σ H Q->t σ H Q):PW X e t':=fun a pins s σ H Q I q=>h a pins s σ H Q I (f σ H Q q)
theorem PA.imp (h:PA X e t) (f:∀ σ H Q,t' σ H Q->t σ H Q):PA X e t':=fun pos pins s σ H Q I q=>h pos pins s σ H Q I (f σ H Q q)
theorem PS.imp (h:PS X e t) (f:∀ D σ H,t' D σ H->t D σ H):PS X e t':=fun pins s σ H D I q=>h pins s σ H D I (f D σ H q)
theorem PSs.imp (h:PSs X e t) (f:∀ D σ H,t' D σ H->t D σ H):PSs X e t':=fun pins s σ H D I q=>h pins s σ H D I (f D σ H q)
theorem PI.imp (h:PI X tg e t) (f:∀ σ H R,t' σ H R->t σ H R):PI X tg e t':=fun pins s σ H R I q=>h pins s σ H R I (f σ H R q)
theorem szl:(16777216:Nat)=sizeLine:=by rw [sizeLine_eq]
section
variable {X:Cx} {G0:Gm} {W0:D->Sto->Prop} {a b c e:Expr} {es:List Expr} {pos:Pos} {ma mb mc m:EM} {ms:M3 (List R3)} {t u:M3 Bool} {gw:List Expr}
theorem pB (i:Nat) (b:X.N[i]?=some x) (c:Vis X.env.scope x) (hd:(x == ("__debug__":Str))=false) (a:(x == ("__classdict__":Str))=false):RE X G0 W0 (.Name x pos) (ac i):=⟨PE.imp (mi b c hd a) fun _ _ _ h=>DP h⟩
theorem Ex:RE X G0 W0 (.Constant (.int i) j pos) (mC (.int i)):=⟨PE.imp pG fun _ _ _ h=>hJ (fun _=>.int i) h⟩
theorem re_bl:RE X G0 W0 (.Constant (.bool i) j pos) (mC (.bl i)):=⟨PE.imp pe_bl fun _ _ _ h=>hJ (fun _=>.bl i) h⟩
theorem Ev:RE X G0 W0 (.Constant .none j pos) (mC .non):=⟨PE.imp ER fun _ _ _ h=>hJ (fun _=>.non) h⟩
theorem Es:RE X G0 W0 (.Constant (.str i) j pos) (mC (.str i)):=⟨PE.imp zv fun _ _ _ h=>hJ (fun _=>.str i) h⟩
theorem qT {i:Int} (a:Gl X x) (hm:X.mg x=some (.int i tk)) (hd:(x == ("__debug__":Str))=false):RE X G0 W0 (.Name x pos) (mC (.int i)):=⟨PE.imp (vt (v:=V.int i) a hm ⟨_,rfl⟩ hd) fun _ _ _ h=>hJ (fun _=>.int i) h⟩
theorem kc (e:OpR X (binaryOp op) r) (hd:OpD X.K r f) (d:RE X G0 W0 a ma) (c:RE X G0 W0 b mb):RE X G0 W0 (.BinOp a op b pos) (aj f ma mb):=⟨PE.imp (pe_op e d.h c.h) fun _ _ _ h=>pe hd h⟩
theorem re_un (c:UnR X (unaryOp op) r) (hd:UnD X.K r f) (b:RE X G0 W0 a ma):RE X G0 W0 (.UnaryOp op a pos) (mUn f ma):=⟨PE.imp (pe_un c b.h) fun _ _ _ h=>yk hd h⟩
theorem pD (e:OpR X (compareOp op) r) (hd:OpD X.K r f) (d:RE X G0 W0 a ma) (c:RE X G0 W0 b mb) (hm:behindInMarks op b=false):RE X G0 W0 (.Compare a [op] [b] pos) (aj f ma mb):=⟨PE.imp (B7 e d.h c.h hm) fun _ _ _ h=>pe hd h⟩
theorem re_ix (e:IxR X r) (hd:OpD X.K r f) (d:RE X G0 W0 a ma) (c:RE X G0 W0 b mb) (g:wk b):RE X G0 W0 (.Subscript a b pos) (aj f ma mb):=⟨PE.imp (pe_ix e d.h c.h g) fun _ _ _ h=>pe hd h⟩
theorem EA (d:RE X G0 W0 a ma) (c:RE X G0 W0 (.BoolOp .And (b :: gw) pos) mb):RE X G0 W0 (.BoolOp .And (a :: b :: gw) pos) (i9 ma mb):=⟨PE.imp (EY d.h c.h) fun _ _ _ h=>DU h⟩
theorem Et (h:RE X G0 W0 a ma):RE X G0 W0 (.BoolOp op [a] pos) ma:=⟨EO h.h⟩
theorem Eu (b:RE X G0 W0 a ma):RE X G0 W0 (.UnaryOp .Not a pos) (rV ma):=⟨PE.imp (EQ b.h) fun _ _ _ h=>DR h⟩
theorem re_if (f:RT X G0 W0 c t) (e:RE X G0 W0 a ma) (d:RE X G0 W0 b mb):RE X G0 W0 (.IfExp c a b pos) (mIf t ma mb):=⟨PE.imp (zx f.h e.h d.h) fun _ _ _ h=>tE_if h⟩
def eV (f a:D->D->Option (D × Fl)) (ma mb mc:EM):EM:=af ma fun ra=>af mb fun rb=>af (der ra) fun da=>af (der rb) fun db=>af (ba ((f da db).bind fun p=>asB p.1)) fun k=>if k then af mc fun rc=>af (der rb) fun db=>af (der rc) fun b=>ba ((a db b).map fun p=>R3.val p.1 p.2) else aZ (.val (.bl false) .z)
theorem Eh (b:RE X G0 W0 a ma) (he:∀ whole,isTrue a X.env whole=(do let v <- whole;standAt a.pos;holding [v] (truthy v))):RT X G0 W0 a (cB ma):=⟨PT.imp (EG b.h he) fun _ _ _ h=>tT_b h⟩
theorem rt_w (h:RW X G0 W0 a t):RT X G0 W0 a t:=⟨h.h.pt⟩
theorem Ee (b:RT X G0 W0 a t):RW X G0 W0 (.BoolOp .Or [a] pos) t:=⟨ED b.h⟩
theorem rw_or (d:RT X G0 W0 a t) (c:RW X G0 W0 (.BoolOp .Or (b :: gw) pos) u):RW X G0 W0 (.BoolOp .Or (a :: b :: gw) pos) (cOr t u):=⟨PW.imp (pw_or d.h c.h) fun _ _ _ h=>tT_or h⟩
theorem Ei (b:RT X G0 W0 a t):RT X G0 W0 (.UnaryOp .Not a pos) (dF t):=⟨PT.imp (EH b.h) fun _ _ _ h=>DG h⟩
theorem zc:RA X G0 W0 [] ag:=⟨PA.imp mj fun _ _ _ h=>DX h⟩
theorem ve (a:RE X G0 W0 e m) (b:RA X G0 W0 es ms) (c:starEach (e :: es) X.env=(false,eval e X.env) :: starEach es X.env):RA X G0 W0 (e :: es) (aa m ms):=⟨PA.imp (fP a.h b.h c) fun _ _ _ h=>Bh h⟩
theorem Er (h:RA X G0 W0 es ms):RE X G0 W0 (.Tuple es x1 pos) (bU ms):=⟨PE.imp (zu h.h) fun _ _ _ h=>DQ szl h⟩
theorem Ew (h:RA X G0 W0 es ms):RE X G0 W0 (.List es pos) (cn ms):=⟨PE.imp (ES h.h) fun _ _ _ h=>DT szl h⟩
theorem de {id:String} (i:CallR X (.builtin id) r) (hd:cS X.K r f) (d:Gl X x) (hm:X.mg x=none) (j:bootBuiltins x=some (.builtin id)) (c:RA X G0 W0 (e :: es) ms) (g:x ≠ "__name__") (a:(x == ("__debug__":Str))=false) (he:starEach (e :: es) X.env=(false,eval e X.env) :: starEach es X.env) (b:(backTo pos (starEach es X.env)).any (·.1)=false):RE X G0 W0 (.Call (.Name x p) (e :: es) [] pos) (ay f ms):=⟨PE.imp (jI i d hm j c.h g a he b) fun _ _ _ h=>lL hd h⟩
theorem oq (i:CallR X (.type T) r) (hd:cS X.K r f) (d:Gl X x) (hm:X.mg x=none) (j:bootBuiltins x=some (.type T)) (c:RA X G0 W0 (e :: es) ms) (g:x ≠ "__name__") (a:(x == ("__debug__":Str))=false) (he:starEach (e :: es) X.env=(false,eval e X.env) :: starEach es X.env) (b:(backTo pos (starEach es X.env)).any (·.1)=false):RE X G0 W0 (.Call (.Name x p) (e :: es) [] pos) (ay f ms):=⟨PE.imp (ot i d hm j c.h g a he b) fun _ _ _ h=>lL hd h⟩
variable {st:Stmt} {sts:List Stmt} {sm sn:SM}
theorem BG:RSs X G0 W0 [] cz:=⟨PSs.imp BW fun _ _ _ h=>DL h⟩
theorem yS (h1:RS X G0 W0 st sm) (h2:RSs X G0 W0 sts sn):RSs X G0 W0 (st :: sts) (aG sm sn):=⟨PSs.imp (zm h1.h h2.h) fun _ _ _ h=>DJ h⟩
theorem BF (h1:RS X G0 W0 st sm):RSs X G0 W0 [st] sm:=⟨vp h1.h⟩
theorem BH (he:RE X G0 W0 e m) (a:swapsWith e none pos.line X.env=pure false):RS X G0 W0 (.Expr e pos) (gi m):=⟨PS.imp (BY he.h a) fun _ _ _ h=>A8 h⟩
theorem El (np:Nat) (a:∀ i,np<=i->G0.pr i=false) (he:RE X G0 W0 e m):RS X G0 W0 (.Return (some e) pos) (aM np m):=⟨PS.imp (EJ he.h) fun _ _ _ h=>DK a h⟩
theorem rs_if (d:RT X G0 W0 c t) (b:RSs X G0 W0 x sm) (a:RSs X G0 W0 y sn):RS X G0 W0 (.If c x y pos) (sIf t sm sn):=⟨PS.imp (ps_if d.h b.h a.h) fun _ _ _ h=>tS_if h⟩
theorem yV (i:Nat) (a:X.N.Nodup) (hi:X.N[i]?=some x) (c:Loc X.env.scope x) (he:RE X G0 W0 e m) (d:swapsWith e (some (.Name x pos')) pos.line X.env=pure false) (hf:X.fn x=true\/X.env.scope.names.lookup x=some .local) (b:G0.pr i=false):RS X G0 W0 (.Assign [.Name x pos'] e pos) (a7 i m):=⟨PS.imp (EI a hi c he.h d hf) fun _ _ _ h=>DI b h⟩
theorem yU (a:PassesOwn (model X.prog X.w) X.A X.env X.xe) (d:RT X G0 W0 c t) (b:RSs X G0 W0 body sm):RS X G0 W0 (.While c body [] pos) (fL t sm):=⟨PS.imp (zn a d.h b.h) fun _ _ _ h=>yg h⟩
theorem Em (b:PassesOwn (model X.prog X.w) X.A X.env X.xe) (e:X.calm=true) (hi:RI X G0 W0 tg iter im) (c:RG X G0.pr tg bnd) (a:RSs X G0 W0 body sm) (d:∀ x,foldedSetIterable iter X.env x=pure x):RS X G0 W0 (.For tg iter body [] pos) (c8 im bnd sm):=by
 obtain ⟨g,h1,h2⟩:=c.h
 exact ⟨PS.imp (EK b e hi.h h1 a.h d) fun _ _ _ h=>DM h2 h⟩
theorem u5 (i:Nat) (a:X.N.Nodup) (hi:X.N[i]?=some x) (c:Loc X.env.scope x) (hf:X.fn x=true\/X.env.scope.names.lookup x=some .local) (b:pr i=false):RG X pr (.Name x pos) (aw i):=⟨_,jH a hi c hf,iL b⟩
theorem BO:RGs X pr [] j3:=⟨_,vq,sM⟩
theorem y6 (h1:RG X pr e bn) (h2:RGs X pr es bs) (a:(assignEach (e :: es) X.env).map (·.2)=assign e X.env :: (assignEach es X.env).map (·.2)):RGs X pr (e :: es) (cy bn bs):=by
 obtain ⟨g,a1,a2⟩:=h1.h
 obtain ⟨b,b1,b2⟩:=h2.h
 exact ⟨_,mf a1 b1 a,kD a2 b2⟩
theorem Ep {k n:Nat} (c:X.calm=true) (h:RGs X pr es bs) (b:(assignEach es X.env).length=n) (a:(assignEach es X.env).findIdx? (·.1)=none):RG X pr (.Tuple es k pos) (j0 n bs):=by
 obtain ⟨d,b1,b2⟩:=h.h
 exact ⟨_,zt c b1 b a,wa b2⟩
theorem BQ (NY:List Str) (ix:List (Option Nat)) (g:X.calm=true) (hi:RI X G0 W0 tg iter im) (e:∀ s H C fp,PTs (aR X NY scope s H C fp) ifs (tT X.K (bd ix) noX cm)) (he:∀ s H C fp,RE (aR X NY scope s H C fp) (bd ix) noX elt em) (d:iG scope X.N X.env.scope NY ix=true) (c:Inj ix) (f:∀ x,foldedSetIterable iter X.env x=pure x) (b:∃ a,Bnd X.K (bd ix).pr a bnd/\∀ s H C fp,PG (aR X NY scope s H C fp) tg a):RE X G0 W0 (.ListComp elt [⟨tg,iter,ifs,0⟩] scope pos) (bx im bnd cm em ix):=by
 obtain ⟨a,b1,b2⟩:=b
 exact ⟨PE.imp (B6 NY ix g hi.h b2 e (fun s H C fp=>(he s H C fp).h) d f) fun _ _ _ h=>Bf szl c b1 h⟩
end
end L3
end
section
namespace L3
open PySem L2
noncomputable def ak (F:Fn) (ms:M3 (List R3)):EM:=af ms fun rs=>fun ρ=>match prs (frz (d7 rs) ρ) rs with
 | none=>none
 | some ps=>match F ps with
  | none=>none
  | some (.ok p,qs)=>if qs.length=ps.length then some (.ok (.val p.1 p.2),back rs ps qs (frz (d7 rs) ρ)) else none
  | some (.error _,_)=>none
def tf (K:FG) (F:Fn):Sp:=fun a H Q _=>∃ (ps:List It3) (p:D × Fl) (fs:List (D × Fl)),a=ps.map (·.v)/\(∀ p ∈ ps,Arg K H p)/\ps.Pairwise Apart3/\F (ps.map fun p=>(p.d,p.f))=some (.ok p,fs) /\
 ∀ x qs H',Behind K H H' ps qs x->x.d=p.1->x.f=p.2->qs.map (fun q=>(q.d,q.f))=fs->Q x.v H'
section
variable {K:FG} {G G0:Gm} {W W0:D->Sto->Prop} {H H':Hp} {σ:St} {ρ ρ':Sto} {T T':List It3} {g:Nat->Option It3} {x y z:It3} {α β:Type}
theorem qE (h:tE K G0 W0 (ak F ms) σ H Q):tA K G0 W0 ms σ H fun n H1=>tf K F n H1 Q E0:=by
 refine h.use fun G W le ρ T g o ρ' w e q=>?_
 refine tA.seq le w e q.err fun rs ρ1 e1 n H1 Ts g1 t a1=>?_
 obtain ⟨g2,c,L⟩:=Wf.frz (is:=d7 rs) t
 cases j:prs (L3.frz (d7 rs) ρ1) rs with
 | none=>rw [j] at e1;exact nsE e1
 | some pfs =>
  rw [j] at e1
  dsimp only at e1
  have hd:∀ i,2<=(pls rs).count i->∀ y,g2 i=some y->y.f=.z:=fun i P y s=>by
   have hm:i ∈ d7 rs:=GM.mpr ⟨List.count_pos_iff.mp (by omega),by simpa using P⟩
   have s1:=c.sl i
   rw [s] at s1
   have J:∃ y0,g1 i=some y0:=by
    cases E:g1 i with
    | some y0=>exact ⟨y0,rfl⟩
    | none =>
     exfalso
     have s2:=t.sl i
     rw [E] at s2
     have:=mK (is:=d7 rs) s2.symm
     rw [this] at s1
     cases s1
   obtain ⟨y0,l⟩:=J
   obtain ⟨R,b,_,A⟩:=L i y0 l
   rw [s] at b
   cases b
   exact A hm
  obtain ⟨ps,f1,f2,C,f4,O⟩:=Ars.args a1 c hd j
  have hit:∀ p ∈ ps,Itm (Ts ++ T) g2 p:=fun p k=>by
   rcases f4 p k with ⟨i,_,M⟩ | h
   ·exact .inl ⟨i,M⟩
   ·exact .inr (Gf _ h)
  have d:∀ p ∈ ps,Arg K H1 p:=fun p k=>⟨(c.itm (hit p k)).rep,fun hf=>by
   obtain ⟨m,a,L',v1,v2,v3,_⟩:=(c.itm (hit p k)).own hf
   exact ⟨m,a,L',v1,v2,v3⟩⟩
  subst f2
  cases b:F pfs with
  | none=>rw [b] at e1;exact nsE e1
  | some r =>
   obtain ⟨out,fs⟩:=r
   rw [b] at e1
   cases out with
   | ok p =>
    dsimp only at e1
    split at e1
    ·cases e1
     refine ⟨ps,p,fs,rfl,d,C,by rw [f1];exact b,?_⟩
     intro x qs H' B x1 I D
     obtain ⟨g',S,N⟩:=Wf.after c j f1 f4 O B.toBehindX
     have u:=N x B.rep B.own B.src B.apx
     rw [D] at u
     rw [<- x1,<- I] at q
     exact q x.v H' ⟨[x],g',u,.val x⟩
    ·exact nsE e1
   | error er=>exact nsE e1
def cw (b:Bool) (p:It3):It3:=if b then dn p else p
theorem kg:∀ {mask:List Bool} {ps:List It3},(List.zipWith cw mask ps).map (fun p=>(p.d,p.f))=List.zipWith lf mask (ps.map fun p=>(p.d,p.f))
 | [],_=>rfl
 | _ :: _,[]=>rfl
 | b :: mask,p :: ps=>by
  simp only [List.zipWith_cons_cons,Gz,kg]
  cases b <;> rfl
theorem oJ {i:Nat} (h:(List.zipWith cw mask ps)[i]?=some q):∃ b p,mask[i]?=some b/\ps[i]?=some p/\q=cw b p:=by grind
theorem jP {i:Nat} (a:ps.length=mask.length) (h:ps[i]?=some p):∃ b,mask[i]?=some b/\(List.zipWith cw mask ps)[i]?=some (cw b p):=by
 have hi:i < mask.length:=by have:=(Gp.mp h).1;omega
 simp_all
theorem bf (b:Bool) (p:It3):(cw b p).d=p.d/\(cw b p).v=p.v/\(cw b p).L=p.L/\((cw b p).f=p.f\/(cw b p).f=.z):=by
 cases b
 ·exact ⟨rfl,rfl,rfl,.inl rfl⟩
 ·exact ⟨rfl,rfl,rfl,.inr rfl⟩
theorem NoRoot.low (h:NoRoot a b) (g:a'.v=a.v) (hf:a'.f=a.f\/a'.f=.z) (d:b'.L=b.L):NoRoot a' b':=fun q c e=>by
 rw [d]
 rcases hf with f | f
 ·exact h (by rw [<- f];exact q) c (by rw [<- g];exact e)
 ·exact absurd f q
def prM (mask:List Bool) (i:Nat):Bool:=match mask[i]? with
 | some b=>!b
 | none=>false
theorem vB {f:α->β} {l:List α} {i:Nat} {a:α} (h:l[i]?=some a):(l.map f)[i]?=some (f a):=by rw [Gu,h];rfl
theorem p4 {n:Nat} (hn:mask.length<=n) (h:tf K (fnM mask n m) vs H Q E) :
  ∃ G:Gm,G.pr=prM mask/\tS K G noX m { nx:=fun _ H'=>Q .non H',rt:=Q } (vs.map some ++ List.replicate (n - vs.length) none) H:=by
 obtain ⟨ps,p,fs,rfl,ha,hp,l,q⟩:=h
 unfold fnM at l
 rw [Go] at l
 split at l
 ·rename_i hl
  rw [<- kg] at l
  generalize w:List.zipWith cw mask ps=g at l
  have W:g.length=ps.length:=by rw [<- w,List.length_zipWith];omega
  have S:g.map (·.v)=ps.map (·.v):=by
   refine List.ext_getElem? fun i=>?_
   rw [Gu,Gu]
   cases e:ps[i]? with
   | none=>rw [List.getElem?_eq_none (by have:=List.getElem?_eq_none_iff.mp e;omega)]
   | some u =>
    obtain ⟨b,_,t⟩:=jP (mask:=mask) hl e
    rw [w] at t
    rw [t]
    show some (cw b u).v=some u.v
    rw [(bf b u).2.1]
  have up:∀ (i:Nat) (u:It3),g[i]?=some u->∃ b s,mask[i]?=some b/\ps[i]?=some s/\u=cw b s:=fun i u e=>by rw [<- w] at e;exact oJ e
  have A:∀ u ∈ g,∃ b s,s ∈ ps/\u=cw b s:=fun u hu=>by
   obtain ⟨i,hi,e⟩:=List.mem_iff_getElem.mp hu
   obtain ⟨b,s,_,t,y⟩:=up i u (by rw [Gi hi,e])
   exact ⟨b,s,Gq t,y⟩
  have P:∀ u ∈ g,Arg K H u:=fun u hu=>by
   obtain ⟨b,s,h0,rfl⟩:=A u hu
   obtain ⟨e1,t,y,U⟩:=bf b s
   refine ⟨by rw [e1,t,y];exact (ha s h0).rep,fun hf=>?_⟩
   rw [e1,t,y]
   refine (ha s h0).own fun z=>hf ?_
   rcases U with f | f
   ·rw [f];exact z
   ·exact f
  have J:g.Pairwise Apart3:=by
   rw [List.pairwise_iff_getElem]
   intro i j hi hj lt
   obtain ⟨b,s,_,t,y⟩:=up i _ (Gi hi)
   obtain ⟨F,X,_,Y,ar⟩:=up j _ (Gi hj)
   have ap:=cu hp (fun _ _=>Apart3.symm) (Gx lt) t Y
   rw [y,ar]
   obtain ⟨_,a2,V,R⟩:=bf b s
   obtain ⟨_,b2,b3,b4⟩:=bf F X
   exact ⟨ap.1.low a2 R b3,ap.2.low b2 b4 V⟩
  have O:∀ (i:Nat) (u:It3),g[i]?=some u->u.f ≠ .z->prM mask i=true:=fun i u e hf=>by
   obtain ⟨b,s,e1,t,y⟩:=up i u e
   unfold prM
   rw [e1]
   cases b with
   | false=>rfl
   | true=>rw [y] at hf;exact absurd rfl hf
  have alls:∀ c,cT g c->cT ps c:=fun c ⟨u,hu,N⟩=>by
   obtain ⟨b,s,h0,rfl⟩:=A u hu
   exact ⟨s,h0,by rw [<- (bf b s).2.2.1];exact N⟩
  have lift:∀ {H':Hp} {qs:List It3},BehindX K H H' g qs->BehindX K H H' ps qs:=fun {H' qs} B=>by
   refine ⟨fun b o hb hn=>B.frame b o hb fun u hu hf S=>?_,Paired.ofGet ?_ fun k u v eu ev=>?_,B.apart⟩
   ·obtain ⟨F,s,h0,rfl⟩:=A u hu
    obtain ⟨_,t,_,U⟩:=bf F s
    rcases U with f | f
    ·exact hn s h0 (by rw [<- f];exact hf) (by rw [<- t];exact S)
    ·rw [f] at hf;cases hf
   ·rw [<- W];exact Paired.length B.back
   ·obtain ⟨b,_,t⟩:=jP (mask:=mask) hl eu
    rw [w] at t
    have b1:=Paired.at B.back t ev
    obtain ⟨a1,a2,V,R⟩:=bf b u
    refine ⟨fun hz=>?_,by rw [b1.v,a2],?_,b1.arg,fun c N=>(b1.src c N).imp id (alls c),fun hf F I=>?_⟩
    ·have:cw b u=u:=by
      cases b
      ·rfl
      ·obtain ⟨d,v,L,f⟩:=u
       have hz:f=.z:=hz
       subst hz;rfl
     rw [<- this]
     exact b1.z (by rw [this];exact hz)
    ·rcases b1.f with h | h
     ·rcases R with f | f
      ·exact .inl (h.trans f)
      ·exact .inr (h.trans f)
     ·exact .inr h
    ·rcases R with f | f
     ·exact b1.there (by rw [f];exact hf) F (by rw [a2];exact I)
     ·-- lowered: as it was
      obtain ⟨_,a,L',v1,v2,_⟩:=(ha u (Gq eu)).own (by rw [hf];intro q;cases q)
      rw [I] at v1;cases v1
      have T:=b1.z f
      have r:=b1.arg.rep
      rw [T,a1,a2,V] at r
      exact (r.inH F (by rw [v2];exact Ga)).ex
  have ae:g.length<=n:=by omega
  have wf:=qw (K:=K) (H:=H) (n:=n) (pr:=prM mask) ae P J O
  rw [S] at wf
  refine ⟨gOf H (prM mask) ((ps.map (·.v)).map some ++ List.replicate (n - (ps.map (·.v)).length) none) g,rfl,?_⟩
  have h0:∀ (i:Nat) (u:It3),g[i]?=some u->((ps.map (·.v)).map some ++ List.replicate (n - (ps.map (·.v)).length) none)[i]?=some (some u.v):=fun i u e=>j7 (by rw [<- S];exact vB e)
  unfold fn0 at l
  cases e:m (d6 n (g.map fun p=>(p.d,p.f))) with
  | none=>rw [e] at l;exact nsE l
  | some rr =>
   obtain ⟨r,ρ2⟩:=rr
   rw [e] at l
   refine tS.mk (r:=r) (Le.refl K _ _) wf e ?_
   have fin:∀ {x:It3} {σ':St} {H':Hp} {g':Nat->Option It3} {d:D} {f:Fl},Wf K (gOf H (prM mask) ((ps.map (·.v)).map some ++ List.replicate (n - (ps.map (·.v)).length) none) g) H' σ' ρ2 [x] g'->x.d=d->x.f=f ->
     ((du ρ2 0 (g.map fun p=>(p.d,p.f))).map fun fs=>((.ok (d,f),fs):Except D (D × Fl) × List (D × Fl)))=some (.ok p,fs)->Q x.v H':=fun {x σ' H' g' d f} M xd xf l=>by
    cases C:du ρ2 0 (g.map fun p=>(p.d,p.f)) with
    | none=>rw [C] at l;exact nsE l
    | some fs' =>
     rw [C] at l
     cases l
     obtain ⟨qs,B,T⟩:=m8 (n:=n) P J O h0 M C
     have BX:=lift B.toBehindX
     exact q x qs H' ⟨BX,B.rep,B.own,fun c N=>(B.src c N).imp id (alls c),B.apx⟩ xd xf T
   cases r with
   | error er=>
    dsimp only at l
    cases C:du ρ2 0 (g.map fun p=>(p.d,p.f)) with
    | none=>rw [C] at l;exact nsE l
    | some fs'=>rw [C] at l;cases l
   | ok fl =>
    cases fl with
    | nx =>
     intro σ' H' g' M
     obtain ⟨Ts,g2,w2,a2⟩:=M.const .non
     obtain ⟨x,rfl,x1,Z,x3⟩:=a2.val_inv
     have:=fin w2 x1 Z l
     rw [x3] at this
     exact this
    | br=>exact nsE l
    | ct=>exact nsE l
    | rt d f =>
     intro x σ' H' g' M x1 Z
     exact fin M x1 Z l
 ·exact nsE l
end
abbrev aH (P:Program) (w:World) (K:FG) (mg:Str->Option Value) (base:Heap) (x:Str) (k:Nat) (ps:List Str) (F:Fn):Prop:=Callee P w K mg base x k ps (tf K F)
theorem aU {k:Nat} {nn:Nat} (D:Def K mg x st) (S:FnScope N ps (ad st)) (c:mask.length=ps.length) (b:N.length=nn) (n:∀ (kV doc pm:Value) (an:Option Addr) (a ct:Value) (us:List Value),us.length=ps.length->bindArgs (PySem.W.fnOf x x (aQ st) (aE st) (ad st) .none kV doc pm an a ct) ⟨us,[]⟩=pure (ps.zip us)) (body:∀ (a:Value) (A:Around) (outer:List Env) (s:Shared) (H:Hp) (E:XK) (f:Addr) (G:Gm),Room k (A.deeper (PyProof.Rows.envOfC x (ad st) s.heap.objs.size f a))->G.pr=prM mask->RSs (d8 CX0 P w K mg base N x (ad st) f a A outer s H E).nox G noX (aE st) m) :
  aH P w K mg base x (k+1) ps (fnM mask nn m):=by
 refine D.callee n fun f fd F=>F.ok S (fun g H Q E h=>?_) fun a A outer s H g Q E j h=>?_
 ·obtain ⟨i,p,fs,rfl,_,_,l,_⟩:=h
  unfold fnM at l
  grind
 ·have hle:mask.length<=nn:=by
   rw [c,<- b]
   have:=congrArg List.length S.pre
   rw [GH] at this
   omega
  obtain ⟨G,d,e⟩:=p4 hle h
  subst b
  exact ⟨_,(body a A outer s H E f G j d).h,e⟩
theorem BR {k:Nat} (c:aH X.prog X.w X.K X.mg X.base x k ps F) (g:Room k X.A) (d:RA X G0 W0 (e :: es) ms) (f:Gl X x) (a:(x == ("__debug__":Str))=false) (he:starEach (e :: es) X.env=(false,eval e X.env) :: starEach es X.env) (b:(backTo pos (starEach es X.env)).any (·.1)=false):RE X G0 W0 (.Call (.Name x p) (e :: es) [] pos) (ak F ms) :=
 ⟨PE.imp (pe_fn c g d.h f a he b) fun _ _ _ h=>qE h⟩
end L3
end
section
namespace L3
open PySem L2
def orD (f g:D->D->Option (D × Fl)) (a b:D):Option (D × Fl):=match f a b with
 | some p=>some p
 | none=>g a b
section
variable {K:FG} {H:Hp} {Ks:Addr->Prop} {d:D} {v:V} {L:List Addr} {X:Cx}
theorem dj (r:Rep K H d v []):New K H H Ks ⟨d,v,[],.z⟩:=⟨Same.refl _,r,fun _ h=>(by cases h),fun h=>absurd rfl h⟩
theorem rC (r:Rep K H d v L) (h:∀ c ∈ L,Ks c):New K H H Ks ⟨d,v,L,.z⟩:=⟨Same.refl _,r,fun c a=>.inr (h c a),fun h=>absurd rfl h⟩
theorem tX (a:H p=none) (r:Reps (Rep K H) ds vs L) (h:∀ c ∈ L,Ks c):New K H (upd H p (.lst vs)) Ks ⟨.lst ds,.ref p,p :: L,.u⟩:=by
 have np:p ∉ L:=fun d=>by obtain ⟨o,b⟩:=(r.inH p d).ex;rw [a] at b;exact nsE b
 refine ⟨bv a,.lst aC (r.same (bv a)),fun c d=>?_,fun _=>⟨rfl,p,L,rfl,rfl,np,a⟩⟩
 grind
theorem zM (a:H p=none) (r:Reps (Rep K H) ds vs L) (h:∀ c ∈ L,Ks c):New K H (upd H p (.tup vs)) Ks ⟨.tup ds,.ref p,L,.z⟩ :=
 ⟨bv a,.tup aC (r.same (bv a)),fun c b=>.inr (h c b),fun h=>absurd rfl h⟩
theorem km (b:y ∈ ys) (h:Arg K H y) (hm:jS y.d=false):∀ c ∈ y.L,dw ys c:=fun c a=>⟨y,b,a,fun hf=>by
 have:=(h.own hf).1
 rw [hm] at this;cases this⟩
theorem pR (g:y ∈ ys) (h:Arg K H y) (f:y.v=.ref a) (b:y.L=a :: L):∀ c ∈ L,dw ys c:=fun c d=>⟨y,g,by rw [b];exact Gb _ d,fun hf e=>by
 obtain ⟨_,i,L',v1,v2,v3⟩:=h.own hf
 rw [f] at v1;cases v1
 rw [b] at v2;cases v2
 rw [f] at e;cases e
 exact v3 d⟩
theorem OpD.or (h:OpD K r f) (h':OpD K r' g):OpD K (fun x y H Q=>r x y H Q\/r' x y H Q) (orD f g):=fun a b H Q p ra rb e q=>by
 unfold orD at e
 cases c:f a.d b.d with
 | some p'=>rw [c] at e;cases e;exact .inl (h a b H Q _ ra rb c q)
 | none=>rw [c] at e;exact .inr (h' a b H Q p ra rb e q)
def b6 (C:Int->Int->Bool) (g:Int->Int->D):D->D->Option (D × Fl)
 | .int i,.int j=>if C i j then some (g i j,.z) else none
 | _,_=>none
theorem jU (d:∀ i j,Cb i j=true->C i j) (c:∀ i j H,Rep K H (gd i j) (g i j) []):OpD K (rI C g) (b6 Cb gd):=fun a b H Q p ra rb e q=>by
 obtain ⟨da,r,k,l⟩:=a
 obtain ⟨db,h,n,o⟩:=b
 obtain ⟨ra,m⟩:=ra
 obtain ⟨rb,ob⟩:=rb
 dsimp only at ra rb
 cases da <;> try (exact nsE e)
 rename_i i
 obtain ⟨rfl,rfl⟩:=ra.view
 cases db <;> try (exact nsE e)
 rename_i j
 obtain ⟨rfl,rfl⟩:=rb.view
 have e:(if Cb i j then some (gd i j,Fl.z) else none)=some p:=e
 split at e
 ·rename_i f
  cases e
  exact ⟨i,j,rfl,rfl,d i j f,q ⟨gd i j,g i j,[],.z⟩ H (dj (c i j H)) rfl rfl⟩
 ·exact nsE e
theorem rI_of:rI0 g=rI (fun _ _=>True) g:=by
 funext x y H Q
 unfold rI0 rI
 grind
theorem fh (a:∀ i j H,Rep K H (gd i j) (g i j) []):OpD K (rI0 g) (b6 (fun _ _=>true) gd):=by
 rw [rI_of]
 exact jU (fun _ _ _=>trivial) a
abbrev qv:Int->Int->Bool:=fun _ _=>true
abbrev addI:=b6 qv fun i j=>.int (i+j)
abbrev fv:=b6 qv fun i j=>.int (i - j)
abbrev eR:=b6 (fun i j=>decide ((-(2 ^ 64) < i/\i < 2 ^ 64)\/(-(2 ^ 64) < j/\j < 2 ^ 64))) fun i j=>.int (i * j)
abbrev tY:=b6 (fun _ j=>decide (0 < j)) fun i j=>.int (i % j)
abbrev tO:=b6 (fun i j=>decide (0<=j/\j<=1000000/\i.natAbs < 2 ^ 64)) fun i j=>.int (i ^ j.toNat)
abbrev ltI:=b6 qv fun i j=>.bl (decide (i < j))
abbrev leI:=b6 qv fun i j=>.bl (decide (i<=j))
abbrev gtI:=b6 qv fun i j=>.bl (decide (j < i))
abbrev geI:=b6 qv fun i j=>.bl (decide (j<=i))
theorem od_addI:OpD K (rI0 fun i j=>.int (i+j)) addI:=fh fun i j _=>.int _
theorem Cf:OpD K (rI0 fun i j=>.int (i - j)) fv:=fh fun i j _=>.int _
theorem Ci:OpD K (rI CMul fun i j=>.int (i * j)) eR:=jU (fun i j h=>by simpa [CMul,xT,AZ] using h) fun i j _=>.int _
theorem Cj:OpD K (rI (fun _ j=>0 < j) fun i j=>.int (i % j)) tY:=jU (fun i j h=>by simpa [CMul,xT,AZ] using h) fun i j _=>.int _
theorem Cg:OpD K (rI AZ fun i j=>.int (i ^ j.toNat)) tO:=jU (fun i j h=>by simpa [CMul,xT,AZ] using h) fun i j _=>.int _
theorem zG:OpD K (rI0 fun i j=>.bl (decide (i < j))) ltI:=fh fun i j _=>.bl _
theorem zH:OpD K (rI0 fun i j=>.bl (decide (i<=j))) leI:=fh fun i j _=>.bl _
theorem Dk:OpD K (rI0 fun i j=>.bl (decide (j < i))) gtI:=fh fun i j _=>.bl _
theorem od_ge:OpD K (rI0 fun i j=>.bl (decide (j<=i))) geI:=fh fun i j _=>.bl _
def sC:D->D->Option (D × Fl)
 | .tup xs,.tup ys=>if xs.length+ys.length<=16777216 then some (.tup (xs ++ ys),.z) else none
 | _,_=>none
def sE:D->D->Option (D × Fl)
 | .lst xs,.lst ys=>if xs.length+ys.length<=16777216 then some (.lst (xs ++ ys),.u) else none
 | _,_=>none
def sD:D->D->Option (D × Fl)
 | .str xs,.str ys=>if xs.length+ys.length<=16777216 then some (.str (xs ++ ys),.z) else none
 | _,_=>none
theorem Reps.len (r:Reps (Rep K H) ds vs L):ds.length=vs.length:=by
 induction r with
 | nil=>rfl
 | cons _ _ ih=>simp [ih]
theorem Reps.append (r:Reps (Rep K H) ds vs L) (b:Reps (Rep K H) ds' vs' L'):Reps (Rep K H) (ds ++ ds') (vs ++ vs') (L ++ L'):=by
 induction r with
 | nil=>exact b
 | cons a _ ih=>rw [List.append_assoc];exact .cons a ih
theorem Reps.nil_iff (r:Reps (Rep K H) ds vs L):ds=[] ↔ vs=[]:=by cases r <;> simp
def pE (K:FG):R2:=fun x y H Q=>∃ a b ys,x=.ref a/\y=.ref b/\SqT K H a []/\SqT K H b ys/\Q (.ref b) H
theorem zF:OpR X (binaryOp .Add) (pE X.K):=by
 intro pins s σ H x y v u Q I o m h
 obtain ⟨a,b,ys,rfl,rfl,r,z,q⟩:=h
 cases o
 cases m
 obtain ⟨its,p,w,_⟩:=I.tuple r
 obtain ⟨i,A,p2,_⟩:=I.tuple z
 have e:its=[]:=p.nil_iff.mpr rfl
 subst e
 obtain ⟨⟨cls,dd,data,sl⟩,j,k,n,hd⟩:=id w
 obtain ⟨⟨l,g,data2,f⟩,d,c,t,hd2⟩:=id p2
 simp only at k hd c hd2
 subst k hd c hd2
 exact concat_meets ⟨_,j,rfl⟩ ⟨_,d,rfl⟩ noFill_tuple_add seq_tuple_add PySem.F.slot_tuple_add PySem.F.entry_tuple_add (PySem.F.args_tuple_add_2 _ _)
   (PyProof.Rows.tuple_addW0 a b _ _ n t dd g sl f (by simp)) ⟨j,d,⟨.ref b,H,I,rfl,q⟩⟩
theorem od_catT:OpD K (fun x y H Q=>vj K x y H Q\/pE K x y H Q) sC:=fun a b H Q p ra rb e q=>by
 obtain ⟨da,C,k,t⟩:=a
 obtain ⟨db,B,l,u⟩:=b
 obtain ⟨ra,r⟩:=ra
 obtain ⟨rb,ob⟩:=rb
 dsimp only at ra rb
 cases da <;> try (exact nsE e)
 rename_i xs
 obtain ⟨f,s,rfl,g,rs⟩:=ra.view
 cases db <;> try (exact nsE e)
 rename_i ys
 obtain ⟨i,ws,rfl,j,d⟩:=rb.view
 have e:(if xs.length+ys.length<=16777216 then some (D.tup (xs ++ ys),Fl.z) else none)=some p:=e
 split at e
 ·rename_i w
  cases e
  by_cases m:s=[]
  ·have n:=rs.nil_iff.mpr m
   subst m n
   refine .inr ⟨f,i,ws,rfl,rfl,SqT.of g,SqT.of j,?_⟩
   exact q ⟨.tup ys,.ref i,l,.z⟩ H (rC (.tup j d) (km (y:=⟨.tup ys,.ref i,l,u⟩) (Gb _ (GK.mpr rfl)) ⟨.tup j d,ob⟩ rfl)) rfl rfl
  ·refine .inl ⟨f,i,s,ws,rfl,rfl,SqT.of g,SqT.of j,m,by rw [<- rs.len,<- d.len,<- szl];exact w,fun hw=>?_,fun hw p A=>?_⟩
   ·have o:=d.nil_iff.mpr hw
    subst o
    refine q ⟨.tup (xs ++ []),.ref f,k,.z⟩ H (rC (by rw [List.append_nil];exact .tup g rs) (km (y:=⟨.tup xs,.ref f,k,t⟩) Ga ⟨.tup g rs,r⟩ rfl)) rfl rfl
   ·refine q ⟨.tup (xs ++ ys),.ref p,k ++ l,.z⟩ _ (zM A (rs.append d) fun c v=>?_) rfl rfl
    rcases Gk.mp v with h | h
    ·exact km (y:=⟨.tup xs,.ref f,k,t⟩) Ga ⟨.tup g rs,r⟩ rfl c h
    ·exact km (y:=⟨.tup ys,.ref i,l,u⟩) (Gb _ (GK.mpr rfl)) ⟨.tup j d,ob⟩ rfl c h
 ·exact nsE e
theorem Cm:OpD K BS sE:=fun a b H Q p ra rb e q=>by
 obtain ⟨da,x,g,n⟩:=a
 obtain ⟨db,w,j,r⟩:=b
 obtain ⟨ra,o⟩:=ra
 obtain ⟨rb,ob⟩:=rb
 dsimp only at ra rb
 cases da <;> try (exact nsE e)
 rename_i xs
 obtain ⟨f,t,g,rfl,rfl,k,rs⟩:=ra.view
 cases db <;> try (exact nsE e)
 rename_i ys
 obtain ⟨i,ws,j,rfl,rfl,l,d⟩:=rb.view
 have e:(if xs.length+ys.length<=16777216 then some (D.lst (xs ++ ys),Fl.u) else none)=some p:=e
 split at e
 ·rename_i m
  cases e
  refine ⟨f,i,t,ws,rfl,rfl,k,l,by rw [<- rs.len,<- d.len,<- szl];exact m,fun p s=>?_⟩
  refine q ⟨.lst (xs ++ ys),.ref p,p :: (g ++ j),.u⟩ _ (tX s (rs.append d) fun c v=>?_) rfl rfl
  rcases Gk.mp v with h | h
  ·exact pR (y:=⟨.lst xs,.ref f,f :: g,n⟩) Ga ⟨.lst k rs,o⟩ rfl rfl c h
  ·exact pR (y:=⟨.lst ys,.ref i,i :: j,r⟩) (Gb _ (GK.mpr rfl)) ⟨.lst l d,ob⟩ rfl rfl c h
 ·exact nsE e
theorem od_catS:OpD K (fun x y H Q=>∃ i j,x=.str i/\y=.str j/\i.length+j.length<=sizeLine/\Q (.str (i ++ j)) H) sD:=fun a b H Q p ra rb e q=>by
 obtain ⟨da,m,f,g⟩:=a
 obtain ⟨db,d,k,l⟩:=b
 obtain ⟨ra,h⟩:=ra
 obtain ⟨rb,ob⟩:=rb
 dsimp only at ra rb
 cases da <;> try (exact nsE e)
 rename_i i
 obtain ⟨rfl,rfl⟩:=ra.view
 cases db <;> try (exact nsE e)
 rename_i j
 obtain ⟨rfl,rfl⟩:=rb.view
 have e:(if i.length+j.length<=16777216 then some (D.str (i ++ j),Fl.z) else none)=some p:=e
 split at e
 ·rename_i c
  cases e
  exact ⟨i,j,rfl,rfl,by rw [<- szl];exact c,q ⟨.str (i ++ j),.str (i ++ j),[],.z⟩ H (dj (.str _)) rfl rfl⟩
 ·exact nsE e
abbrev bH:=orD addI (orD sD (orD sC sE))
theorem Fb:OpD K (fun x y H Q=>rI0 (fun i j=>.int (i+j)) x y H Q\/((∃ i j,x=.str i/\y=.str j/\i.length+j.length<=sizeLine/\Q (.str (i ++ j)) H)\/((vj K x y H Q\/pE K x y H Q)\/BS x y H Q))) bH:=od_addI.or (od_catS.or (od_catT.or Cm))
theorem Ca:OpR X (binaryOp .Add) (fun x y H Q=>rI0 (fun i j=>.int (i+j)) x y H Q\/((∃ i j,x=.str i/\y=.str j/\i.length+j.length<=sizeLine/\Q (.str (i ++ j)) H)\/((vj X.K x y H Q\/pE X.K x y H Q)\/BS x y H Q))):=op_add.or (op_add_str.or ((op_catT.or zF).or E7))
def eqS:D->D->Option Bool
 | .non,.non=>some true | .non,.int _=>some false | .int _,.non=>some false | .non,.bl _=>some false | .bl _,.non=>some false | .non,.str _=>some false | .str _,.non=>some false
 | .int i,.int j=>some (decide (i=j)) | .bl i,.bl j=>some (decide (i=j)) | .str i,.str j=>some (decide (i=j))
 | .int _,.str _=>some false | .str _,.int _=>some false | .bl _,.str _=>some false | .str _,.bl _=>some false
 | _,_=>none
theorem As (ra:Rep K H a u L) (rb:Rep K H b v L') (e:eqS a b=some k):Ec u v=true/\k=decide (u=v):=by
 cases a <;> cases b <;> first | exact nsE e | (obtain ⟨rfl,rfl⟩:=ra.view;obtain ⟨rfl,rfl⟩:=rb.view;cases e;exact ⟨rfl,by simp⟩)
def kZ:D->Bool
 | .non=>true
 | _=>false
def isN:D->D->Option (D × Fl)
 | a,.non=>some (.bl (kZ a),.z)
 | _,_=>none
def Cn:D->D->Option (D × Fl)
 | a,.non=>some (.bl (!kZ a),.z)
 | _,_=>none
theorem Rep.non_iff (ra:Rep K H a u L):kZ a=decide (u=.non):=by cases ra <;> simp [kZ]
theorem Fa:OpD K (fun x y H Q=>y=.non/\Q (.bl (decide (x=.non))) H) isN:=fun a b H Q p ra rb e q=>by
 obtain ⟨db,c,d,f⟩:=b
 obtain ⟨rb,ob⟩:=rb
 dsimp only at rb
 cases db <;> try (exact nsE e)
 obtain ⟨rfl,rfl⟩:=rb.view
 unfold isN at e
 cases e
 refine ⟨rfl,?_⟩
 rw [<- ra.rep.non_iff]
 exact q ⟨_,_,[],.z⟩ H (dj (.bl _)) rfl rfl
def jo:D->Option (D × Fl)
 | .int i=>some (.int (-i),.z)
 | _=>none
theorem DD:UnD K (rU fun i=>.int (-i)) jo:=fun a H Q p ra e q=>by
 obtain ⟨da,d,c,f⟩:=a
 obtain ⟨ra,b⟩:=ra
 dsimp only at ra
 cases da <;> try (exact nsE e)
 obtain ⟨rfl,rfl⟩:=ra.view
 cases e
 exact ⟨_,rfl,q ⟨_,_,[],.z⟩ H (dj (.int _)) rfl rfl⟩
theorem Reps.at:∀ {ds:List D} {b:List V} {L:List Addr} {i:Nat} {d:D},Reps (Rep K H) ds b L->ds[i]?=some d->∃ v L',b[i]?=some v/\Rep K H d v L'/\∀ c ∈ L',c ∈ L
 | _,_,_,_,_,.nil,h=>by simp at h
 | _,_,_,0,_,.cons r _,h=>by simp at h;subst h;exact ⟨_,_,rfl,r,fun c a=>Gf _ a⟩
 | _,_,_,i+1,_,.cons _ t,h=>by
  obtain ⟨v,L',h1,h2,h3⟩:=Reps.at (i:=i) t (by simpa using h)
  exact ⟨v,L',by simpa using h1,h2,fun c a=>Gg _ (h3 c a)⟩
theorem Reps.atI {i:Int} (r:Reps (Rep K H) ds vs L) (h:atI ds i=some d):∃ v L',atI vs i=some v/\Rep K H d v L'/\∀ c ∈ L',c ∈ L:=by
 unfold L2.atI at h ⊢
 rw [<- r.len]
 cases e:ixN ds.length i with
 | none=>rw [e] at h;exact nsE h
 | some j=>rw [e] at h;exact r.at h
def ixD:D->D->Option (D × Fl)
 | .lst xs,.int i=>(atI xs i).map fun d=>(d,.z)
 | .fls xs,.int i=>(atI xs i).map fun d=>(d,.z)
 | .tup xs,.int i=>(atI xs i).map fun d=>(d,.z)
 | _,_=>none
theorem od_ix:OpD K (fun x y H Q=>zj K x y H Q\/zh K x y H Q) ixD:=fun a b H Q p ra rb e q=>by
 obtain ⟨da,r,l,m⟩:=a
 obtain ⟨db,n,s,t⟩:=b
 obtain ⟨rb,ob⟩:=rb
 have g:=ra
 obtain ⟨ra,o⟩:=ra
 dsimp only at ra rb
 cases da <;> try (exact nsE e)
 all_goals (cases db <;> try (exact nsE e))
 all_goals (rename_i xs i;obtain ⟨rfl,rfl⟩:=rb.view)
 ·obtain ⟨f,h,rfl,j,rs⟩:=ra.view
  obtain ⟨d,h1,h2⟩:=Ge.mp (show (atI xs i).map (fun d=>(d,Fl.z))=some p from e)
  subst h2
  obtain ⟨v,L',g1,g2,g3⟩:=rs.atI h1
  refine .inr ⟨f,h,i,v,rfl,rfl,SqT.of j,g1,q ⟨d,v,L',.z⟩ H (rC g2 fun c k=>?_) rfl rfl⟩
  exact km (y:=⟨.tup xs,.ref f,l,m⟩) Ga g rfl c (g3 c k)
 ·obtain ⟨f,h,l,rfl,rfl,j,rs⟩:=ra.view
  obtain ⟨d,h1,h2⟩:=Ge.mp (show (atI xs i).map (fun d=>(d,Fl.z))=some p from e)
  subst h2
  obtain ⟨v,L',g1,g2,g3⟩:=rs.atI h1
  refine .inl ⟨f,h,i,v,rfl,rfl,SqL.of j,g1,q ⟨d,v,L',.z⟩ H (rC g2 fun c k=>?_) rfl rfl⟩
  exact pR (y:=⟨.lst xs,.ref f,f :: l,m⟩) Ga g rfl rfl c (g3 c k)
 ·obtain ⟨f,h,rfl,j,rs⟩:=ra.view
  obtain ⟨d,h1,h2⟩:=Ge.mp (show (atI xs i).map (fun d=>(d,Fl.z))=some p from e)
  subst h2
  obtain ⟨v,L',g1,g2,g3⟩:=rs.atI h1
  refine .inl ⟨f,h,i,v,rfl,rfl,j.sq,g1,q ⟨d,v,L',.z⟩ H (rC g2 fun c k=>?_) rfl rfl⟩
  exact km (y:=⟨.fls xs,.ref f,l,m⟩) Ga g rfl c (g3 c k)
theorem ix_ok:IxR X (fun x y H Q=>zj X.K x y H Q\/zh X.K x y H Q):=ix_list.or Fz
end
end L3
end
section
namespace L3
open PySem L2
def orC (f g:List D->Option (D × Fl)) (a:List D):Option (D × Fl):=match f a with
 | some p=>some p
 | none=>g a
section
variable {K:FG} {H:Hp} {Ks:Addr->Prop} {d:D} {v:V} {L:List Addr} {X:Cx}
def c1 (f:D->Option (D × Fl)):List D->Option (D × Fl)
 | [d]=>f d
 | _=>none
def c2 (f:D->D->Option (D × Fl)):List D->Option (D × Fl)
 | [d,d']=>f d d'
 | _=>none
theorem iK {ys:List It3} (e:c1 f (ys.map (·.d))=some p):∃ y,ys=[y]/\f y.d=some p:=by
 match ys,e with
 | [],e=>exact nsE e
 | [y],e=>exact ⟨y,rfl,e⟩
 | _ :: _ :: _,e=>exact nsE e
theorem mZ {ys:List It3} (e:c2 f (ys.map (·.d))=some p):∃ y z,ys=[y,z]/\f y.d z.d=some p:=by
 match ys,e with
 | [],e=>exact nsE e
 | [_],e=>exact nsE e
 | [y,z],e=>exact ⟨y,z,rfl,e⟩
 | _ :: _ :: _ :: _,e=>exact nsE e
def mD:D->Option (D × Fl)
 | .lst xs=>some (.int xs.length,.z)
 | .fls xs=>some (.int xs.length,.z)
 | .tup xs=>some (.int xs.length,.z)
 | _=>none
abbrev cq:=c1 mD
theorem FQ:cS K (fun xs H Q=>∃ p ys,xs=[.ref p]/\(SqL K H p ys\/SqT K H p ys)/\Q (.int ys.length) H) cq:=fun ys H Q p ra e q=>by
 obtain ⟨y,rfl,f⟩:=iK e
 clear e
 have e:=f
 clear f
 have d:=(ra y Ga).rep
 obtain ⟨da,i,g,h⟩:=y
 dsimp only at d e
 cases da <;> try (exact nsE e)
 ·rename_i xs
  obtain ⟨a,c,rfl,b,rs⟩:=d.view
  cases e
  exact ⟨a,c,rfl,.inr (SqT.of b),by rw [<- rs.len];exact q ⟨_,_,[],.z⟩ H (dj (.int _)) rfl rfl⟩
 ·rename_i xs
  obtain ⟨a,c,g,rfl,rfl,b,rs⟩:=d.view
  cases e
  exact ⟨a,c,rfl,.inl (SqL.of b),by rw [<- rs.len];exact q ⟨_,_,[],.z⟩ H (dj (.int _)) rfl rfl⟩
 ·rename_i xs
  obtain ⟨a,c,rfl,b,rs⟩:=d.view
  cases e
  exact ⟨a,c,rfl,.inl b.sq,by rw [<- rs.len];exact q ⟨_,_,[],.z⟩ H (dj (.int _)) rfl rfl⟩
def xY:D->Option (D × Fl)
 | .lst xs=>some (.tup xs,.z)
 | .tup xs=>some (.tup xs,.z)
 | _=>none
abbrev qC:=c1 xY
theorem FO:cS K (fun xs H Q=>∃ p ys,xs=[.ref p]/\((SqL K H p ys/\∀ l,H l=none->Q (.ref l) (upd H l (.tup ys)))\/(SqT K H p ys/\Q (.ref p) H))) qC:=fun ys H Q p ra e q=>by
 obtain ⟨y,rfl,h⟩:=iK e
 clear e
 have e:=h
 clear h
 have d:=ra y Ga
 have f:=d.rep
 obtain ⟨da,k,b,i⟩:=y
 dsimp only at f e
 cases da <;> try (exact nsE e)
 ·rename_i xs
  obtain ⟨a,g,rfl,c,rs⟩:=f.view
  cases e
  exact ⟨a,g,rfl,.inr ⟨SqT.of c,q ⟨.tup xs,.ref a,b,.z⟩ H (rC (.tup c rs) (km (y:=⟨.tup xs,.ref a,b,i⟩) Ga d rfl)) rfl rfl⟩⟩
 ·rename_i xs
  obtain ⟨a,g,b,rfl,rfl,c,rs⟩:=f.view
  cases e
  exact ⟨a,g,rfl,.inl ⟨SqL.of c,fun l j=>q ⟨.tup xs,.ref l,b,.z⟩ _ (zM j rs (pR (y:=⟨.lst xs,.ref a,a :: b,i⟩) Ga d rfl rfl)) rfl rfl⟩⟩
def z4:D->Option (D × Fl)
 | .lst xs=>some (.lst xs,.u)
 | .tup xs=>some (.lst xs,.u)
 | _=>none
abbrev Cu:=c1 z4
theorem FP:cS K (fun xs H Q=>∃ p ys,xs=[.ref p]/\(SqL K H p ys\/SqT K H p ys)/\∀ l,H l=none->Q (.ref l) (upd H l (.lst ys))) Cu:=fun ys H Q p ra e q=>by
 obtain ⟨y,rfl,i⟩:=iK e
 clear e
 have e:=i
 clear i
 have d:=ra y Ga
 have g:=d.rep
 obtain ⟨da,k,b,j⟩:=y
 dsimp only at g e
 cases da <;> try (exact nsE e)
 ·rename_i xs
  obtain ⟨a,h,rfl,c,rs⟩:=g.view
  cases e
  exact ⟨a,h,rfl,.inr (SqT.of c),fun l f=>q ⟨.lst xs,.ref l,l :: b,.u⟩ _ (tX f rs (km (y:=⟨.tup xs,.ref a,b,j⟩) Ga d rfl)) rfl rfl⟩
 ·rename_i xs
  obtain ⟨a,h,b,rfl,rfl,c,rs⟩:=g.view
  cases e
  exact ⟨a,h,rfl,.inl (SqL.of c),fun l f=>q ⟨.lst xs,.ref l,l :: b,.u⟩ _ (tX f rs (pR (y:=⟨.lst xs,.ref a,a :: b,j⟩) Ga d rfl rfl)) rfl rfl⟩
def AR:D->Option (D × Fl)
 | .int i=>some (.int (if i < 0 then -i else i),.z)
 | _=>none
abbrev absD:=c1 AR
theorem Rep.int_inv {i:Int} (r:Rep K H (.int i) v L):v=.int i:=by cases r;rfl
theorem FS:cS K (fun xs H Q=>∃ i,xs=[.int i]/\Q (.int (if i < 0 then -i else i)) H) absD:=fun ys H Q p ra e q=>by
 obtain ⟨y,rfl,b⟩:=iK e
 clear e
 have e:=b
 clear b
 have a:=(ra y Ga).rep
 obtain ⟨da,d,c,f⟩:=y
 dsimp only at a e
 cases a <;> try (exact nsE e)
 cases e
 exact ⟨_,rfl,q ⟨_,_,[],.z⟩ H (dj (.int _)) rfl rfl⟩
def jT (C:Int->Int->Bool) (g:Int->Int->D):D->D->Option (D × Fl)
 | .int i,.int j=>if C i j then some (g i j,.z) else none
 | _,_=>none
theorem kr (e:jT C g a b=some p):∃ i j,a=.int i/\b=.int j/\C i j=true/\p=(g i j,.z):=by
 cases a <;> cases b <;> try (exact nsE e)
 rename_i i j
 have e:(if C i j then some (g i j,Fl.z) else none)=some p:=e
 split at e
 ·rename_i h;cases e;exact ⟨i,j,rfl,rfl,h,rfl⟩
 ·exact nsE e
abbrev Dn:=c2 (jT qv fun i j=>.int (if j > i then j else i))
abbrev Dm:=c2 (jT qv fun i j=>.int (if j < i then j else i))
abbrev Av:=c2 (jT (fun _ j=>decide (0 < j/\j < 1073741824)) fun i j=>.tup [.int (i / j),.int (i % j)])
theorem CZ:cS K (fun xs H Q=>∃ i j,xs=[.int i,.int j]/\Q (.int (if j > i then j else i)) H) Dn:=fun ys H Q p ra e q=>by
 obtain ⟨y,z,rfl,a⟩:=mZ e
 clear e
 have e:=a
 clear a
 obtain ⟨i,j,d,f,_,rfl⟩:=kr e
 have c:=(ra y Ga).rep
 have b:=(ra z (Gb _ Ga)).rep
 rw [d] at c
 rw [f] at b
 refine ⟨i,j,?_,q ⟨_,_,[],.z⟩ H (dj (.int _)) rfl rfl⟩
 show [y.v,z.v]=_
 rw [c.int_inv,b.int_inv]
theorem CY:cS K (fun xs H Q=>∃ i j,xs=[.int i,.int j]/\Q (.int (if j < i then j else i)) H) Dm:=fun ys H Q p ra e q=>by
 obtain ⟨y,z,rfl,a⟩:=mZ e
 clear e
 have e:=a
 clear a
 obtain ⟨i,j,d,f,_,rfl⟩:=kr e
 have c:=(ra y Ga).rep
 have b:=(ra z (Gb _ Ga)).rep
 rw [d] at c
 rw [f] at b
 refine ⟨i,j,?_,q ⟨_,_,[],.z⟩ H (dj (.int _)) rfl rfl⟩
 show [y.v,z.v]=_
 rw [c.int_inv,b.int_inv]
theorem xF:cS K (fun xs H Q=>∃ i j,xs=[.int i,.int j]/\xT i j/\∀ p,H p=none->Q (.ref p) (upd H p (.tup [.int (i / j),.int (i % j)]))) Av:=fun ys H Q p ra e q=>by
 obtain ⟨y,z,rfl,b⟩:=mZ e
 clear e
 have e:=b
 clear b
 obtain ⟨i,j,g,h,a,rfl⟩:=kr e
 have f:=(ra y Ga).rep
 have d:=(ra z (Gb _ Ga)).rep
 rw [g] at f
 rw [h] at d
 refine ⟨i,j,?_,by simpa [xT] using a,fun p k=>q ⟨_,.ref p,[],.z⟩ _ (zM k (L:=[]) (.cons (L:=[]) (.int _) (.cons (L:=[]) (.int _) .nil)) fun c a=>by cases a) rfl rfl⟩
 show [y.v,z.v]=_
 rw [f.int_inv,d.int_inv]
def eO:List D->Option (List Bool)
 | []=>some []
 | .bl b :: ds=>(eO ds).map (b :: ·)
 | _=>none
theorem jY:∀ {ds:List D} {bs:List Bool},eO ds=some bs->ds=bs.map D.bl
 | [],bs,e=>by cases e;rfl
 | d :: ds,bs,e=>by
  cases d <;> try (exact nsE e)
  rename_i b
  obtain ⟨r,h1,h2⟩:=Ge.mp (show (eO ds).map (b :: ·)=some bs from e)
  subst h2
  rw [jY h1];rfl
theorem Reps.bls:∀ {bs:List Bool} {a:List V} {L:List Addr},Reps (Rep K H) (bs.map D.bl) a L->a=bs.map V.bl
 | [],_,_,.nil=>rfl
 | b :: bs,_,_,.cons r rs=>by
  rw [Reps.bls rs]
  cases r;rfl
def FY:D->Option (D × Fl)
 | .lst xs=>(eO xs).map fun bs=>(.bl (bs.all id),.z)
 | _=>none
abbrev qr:=c1 FY
theorem FR:cS K (fun xs H Q=>∃ (a:Addr) (bs:List Bool),xs=[.ref a]/\SqL K H a (bs.map V.bl)/\Q (.bl (bs.all id)) H) qr:=fun ys H Q p ra e q=>by
 obtain ⟨y,rfl,b⟩:=iK e
 clear e
 have e:=b
 clear b
 have c:=(ra y Ga).rep
 obtain ⟨da,i,g,h⟩:=y
 dsimp only at c e
 cases da <;> try (exact nsE e)
 rename_i xs
 obtain ⟨d,j,g,rfl,rfl,f,rs⟩:=c.view
 obtain ⟨bs,h1,h2⟩:=Ge.mp (show (eO xs).map (fun bs=>(D.bl (bs.all id),Fl.z))=some p from e)
 subst h2
 have:=jY h1
 subst this
 have:=rs.bls
 subst this
 exact ⟨d,bs,rfl,SqL.of f,q ⟨_,_,[],.z⟩ H (dj (.bl _)) rfl rfl⟩
def fj (xs:List D) (lo hi:Option Int):List D:=(xs.drop (HT.sIx xs.length 0 lo)).take (HT.sIx xs.length xs.length hi - HT.sIx xs.length 0 lo)
end
end L3
end
section
namespace L3
open PySem L2
def uV:D->Option (List D)
 | .lst xs=>some xs
 | .fls xs=>some xs
 | .tup xs=>some xs
 | _=>none
def bO (m:EM):IM:=af m fun r=>af (der r) fun d=>ba ((uV d).map fun ds=>([r],ds))
def iSeq (K:FG) (tl:TE):TI:=fun σ H R=>tl σ H fun x H1=>(∃ a,x=.ref a/\(∃ xs,SqL K H1 a xs)/\R (Itl K a) H1)\/∃ a,x=.ref a/\(∃ xs,SqT K H1 a xs)/\R (Itt K a) H1
theorem EL (i:PE X l tl):PI X tg l (iSeq X.K tl):=by
 intro pins s σ H R I h
 exact thn (i pins s σ H _ I h) fun v s1 ⟨x,H1,c,g,j⟩=>by
   rcases j with ⟨a,e,⟨xs,d⟩,q⟩ | ⟨a,e,⟨xs,d⟩,q⟩
   ·subst e
    cases g
    obtain ⟨its,k,p,hz⟩:=c.list d
    refine wpAny_pyIter_list p.isList ?_
    refine ⟨s1.heap.objs.size,[s1.heap.objs.size],_,_,H1,rfl,c.kept (t':=s1.toks) fun b o e=>Gd _ e,wm a _,⟨_,Gn _ rfl,rfl,rfl⟩,fun b f=>?_,q⟩
    have e:b=s1.heap.objs.size:=by simpa using f
    subst e
    exact c.fpOk (Gv _) (c.hok.fresh (Gv _))
   ·subst e
    cases g
    obtain ⟨its,k,p,hz⟩:=c.tuple d
    refine wpAny_pyIter_tuple (show s1.heap.IsTuple a its.toArray from p) ?_
    refine ⟨s1.heap.objs.size,[s1.heap.objs.size],_,_,H1,rfl,c.kept (t':=s1.toks) fun b o e=>Gd _ e,sT a _,⟨_,Gn _ rfl,rfl,rfl⟩,fun b f=>?_,q⟩
    have e:b=s1.heap.objs.size:=by simpa using f
    subst e
    exact c.fpOk (Gv _) (c.hok.fresh (Gv _))
section
variable {K:FG} {G G0:Gm} {W W0:D->Sto->Prop} {H H':Hp} {σ:St} {ρ ρ':Sto} {T T':List It3} {g:Nat->Option It3} {x y z:It3} {α β:Type} {X:Cx}
theorem Ar.item2 (w:Wf K G H σ ρ (Ts ++ T) g) (a:Ar σ r v Ts) (e:der r ρ=some (.ok d,ρ)):∃ y,y.d=d/\y.v=v/\((∃ i,i ∈ pls [r]/\g i=some y)\/y ∈ Ts):=by
 cases a with
 | @pl i v h =>
  have k:der (.pl i) ρ=((ρ[i]?).join).map fun p=>(.ok p.1,ρ):=rfl
  rw [k] at e
  cases q:(ρ[i]?).join with
  | none=>rw [q] at e;exact nsE e
  | some p =>
   rw [q] at e
   obtain ⟨y,e1,j,l,b⟩:=w.slot (d:=p.1) (f:=p.2) q
   have c:p.1=d:=by cases e;rfl
   rw [h] at b
   injection b with b
   injection b with b
   exact ⟨y,j.trans c,b.symm,.inl ⟨i,Ga,e1⟩⟩
 | val x=>cases e;exact ⟨x,rfl,rfl,.inr (by simp)⟩
theorem pc (m:Reps (Rep K H1) ds vs l) (w:∀ c ∈ l,dw [y] c) (p:∀ c ∈ l,c ∈ y.L) (g:∀ (M:Addr->Prop) (H':Hp),(∀ b,M b->MutAt H1 b)->(∀ b o,H1 b=some o->¬ M b->H' b=some o)->(∀ b ∈ y.L,¬ M b)->(∀ (i:Nat) (v:V),vs[i]?=some v->J.go i H'/\∀ x a,J.yld i H' x a->a=H'/\x=v)/\J.stop vs.length H'):Walk K J H1 [y] ds:=by
 obtain ⟨ws,h1,h2,h3⟩:=Reps.split m
 refine ⟨ws,fun x f=>⟨(h3 x f).1,(h3 x f).2.1,fun c h=>w c ((h3 x f).2.2 c h)⟩,fun M H' hm e k=>?_⟩
 obtain ⟨go,stop⟩:=g M H' hm e (k y Ga)
 refine ⟨fun i d hd=>?_,by rw [m.len];exact stop⟩
 have hi:∃ u,ws[i]?=some u/\u.d=d:=by
  grind
 obtain ⟨u,j,n⟩:=hi
 have q:vs[i]?=some u.v:=by rw [<- h2,Gu,j];rfl
 obtain ⟨g1,g2⟩:=go i u.v q
 refine ⟨g1,fun x a r=>?_⟩
 obtain ⟨e1,s⟩:=g2 x a r
 subst e1 s
 have hu:=Gq j
 refine ⟨u,⟨Same.refl _,(h3 u hu).2.1.keep e hm fun b t=>k y Ga b (p b ((h3 u hu).2.2 b t)),fun c h=>.inr ⟨u,hu,h⟩,fun hf=>absurd (h3 u hu).1 hf⟩,n,(h3 u hu).1,rfl⟩
theorem nM {y:It3} {a:Addr} {ds:List D} {c:List V} (k:∀ H',SqL K H' a c->True) (h:∀ (M:Addr->Prop) (H':Hp),(∀ b,M b->MutAt H b)->(∀ b o,H b=some o->¬ M b->H' b=some o)->(∀ b ∈ y.L,¬ M b)->SqL K H' a c) :
  ∀ (M:Addr->Prop) (H':Hp),(∀ b,M b->MutAt H b)->(∀ b o,H b=some o->¬ M b->H' b=some o)->(∀ b ∈ y.L,¬ M b)->(∀ (i:Nat) (v:V),c[i]?=some v->(Itl K a).go i H'/\∀ x d,(Itl K a).yld i H' x d->d=H'/\x=v)/\(Itl K a).stop c.length H':=fun M H' hm j g=>by
 have sq:SqL K H' a c:=h M H' hm j g
 refine ⟨fun i v e=>⟨⟨c,v,sq,e⟩,fun x d ⟨e1,f⟩=>⟨e1,?_⟩⟩,⟨c,sq,Gv _⟩⟩
 have:=f c sq
 rw [e] at this
 injection this with this
 exact this.symm
theorem DO (h:tI K G0 W0 (bO m) σ H R):iSeq K (tE K G0 W0 m) σ H R:=by
 obtain ⟨G,W,le,ρ,T,g,o,ρ',w,e,q⟩:=h
 have k:∀ x,o=.error x->W x ρ':=fun x P=>by subst P;exact q
 refine tE.seq le w e k fun ra ρ1 e1 v H1 ⟨Ts,g1,D,a1⟩=>?_
 obtain ⟨d,X,t⟩:=aW e1
 obtain ⟨p,I,rfl,rfl⟩:=bN t
 obtain ⟨ds,l,N⟩:=Ge.mp I
 subst N
 obtain ⟨y,S,V,E⟩:=a1.item2 D X
 have Q:Itm (Ts ++ T) g1 y:=by
  rcases E with ⟨i,_,U⟩ | h
  ·exact .inl ⟨i,U⟩
  ·exact .inr (Gf _ h)
 have L:=(D.itm Q).arg
 have A:∀ J,Walk K J H1 [y] ds->R J H1:=fun J hw=>q J H1 [v] Ts g1 [y] D (by simpa using Ars.cons a1 .nil) (fun z hz=>by rw [GK.mp hz];exact E) hw
 clear e1 t I q
 subst S V
 have f:=L
 obtain ⟨da,Z,u,C⟩:=y
 obtain ⟨s,Y⟩:=L
 dsimp only at s l
 cases da with
 | tup xs =>
  obtain ⟨a,j,rfl,b,rs⟩:=s.view
  cases l
  refine .inr ⟨a,rfl,⟨_,SqT.of b⟩,A _ (pc rs (km (y:=⟨.tup ds,.ref a,u,C⟩) Ga f rfl) (fun c r=>r) fun M H' hm n B=>?_)⟩
  have sq:SqT K H' a j:=SqT.of (n a _ b fun z=>(hm a z).notup b)
  refine ⟨fun i v F=>⟨⟨j,v,sq,F⟩,fun x O ⟨e1,t⟩=>⟨e1,?_⟩⟩,⟨j,sq,Gv _⟩⟩
  have:=t j sq
  rw [F] at this
  injection this with this
  exact this.symm
 | lst xs =>
  obtain ⟨a,j,u,rfl,rfl,b,rs⟩:=s.view
  cases l
  refine .inl ⟨a,rfl,⟨_,SqL.of b⟩,A _ (pc rs (pR (y:=⟨.lst ds,.ref a,a :: u,C⟩) Ga f rfl rfl) (fun c r=>Gb _ r) (nM (ds:=ds) (fun _ _=>trivial) fun M H' hm n B=>SqL.of (n a _ b (B a Ga))))⟩
 | fls xs =>
  obtain ⟨a,j,rfl,b,rs⟩:=s.view
  cases l
  refine .inl ⟨a,rfl,⟨_,b.sq⟩,A _ (pc rs (km (y:=⟨.fls ds,.ref a,u,C⟩) Ga f rfl) (fun c r=>r) (nM (ds:=ds) (fun _ _=>trivial) fun M H' hm n B=>(b.keep n hm).sq))⟩
 | _=>exact nsE l
theorem Eo (h:RE X G0 W0 l m):RI X G0 W0 tg l (bO m):=⟨PI.imp (EL h.h) fun _ _ _ h=>DO h⟩
def bE (lo:Int) (n:Nat):List D:=(List.range n).map fun (k:Nat)=>D.int (lo+(k:Int))
theorem qx {lo:Int} {n:Nat}:Walk K (Itr lo n) H1 ys (bE lo n):=by
 refine ⟨[],fun x h=>(by cases h),fun M H' _ _ _=>⟨fun i d hd=>?_,?_⟩⟩
 ·unfold bE at hd
  rw [Gu] at hd
  obtain ⟨k,a,b⟩:=Ge.mp hd
  obtain ⟨c,e⟩:=Gp.mp a
  rw [List.getElem_range] at e
  subst e
  rw [List.length_range] at c
  refine ⟨c,fun x g ⟨e1,f⟩=>?_⟩
  subst e1
  exact ⟨⟨d,x,[],.z⟩,dj (by rw [<- b,f];exact .int _),rfl,rfl,rfl⟩
 ·show n<=(bE lo n).length
  unfold bE
  simp
def gq (j:Int):Bool:=decide (-(2 ^ 62)<=j/\j < 2 ^ 62)
def dS:List D->Option (List D)
 | [.int j]=>if gq j then some (bE 0 j.toNat) else none
 | _=>none
def lZ:List D->Option (List D)
 | [.int i,.int j]=>if gq i && gq j then some (bE i (j - i).toNat) else none
 | _=>none
def bP (f:List D->Option (List D)) (ms:M3 (List R3)):IM:=af ms fun rs=>af (cR rs) fun ds=>ba ((f ds).map fun xs=>([],xs))
theorem Bb (h:tI K G0 W0 (bP dS ms) σ H R):Dr (tA K G0 W0 ms) σ H R:=by
 obtain ⟨G,W,le,ρ,T,g,o,ρ',w,e,q⟩:=h
 have b:∀ x,o=.error x->W x ρ':=fun x f=>by subst f;exact q
 refine tA.seq le w e b fun rs ρ1 e1 u H1 Ts g1 i a1=>?_
 obtain ⟨ds,t,s⟩:=bK e1
 obtain ⟨p,n,rfl,rfl⟩:=bN s
 obtain ⟨xs,a,m⟩:=Ge.mp n
 subst m
 obtain ⟨ys,k,f1,f2⟩:=a1.items i (fun x f=>Gf _ f) t
 subst f1 f2
 match ys,a,k,a1 with
 | [],a,_,_=>exact nsE a
 | y :: z :: r,a,_,_=>cases hd:y.d <;> (rw [Gz,Gz,hd] at a;exact nsE a)
 | [y],a,k,a1 =>
  have l:=(i.itm (k y Ga)).rep
  cases hd:y.d <;> (rw [Gz,hd] at a;try (exact nsE a))
  rename_i j
  rw [hd] at l
  have a:(if gq j then some (bE 0 j.toNat) else none)=some xs:=a
  split at a
  ·rename_i c
   cases a
   have c:=of_decide_eq_true c
   refine ⟨j,by show [y.v]=_;rw [l.int_inv],c.1,c.2,?_⟩
   exact q _ H1 [] [] g1 [] (i.sub (Gr Ts T)) .nil (fun _ h=>by cases h) qx
  ·exact nsE a
theorem Ba (h:tI K G0 W0 (bP lZ ms) σ H R):Dq (tA K G0 W0 ms) σ H R:=by
 obtain ⟨G,W,le,ρ,T,g,o,ρ',w,e,q⟩:=h
 have b:∀ x,o=.error x->W x ρ':=fun x l=>by subst l;exact q
 refine tA.seq le w e b fun rs ρ1 e1 F H1 Ts g1 c a1=>?_
 obtain ⟨ds,E,C⟩:=bK e1
 obtain ⟨p,B,rfl,rfl⟩:=bN C
 obtain ⟨xs,A,t⟩:=Ge.mp B
 subst t
 obtain ⟨ys,k,f1,f2⟩:=a1.items c (fun x l=>Gf _ l) E
 subst f1 f2
 have inv:∀ {ds:List D},lZ ds=some xs->∃ i j,ds=[.int i,.int j]/\gq i=true/\gq j=true/\xs=bE i (j - i).toNat:=fun {ds} h=>by
  unfold lZ at h
  split at h
  ·rename_i i j
   split at h
   ·rename_i m
    cases h
    simp only [Bool.and_eq_true] at m
    exact ⟨i,j,rfl,m.1,m.2,rfl⟩
   ·exact nsE h
  ·exact nsE h
 obtain ⟨i,j,a,hi,f,rfl⟩:=inv A
 match ys,a,k,a1 with
 | [],a,_,_=>cases a
 | [y],a,_,_=>exact absurd (congrArg List.length a) (by simp)
 | y :: z :: u :: r,a,_,_=>exact absurd (congrArg List.length a) (by simp)
 | [y,z],a,k,a1 =>
  have s:=(c.itm (k y Ga)).rep
  have n:=(c.itm (k z (Gb _ Ga))).rep
  have h1:y.d=.int i:=by injection a
  have h2:z.d=.int j:=by injection a with _ h;injection h
  rw [h1] at s
  rw [h2] at n
  have hi:=of_decide_eq_true hi
  have f:=of_decide_eq_true f
  refine ⟨i,j,by show [y.v,z.v]=_;rw [s.int_inv,n.int_inv],⟨hi.1,hi.2,f.1,f.2⟩,?_⟩
  exact q _ H1 [] [] g1 [] (c.sub (Gr Ts T)) .nil (fun _ h=>by cases h) qx
theorem BM (b:Gl X "range") (hm:X.mg "range"=none) (c:RA X G0 W0 [a] ms) (d:starEach [a] X.env=[(false,eval a X.env)]):RI X G0 W0 tg (.Call (.Name "range" p) [a] [] pos) (bP dS ms):=⟨PI.imp (wO b hm c.h d) fun _ _ _ h=>Bb h⟩
theorem BL (d:Gl X "range") (hm:X.mg "range"=none) (e:RA X G0 W0 [a,b] ms) (f:starEach [a,b] X.env=[(false,eval a X.env),(false,eval b X.env)]) (c:starEach [b] X.env=[(false,eval b X.env)]):RI X G0 W0 tg (.Call (.Name "range" p) [a,b] [] pos) (bP lZ ms):=⟨PI.imp (wN d hm e.h f c) fun _ _ _ h=>Ba h⟩
end
end L3
end
section
namespace L3
open PySem L2
section
variable {K:FG} {G G0:Gm} {W W0:D->Sto->Prop} {H H':Hp} {σ:St} {ρ ρ':Sto} {T T':List It3} {g:Nat->Option It3} {x y z:It3} {α β:Type} {X:Cx} {L:List Addr}
def nq (bnd:D->Sto->Option Sto) (m:EM):SM:=af m fun r=>af (dy r) fun p=>fun ρ=>(bnd p.1 ρ).map fun ρ1=>(.ok .nx,ρ1)
theorem DN (l:Bnd K G0.pr tg bnd) (h:tS K G0 W0 (nq bnd m) E σ H):yp (tE K G0 W0 m) tg E σ H:=by
 refine h.use fun G W le ρ T g r ρ' w e q=>?_
 refine tE.seq le w e q.err fun ra ρ1 e1 v H1 ⟨Ts,g1,j,a1⟩=>?_
 obtain ⟨p,ρ2,g2,x,b,n,f1,_,_,f⟩:=a1.take j e1
 have c:=Wf.lowT (Ts:=[x]) n
 obtain ⟨ρ3,a,k⟩:=Ge.mp b
 cases k
 rw [<- f]
 exact l G H1 σ ρ2 _ T g2 (dn x) _ le.pr rfl c (by show bnd x.d ρ2=_;rw [f1];exact a) fun σ2 g3 i=>q _ _ _ i
theorem En (c:RG X G0.pr tg bnd) (he:RE X G0 W0 e m) (d:swapsWithSole [tg] e pos.line X.env=pure false) (hw:swappedStores [tg] e X.env=pure none) (h1:(assignEach [tg] X.env).map (·.2)=[assign tg X.env]):RS X G0 W0 (.Assign [tg] e pos) (nq bnd m):=by
 obtain ⟨g,a,b⟩:=c.h
 exact ⟨PS.imp (zp he.h a d hw h1) fun _ _ _ h=>DN b h⟩
theorem tG {i:Nat} {y:Str} (e:X.N.Nodup) (k:X.N[i]?=some y) (f:Loc X.env.scope y) (NY:List Str) (ix:List (Option Nat)) (n:X.calm=true) (hi:RI X G0 W0 tg iter im) (j:∀ s H C fp,PTs (aR X NY scope s H C fp) ifs (tT X.K (bd ix) noX cm)) (he:∀ s H C fp,RE (aR X NY scope s H C fp) (bd ix) noX elt em) (g:iG scope X.N X.env.scope NY ix=true) (c:Inj ix) (d:swapsWith (.ListComp elt [⟨tg,iter,ifs,0⟩] scope pos) (some (.Name y py)) spos.line X.env=pure true) (hf:X.fn y=true\/X.env.scope.names.lookup y=some .local) (m:∀ x,foldedSetIterable iter X.env x=pure x) (l:G0.pr i=false) (b:∃ a,Bnd X.K (bd ix).pr a bnd/\∀ s H C fp,PG (aR X NY scope s H C fp) tg a):RS X G0 W0 (.Assign [.Name y py] (.ListComp elt [⟨tg,iter,ifs,0⟩] scope pos) spos) (a7 i (bx im bnd cm em ix)):=by
 obtain ⟨a,b1,b2⟩:=b
 exact ⟨PS.imp (tM e k f NY ix n hi.h b2 j (fun s H C fp=>(he s H C fp).h) g d hf m) fun _ _ _ h=>s9 szl c b1 l h⟩
def isL:D->Bool
 | .lst _=>true
 | _=>false
theorem mE:∀ d v L H,isL d=true->Rep K H d v L->tyV K "list" v H:=fun d v L H h r=>by
 cases r with
 | lst ha _=>exact .inl ⟨rfl,_,SqL.of ha⟩
 | _=>cases h
def AO:D->List D->Option (D × D)
 | .lst xs,[d]=>if xs.length < 16777216 then some (.lst (xs ++ [d]),.non) else none
 | _,_=>none
theorem Fi:MutD K vm AO:=fun a d l as H Q p r m na ra i e q=>by
 cases d with
 | lst xs =>
  obtain ⟨_,g,_,e1,t,k,rs⟩:=r.view
  cases e1
  cases t
  match as,e,ra,i with
  | [],e,_,_=>exact nsE e
  | _ :: _ :: _,e,_,_=>exact nsE e
  | [y],e,ra,i =>
   have e:(if xs.length < 16777216 then some (D.lst (xs ++ [y.d]),D.non) else none)=some p:=e
   split at e
   ·rename_i u
    cases e
    refine ⟨a,g,y.v,rfl,rfl,k,by rw [<- rs.len,<- szl];exact u,?_⟩
    have s:=ra y Ga
    have w:=i y Ga
    have ma:MutAt H a:=.inl ⟨_,k⟩
    have keep:∀ {d v L},Rep K H d v L->a ∉ L->Rep K (upd H a (.lst (g ++ [y.v]))) d v L:=fun {d v L} r n=>r.keep (M:=fun b=>b=a) (fun b o f h=>by rw [ao h];exact f) (fun b e=>by rw [e];exact ma) fun b f e=>n (by rw [<- e];exact f)
    have keeps:Reps (Rep K (upd H a (.lst (g ++ [y.v])))) xs g l:=rs.keep (M:=fun b=>b=a) (fun b o f h=>by rw [ao h];exact f) (fun b e=>by rw [e];exact ma) fun b f e=>na (by rw [<- e];exact f)
    exact q (.lst (g ++ [y.v])) (l ++ (y.L ++ [])) ⟨.non,.non,[],.z⟩ (.lst aC (keeps.append (.cons (keep s w) .nil))) rfl (fun c j=>by
     rcases Gk.mp j with h | h
     ·exact .inl h
     ·rw [List.append_nil] at h;exact .inr ⟨y,Ga,h⟩) rfl rfl .non fun c j=>by cases j
   ·exact nsE e
 | _=>exact nsE e
def Ap:D->List D->Option (D × D)
 | .lst xs,[.lst ys]=>if xs.length+ys.length<=16777216 then some (.lst (xs ++ ys),.non) else none
 | _,_=>none
theorem ext2 (a:D):Ap (.lst xs) (a :: b :: r)=none:=by cases a <;> rfl
theorem Fh:MutD K vh Ap:=fun a d w as H Q p r m na ra k e q=>by
 cases d with
 | lst xs =>
  obtain ⟨_,j,_,e1,A,t,rs⟩:=r.view
  cases e1
  cases A
  match as,e,ra,k with
  | [],e,_,_=>exact nsE e
  | y :: _ :: _,e,_,_=>exact nsE ((ext2 y.d).symm.trans e)
  | [y],e,ra,k =>
   have s:=ra y Ga
   have u:=k y Ga
   obtain ⟨v,E,C,F⟩:=y
   dsimp only at s u e
   cases v with
   | lst ys =>
    obtain ⟨b,ws,B,rfl,rfl,g,i⟩:=s.view
    have e:(if xs.length+ys.length<=16777216 then some (D.lst (xs ++ ys),D.non) else none)=some p:=e
    split at e
    ·rename_i x
     cases e
     refine ⟨a,b,j,ws,rfl,rfl,t,g,by rw [<- rs.len,<- i.len,<- szl];exact x,?_⟩
     have ma:MutAt H a:=.inl ⟨_,t⟩
     have keeps:∀ {ds f L},Reps (Rep K H) ds f L->a ∉ L->Reps (Rep K (upd H a (.lst (j ++ ws)))) ds f L:=fun {ds f L} r n=>r.keep (M:=fun b=>b=a) (fun b o g h=>by rw [ao h];exact g) (fun b e=>by rw [e];exact ma) fun b g e=>n (by rw [<- e];exact g)
     exact q (.lst (j ++ ws)) (w ++ B) ⟨.non,.non,[],.z⟩ (.lst aC ((keeps rs na).append (keeps i fun h=>u (Gb _ h)))) rfl (fun c l=>by
      rcases Gk.mp l with h | h
      ·exact .inl h
      ·exact .inr ⟨_,Ga,Gb _ h⟩) rfl rfl .non fun c l=>by cases l
    ·exact nsE e
   | _=>exact nsE e
 | _=>exact nsE e
def qN:D->List D->Option (D × D)
 | .lst xs,[.int i,d]=>(ixN xs.length i).map fun j=>(.lst (xs.set j d),.non)
 | _,_=>none
theorem Reps.set:∀ {ds:List D} {b:List V} {L L':List Addr} {d:D} {v:V} (j:Nat),Reps (Rep K H) ds b L->Rep K H d v L'->∃ L2,Reps (Rep K H) (ds.set j d) (b.set j v) L2/\∀ c ∈ L2,c ∈ L\/c ∈ L'
 | _,_,_,_,_,_,j,.nil,_=>⟨[],.nil,fun c a=>by cases a⟩
 | _,_,_,L',_,_,0,.cons (L:=L1) (L':=L1') r rs,r'=>⟨L' ++ L1',.cons r' rs,fun c a=>by
  rcases Gk.mp a with h | h
  ·exact .inr h
  ·exact .inl (Gg _ h)⟩
 | _,_,_,L',_,_,j+1,.cons (L:=L1) (L':=L1') r rs,r'=>by
  obtain ⟨L2,h1,h2⟩:=Reps.set j rs r'
  refine ⟨L1 ++ L2,.cons r h1,fun c a=>?_⟩
  rcases Gk.mp a with h | h
  ·exact .inl (Gf _ h)
  ·rcases h2 c h with h | h
   ·exact .inl (Gg _ h)
   ·exact .inr h
theorem set1 (a:D):qN (.lst xs) [a]=none:=by cases a <;> rfl
theorem set3' (a:D):qN (.lst xs) (a :: b :: c :: r)=none:=by cases a <;> rfl
theorem Cq:MutD K (md vf) qN:=fun a d x as H Q p r m na ra l e q=>by
 cases d with
 | lst xs =>
  obtain ⟨_,g,_,e1,B,t,rs⟩:=r.view
  cases e1
  cases B
  match as,e,ra,l with
  | [],e,_,_=>exact nsE e
  | [y],e,_,_=>exact nsE ((set1 y.d).symm.trans e)
  | y :: _ :: _ :: _,e,_,_=>exact nsE ((set3' y.d).symm.trans e)
  | [k,y],e,ra,l =>
   have u:=ra k Ga
   have w:=ra y (Gb _ Ga)
   have C:=l y (Gb _ Ga)
   obtain ⟨kd,F,G,E⟩:=k
   dsimp only at u
   cases kd with
   | int i =>
    obtain ⟨rfl,rfl⟩:=u.view
    obtain ⟨j,h1,h2⟩:=Ge.mp (show (ixN xs.length i).map (fun j=>(D.lst (xs.set j y.d),D.non))=some p from e)
    subst h2
    refine ⟨.int i,y.v,rfl,a,g,i,j,rfl,rfl,t,by rw [<- rs.len];exact h1,?_⟩
    have ma:MutAt H a:=.inl ⟨_,t⟩
    have n:Rep K (upd H a (.lst (g.set j y.v))) y.d y.v y.L:=w.keep (M:=fun b=>b=a) (fun b o f h=>by rw [ao h];exact f) (fun b e=>by rw [e];exact ma) fun b f e=>C (by rw [<- e];exact f)
    have keeps:Reps (Rep K (upd H a (.lst (g.set j y.v)))) xs g x:=rs.keep (M:=fun b=>b=a) (fun b o f h=>by rw [ao h];exact f) (fun b e=>by rw [e];exact ma) fun b f e=>na (by rw [<- e];exact f)
    obtain ⟨L2,h3,A⟩:=keeps.set j n
    exact q (.lst (g.set j y.v)) L2 ⟨.non,.non,[],.z⟩ (.lst aC h3) rfl (fun c s=>(A c s).imp id fun h=>⟨y,Gb _ Ga,h⟩) rfl rfl .non fun c s=>by cases s
   | _=>exact nsE e
 | _=>exact nsE e
theorem pC {i:Nat} {x:Str} {id:String} (k:PlainAttrs Ty) (slot:Slot Ty nm id) (j:typeOf (.builtin id)=pure (.type "method_descriptor")) (hm:MtR X id r) (m:MutD X.K r f) (hok:∀ d v L H,ok d=true->Rep X.K H d v L->tyV X.K Ty v H) (n:PE X (.Name x pn) (wr i)) (l:RA X G0 W0 (e :: es) ms) (b:attributeBase (.Name x pn) nm X.env (eval (.Name x pn) X.env)=eval (.Name x pn) X.env) (g:((backTo cpos (starEach (e :: es) X.env)).all (fun x=>!x.1) && (backToKw cpos (keywordEach [] X.env)).all (fun x=>x.1.isSome) && decide ((e :: es).length+([]:List Keyword).length+(if ([]:List Keyword).isEmpty then 0 else 1) < 30))=true) (c:(apos.endLine == cpos.line)=true) (o:starEach (e :: es) X.env=(false,eval e X.env) :: starEach es X.env) (a:(backTo cpos (starEach es X.env)).any (·.1)=false):RE X G0 W0 (.Call (.Attribute (.Name x pn) nm apos) (e :: es) [] cpos) (pN ok f i ms) :=
 ⟨PE.imp (Di k slot j hm n l.h b g c o a) fun _ _ _ h=>DS m hok h⟩
theorem Ek {i:Nat} {x:Str} (j:AU X t) (c:MutD X.K (md t) f) (d:PE X (.Name x pn) (wr i)) (g:RE X G0 W0 k mk) (l:RE X G0 W0 e mv) (b:∀ v,assign (.Subscript (.Name x pn) k p2) X.env v=(do
   let ov <- holding [v] (eval (.Name x pn) X.env)
   let a <- holding [v,ov] (eval k X.env)
   standAt p2
   holding [v,ov,a] (setItem ov a v)
   release [v,ov,a] [])) (h1:swapsWithSole [.Subscript (.Name x pn) k p2] e pos.line X.env=pure false) (h2:swappedStores [.Subscript (.Name x pn) k p2] e X.env=pure none) (h3:(assignEach [.Subscript (.Name x pn) k p2] X.env).map (·.2)=[assign (.Subscript (.Name x pn) k p2) X.env]):RS X G0 W0 (.Assign [.Subscript (.Name x pn) k p2] e pos) (nk f i mk mv) :=
 ⟨PS.imp (zp l.h (EN d g.h j b) h1 h2 h3) fun _ _ _ h=>DH c h⟩
end
end L3
end
section
namespace L3
open PySem L2
section
variable {K:FG} {G G0:Gm} {W W0:D->Sto->Prop} {H H':Hp} {σ:St} {ρ ρ':Sto} {T T':List It3} {g:Nat->Option It3} {x y z:It3} {α β:Type} {X:Cx} {L:List Addr}
theorem yZ:PTs Y [] (tT K (bd ix) noX dE):=fun pins s σ H Q I h=>BU pins s σ H Q I (DF h)
theorem yY (h:RT Y (bd ix) noX c m):PTs Y [c] (tT Y.K (bd ix) noX m):=BT h.h
theorem ui (h:(ix.filterMap id).Nodup):Inj ix:=by
 intro j k i a b
 induction ix generalizing j k with
 | nil=>simp at a
 | cons o ix ih =>
  grind
theorem yo (ho:OpD K r f) (t:OpD K r' f') (h:tE K G0 W0 (eV f f' ma mb mc) σ H Q):td r r' (tE K G0 W0 ma) (tE K G0 W0 mb) (tE K G0 W0 mc) σ H Q:=by
 refine h.use fun G W le ρ T g o ρ' w e q=>?_
 refine tE.seq le w e q.err fun ra ρ1 e1 va H1 ⟨Ts,g1,w1,a1⟩=>?_
 refine tE.seq le w1 e1 q.err fun rb ρ2 e2 vb H2 ⟨Us,g2,j,a2⟩=>?_
 obtain ⟨da,d1,e3⟩:=aW e2
 obtain ⟨db,d2,Z⟩:=aW e3
 obtain ⟨k,Y,z⟩:=ki Z
 obtain ⟨I,U,f1,f2⟩:=a1.item j (fun x d=>Gg _ (Gf _ d)) d1
 obtain ⟨J,S,f3,f4⟩:=a2.item j (fun x d=>Gf _ d) d2
 obtain ⟨p,P,e8⟩:=GJ.mp Y
 have hp:=AM e8
 subst f1 f2 f4
 rw [<- f3] at P
 refine ho I J H2 _ p (j.itm U).arg (j.itm S).arg P fun u H3 M X uf=>?_
 have w3:=j.push M fun c h=>j.kids (ys:=[I,J]) (fun y i=>by
  rcases Gh.mp i with h | i
  ·rw [h];exact U
  ·rw [GK.mp i];exact S) h
 have L:=M.rep
 rw [X,hp] at L
 refine ⟨k,L.bl_eq.1,?_⟩
 have N:=w3.sub (List.sublist_cons_self u _)
 cases k with
 | false =>
  cases z
  have b:=N.sub (T':=T) ((Gr Ts T).trans (Gr Us _))
  exact q _ _ (b.const (.bl false))
 | true =>
  simp only [if_true] at z ⊢
  refine tE.seq le N z q.err fun rc ρ5 e9 vc H5 ⟨m,F,b,a5⟩=>?_
  obtain ⟨v,d3,A⟩:=aW e9
  obtain ⟨dc,d4,n⟩:=aW A
  obtain ⟨p',a,rfl,rfl⟩:=bN n
  obtain ⟨l,E,f5,f6⟩:=a2.item b (fun x d=>Gg _ (Gf _ d)) d3
  obtain ⟨R,V,f7,f8⟩:=a5.item b (fun x d=>Gf _ d) d4
  cases D:f' v dc with
  | none=>rw [D] at a;exact nsE a
  | some s =>
   rw [D] at a
   cases a
   have O:=b
   rw [show m ++ (Us ++ (Ts ++ T))=(m ++ (Us ++ Ts)) ++ T by simp] at O
   have B:Itm ((m ++ (Us ++ Ts)) ++ T) F l:=by simpa using E
   have C:Itm ((m ++ (Us ++ Ts)) ++ T) F R:=by simpa using V
   rw [<- f6,<- f8]
   refine t l R H5 Q s (b.itm E).arg (b.itm V).arg (by rw [f5,f7];exact D) (oV O (fun y i=>?_) q)
   rcases Gh.mp i with h | i
   ·rw [h];exact B
   ·rw [GK.mp i];exact C
theorem qU (k:OpR X (compareOp op) r) (hd:OpD X.K r f) (i:OpR X (compareOp op') r') (d:OpD X.K r' f') (g:RE X G0 W0 a ma) (e:RE X G0 W0 b mb) (j:RE X G0 W0 c mc) (h:PE X a (tE X.K G0 W0 ma)->PE X b (tE X.K G0 W0 mb)->PE X c (tE X.K G0 W0 mc)->PE X (.Compare a [op,op'] [b,c] pos) (td r r' (tE X.K G0 W0 ma) (tE X.K G0 W0 mb) (tE X.K G0 W0 mc))):RE X G0 W0 (.Compare a [op,op'] [b,c] pos) (eV f f' ma mb mc):=⟨PE.imp (h g.h e.h j.h) fun _ _ _ h=>yo hd d h⟩
theorem j9 (e:OpR X (compareOp op) r) (hd:OpD X.K r f) (d:RE X G0 W0 a ma) (c:RE X G0 W0 b mb) (hm:behindInMarks op b=false):RT X G0 W0 (.Compare a [op] [b] pos) (cB (aj f ma mb)):=⟨PT.imp (BV e d.h c.h hm) fun _ _ _ h=>pe hd (tT_b h)⟩
def iE (n:Nat):List D->List D
 | []=>[]
 | d :: ds=>.tup [.int n,d] :: iE (n+1) ds
theorem kA:∀ {ds:List D} {n i:Nat},(iE n ds)[i]?=(ds[i]?).map fun d=>.tup [.int ((n+i:Nat):Int),d]
 | [],n,i=>by simp [iE]
 | d :: ds,n,0=>by simp [iE]
 | d :: ds,n,i+1=>by
  show (iE (n+1) ds)[i]?=_
  rw [kA]
  simp only [List.getElem?_cons_succ]
  rw [show n+1+i=n+(i+1) by omega]
theorem kz:∀ {ds:List D} {n:Nat},(iE n ds).length=ds.length
 | [],_=>rfl
 | d :: ds,n=>by simp [iE,kz]
def mG (ms:M3 (List R3)):IM:=af ms fun rs=>af (cR rs) fun ds=>ba (match ds with
 | [.lst xs]=>some (rs,iE 0 xs)
 | _=>none)
theorem Bc (h:tI K G0 W0 (mG ms) σ H R):Ds K (tA K G0 W0 ms) σ H R:=by
 obtain ⟨G,W,le,ρ,T,g,o,ρ',w,e,q⟩:=h
 have n:∀ x,o=.error x->W x ρ':=fun x s=>by subst s;exact q
 refine tA.seq le w e n fun rs ρ1 e1 l H1 Ts g1 C a1=>?_
 obtain ⟨ds,j,B⟩:=bK e1
 obtain ⟨p,t,rfl,rfl⟩:=bN B
 have inv:∃ xs,ds=[.lst xs]/\p=(rs,iE 0 xs):=by
  split at t
  ·cases t;exact ⟨_,rfl,rfl⟩
  ·exact nsE t
 obtain ⟨xs,rfl,rfl⟩:=inv
 match rs,j,a1,q with
 | [],j,_,_=>cases j
 | r :: r' :: rs,j,_,_ =>
  obtain ⟨_,_,f⟩:=aW (k:=fun d=>af (cR (r' :: rs)) fun ds=>aZ (d :: ds)) j
  obtain ⟨ax,e6,e7⟩:=bK f
  obtain ⟨_,_,e8⟩:=aW (k:=fun d=>af (cR rs) fun ds=>aZ (d :: ds)) e6
  obtain ⟨az,_,e9⟩:=bK e8
  cases e9
  cases e7
 | [r],j,a1,q =>
  obtain ⟨d,A,f⟩:=aW (k:=fun d=>af (cR []) fun ds=>aZ (d :: ds)) j
  have hd:d=.lst xs:=by
   have f:some ((.ok [d],ρ'):Except D (List D) × Sto)=some (.ok [.lst xs],ρ'):=f
   cases f;rfl
  subst hd
  cases a1 with
  | @cons _ v Ts1 _ vs1 Us1 a as =>
   cases as with
   | nil =>
    obtain ⟨y,V,y2,X⟩:=Ar.item2 (T:=T) (by simpa using C) a A
    have hy:Itm (([] ++ Ts1) ++ T) g1 y:=by
     rcases X with ⟨i,_,ei⟩ | h
     ·exact .inl ⟨i,ei⟩
     ·exact .inr (by simpa using Gf T h)
    have P:=(C.itm hy).arg
    have Z:∀ J,Walk K J H1 [y] (iE 0 xs)->R J H1:=fun J hw=>q J H1 [v] ([] ++ Ts1) g1 [y] C (.cons a .nil) (fun z hz=>by
     rw [GK.mp hz]
     rcases X with h | h
     ·exact .inl h
     ·exact .inr (by simpa using h)) hw
    clear q
    subst y2
    have F:=P
    obtain ⟨yd,yv,yL,yf⟩:=y
    obtain ⟨O,oo⟩:=P
    dsimp only at O V
    subst V
    cases O with
    | @lst _ pa l La ha rs =>
     refine ⟨pa,rfl,⟨_,SqL.of ha⟩,Z _ ?_⟩
     obtain ⟨ws,h1,h2,h3⟩:=Reps.split rs
     refine ⟨ws,fun x s=>⟨(h3 x s).1,(h3 x s).2.1,fun c E=>pR (y:=⟨.lst xs,.ref pa,pa :: La,yf⟩) Ga F rfl rfl c ((h3 x s).2.2 c E)⟩,fun M H' hm Q S=>?_⟩
     have sq:SqL K H' pa l:=SqL.of (Q pa _ ha (S _ Ga pa Ga))
     refine ⟨fun i d hd=>?_,by rw [kz];exact ⟨l,sq,by rw [<- rs.len];exact Gv _⟩⟩
     rw [kA] at hd
     obtain ⟨I,m,rfl⟩:=Ge.mp hd
     have hw:∃ u,ws[i]?=some u/\u.d=I:=by
      rw [<- h1,Gu] at m
      obtain ⟨u,a,b⟩:=Ge.mp m
      exact ⟨u,a,b⟩
     obtain ⟨u,N,Y⟩:=hw
     have U:l[i]?=some u.v:=by rw [<- h2,Gu,N];rfl
     have hu:=Gq N
     refine ⟨⟨l,u.v,sq,U⟩,fun x ae ⟨Tt,yv,e1,B,t,A⟩=>?_⟩
     have f:=A l sq
     rw [U] at f
     cases f
     subst e1 t
     have ru:Rep K H' u.d u.v u.L:=(h3 u hu).2.1.keep Q hm fun b hb=>S _ Ga b (Gb _ ((h3 u hu).2.2 b hb))
     refine ⟨⟨.tup [.int ((0+i:Nat):Int),I],.ref Tt,[] ++ (u.L ++ []),.z⟩,zM B (.cons (L:=[]) (by rw [GD];exact .int _) (.cons (by rw [<- Y];exact ru) .nil)) (fun c E=>⟨u,hu,by simpa using E⟩),rfl,rfl,rfl⟩
theorem BN {k:Nat} (b:Gl X "enumerate") (hm:X.mg "enumerate"=none) (c:RA X G0 W0 [a] ms) (d:starEach [a] X.env=[(false,eval a X.env)]):RI X G0 W0 (.Tuple elts k tp) (.Call (.Name "enumerate" p) [a] [] pos) (mG ms):=⟨PI.imp (B5 b hm c.h d) fun _ _ _ h=>Bc h⟩
end
end L3
namespace L3
theorem BZ {i:Nat} (h:mask.length<=i):prM mask i=false:=by
 unfold prM
 rw [List.getElem?_eq_none h]
end L3
end
section
namespace L3
open PySem L2
structure Bl (mg:Str->Option Value):Prop where
 len:mg "len"=none
 range:mg "range"=none
 abs:mg "abs"=none
 divmod:mg "divmod"=none
 enumerate:mg "enumerate"=none
 tuple:mg "tuple"=none
 isinstance:mg "isinstance"=none
 int:mg "int"=none
 bool:mg "bool"=none
 all:mg "all"=none
 str:mg "str"=none
 max:mg "max"=none
 min:mg "min"=none
 list:mg "list"=none
 dict:mg "dict"=none
 repr:mg "repr"=none
 sorted:mg "sorted"=none
 set:mg "set"=none
 zip:mg "zip"=none
 reversed:mg "reversed"=none
theorem b_len:bootBuiltins "len"=some (.builtin "len"):=by decide +kernel
theorem b_abs:bootBuiltins "abs"=some (.builtin "abs"):=by decide +kernel
theorem AL:bootBuiltins "divmod"=some (.builtin "divmod"):=by decide +kernel
theorem wc:bootBuiltins "tuple"=some (.type "tuple"):=by decide +kernel
theorem jZ:bootBuiltins "isinstance"=some (.builtin "isinstance"):=by decide +kernel
theorem b_int:bootBuiltins "int"=some (.type "int"):=by decide +kernel
theorem FW:bootBuiltins "bool"=some (.type "bool"):=by decide +kernel
theorem b_all:bootBuiltins "all"=some (.builtin "all"):=by decide +kernel
theorem b_max:bootBuiltins "max"=some (.builtin "max"):=by decide +kernel
theorem b_min:bootBuiltins "min"=some (.builtin "min"):=by decide +kernel
theorem FV:bootBuiltins "list"=some (.type "list"):=by decide +kernel
theorem FU:bootBuiltins "repr"=some (.builtin "repr"):=by decide +kernel
theorem sN:bootBuiltins "sorted"=some (.builtin "sorted"):=by decide +kernel
theorem b_set:bootBuiltins "set"=some (.type "set"):=by decide +kernel
end L3
end
section
namespace L3
open PySem L2
section
variable {K:FG} {G G0:Gm} {W W0:D->Sto->Prop} {H H':Hp} {σ:St} {ρ ρ':Sto} {T T':List It3} {g:Nat->Option It3} {x y z:It3} {α β:Type} {X:Cx} {L:List Addr}
theorem uR (h:tE K G0 W0 m σ H Q) (f:∀ v H,Q v H->Q' v H):tE K G0 W0 m σ H Q':=by
 refine h.use fun G W le ρ T g o ρ' w e q=>?_
 refine tE.mk le w e ?_
 cases o with
 | ok r=>exact fun v H' g=>f v H' (q v H' g)
 | error x=>exact q
def oM:D->Option String
 | .non=>some "NoneType" | .bl _=>some "bool" | .int _=>some "int" | .str _=>some "str"
 | .tup _=>some "tuple" | .lst _=>some "list" | .fls _=>some "list" | .dk _=>some "dict" | .dt _=>some "dict" | .exc _ _=>none
def jQ (t:String) (d:D):Option (D × Fl):=(oM d).map fun k=>(.bl (lg k t),.z)
theorem Rep.kind (r:Rep K H d v L) (e:oM d=some k):KindOf K H v k:=by
 cases r with
 | non=>cases e;exact .non
 | bl b=>cases e;exact .bool b
 | int i=>cases e;exact .int i
 | str s=>cases e;exact .str s
 | tup h _=>cases e;exact .tuple (SqT.of h)
 | lst h _=>cases e;exact .list (SqL.of h)
 | lstF h _=>cases e;exact .list h.sq
 | dK h _ _=>cases e;exact .dK h
 | dT h _ _=>cases e;exact .dT h
 | exc _ _=>cases e
theorem tL (l:CallR X (.builtin "isinstance") (fun xs H Q=>∃ x k,xs=[x,.ty t]/\KindOf X.K H x k/\Q (.bl (lg k t)) H)) (g:Gl X "isinstance") (hm:X.mg "isinstance"=none) (i:PE X (.Name tn pT) (tC (.ty t))) (f:RE X G0 W0 a ma) (b:starEach [a,.Name tn pT] X.env=(false,eval a X.env) :: starEach [.Name tn pT] X.env) (c:starEach [.Name tn pT] X.env=(false,eval (.Name tn pT) X.env) :: starEach [] X.env) (d:(backTo pos (starEach [.Name tn pT] X.env)).any (·.1)=false):RE X G0 W0 (.Call (.Name "isinstance" p) [a,.Name tn pT] [] pos) (mUn (jQ t) ma) :=
 ⟨PE.imp (jI l g hm jZ (fP f.h (fP i mj c) b) (by decide) (by decide) b d) fun σ H Q h=>by
  have h:=yk (r:=fun x H Q=>∃ k,KindOf X.K H x k/\Q (.bl (lg k t)) H) (fun a H Q p ra e q=>by
   obtain ⟨k,h1,h2⟩:=Ge.mp e
   subst h2
   exact ⟨k,ra.rep.kind h1,q ⟨.bl (lg k t),.bl (lg k t),[],.z⟩ H (dj (.bl _)) rfl rfl⟩) h
  refine uR h fun x H1 ⟨k,j,q⟩=>?_
  exact ⟨x,k,rfl,j,q⟩⟩
def Aa:D->Option Key
 | .int i=>some (.inl i)
 | .str s=>some (.inr s)
 | _=>none
def eW:List D->Option (List Key)
 | []=>some []
 | d :: ds=>match Aa d,eW ds with
  | some k,some ks=>some (k :: ks)
  | _,_=>none
theorem xh (r:Rep K H d v L) (e:Aa d=some k):v=kV k:=by
 cases r <;> cases e <;> rfl
theorem iB:∀ {ds:List D} {a:List V} {L:List Addr} {ks:List Key},Reps (Rep K H) ds a L->eW ds=some ks->a=ks.map kV
 | _,_,_,ks,.nil,e=>by cases e;rfl
 | _,_,_,ks,.cons (d:=d) (ds:=ds) r rs,e=>by
  unfold eW at e
  cases h1:Aa d with
  | none=>rw [h1] at e;exact nsE e
  | some k =>
   cases h2:eW ds with
   | none=>rw [h1,h2] at e;exact nsE e
   | some ks' =>
    rw [h1,h2] at e
    cases e
    rw [xh r h1,iB rs h2];rfl
def mJ (kvs:List (List Key × D)) (k:List Key):Option D:=(kvs.find? fun a=>decide (a.1=k)).map (·.2)
def qX (kvs:List (List Key × D)) (k:List Key) (v:D):List (List Key × D) :=
 if (kvs.any fun a=>decide (a.1=k))=true then kvs.map (fun a=>if a.1=k then (a.1,v) else a) else kvs ++ [(k,v)]
theorem sf:∀ {kvs:List (List Key × D)} {ps:List (List Key × V)} {L:List Addr} {k:List Key} {d:D},kvs.map (·.1)=ps.map (·.1)->Reps (Rep K H) (kvs.map (·.2)) (ps.map (·.2)) L->mJ kvs k=some d->∃ v L',k9 ps k=some v/\Rep K H d v L'/\∀ c ∈ L',c ∈ L
 | [],ps,L,k,d,hk,r,e=>by cases e
 | f :: kvs,[],L,k,d,hk,r,e=>by cases hk
 | f :: kvs,p :: ps,L,k,d,hk,r,e=>by
  have b:f.1=p.1/\kvs.map (·.1)=ps.map (·.1):=by simpa using hk
  generalize i:(f :: kvs).map (·.2)=xs at r
  generalize j:(p :: ps).map (·.2)=ys at r
  cases r with
  | nil=>cases i
  | cons a as =>
   cases i
   cases j
   unfold mJ at e
   rw [List.find?_cons] at e
   by_cases h:f.1=k
   ·rw [GA h] at e
    cases e
    exact ⟨_,_,jv (b.1.symm.trans h),a,fun c g=>Gf _ g⟩
   ·rw [GB h] at e
    obtain ⟨v,L',h1,h2,h3⟩:=sf b.2 as e
    exact ⟨v,L',by rw [jw (fun z=>h (b.1.trans z))];exact h1,h2,fun c g=>Gg _ (h3 c g)⟩
def k6:D->D->Option (D × Fl)
 | .dt kvs,.tup ks=>match eW ks with
  | some k=>(mJ kvs k).map fun d=>(d,.z)
  | none=>none
 | _,_=>none
def vi:R2:=fun x y H Q=>∃ a v,x=.ref a/\DGet H a y (some v)/\Q v H
theorem Ck:OpD K vi k6:=fun a b H Q p ra rb e q=>by
 obtain ⟨da,u,w,l⟩:=a
 obtain ⟨db,r,A,B⟩:=b
 have f:=ra
 obtain ⟨ra,s⟩:=ra
 obtain ⟨rb,ob⟩:=rb
 dsimp only at ra rb e
 cases da with
 | dt kvs =>
  obtain ⟨g,ps,i,rfl,rfl,j,n,rs⟩:=ra.view
  cases db with
  | tup ks =>
   obtain ⟨x,ws,rfl,m,h⟩:=rb.view
   have e:(match eW ks with | some k=>(mJ kvs k).map fun d=>(d,Fl.z) | none=>none)=some p:=e
   cases h1:eW ks with
   | none=>rw [h1] at e;exact nsE e
   | some k =>
    rw [h1] at e
    obtain ⟨d,h2,h3⟩:=Ge.mp (show (mJ kvs k).map (fun d=>(d,Fl.z))=some p from e)
    subst h3
    have hw:=iB h h1
    subst hw
    obtain ⟨v,L',g1,g2,g3⟩:=sf n rs h2
    refine ⟨g,v,rfl,by rw [<- g1];exact DGet.t j m,q ⟨d,v,L',.z⟩ H (rC g2 fun c o=>?_) rfl rfl⟩
    exact pR (y:=⟨.dt kvs,.ref g,g :: i,l⟩) Ga f rfl rfl c (g3 c o)
  | _=>exact nsE e
 | _=>exact nsE e
open PySem.Spec PyProof.Rows in
theorem CD (hu:X.A.units+1 < cLine):IxR X vi:=by
 intro value slice pins s σ H x y v u Q I i f h j
 obtain ⟨a,w,rfl,g,q⟩:=h
 cases i
 have c:=sk I g
 unfold subscriptTail
 refine F7 ?_
 rw [getitemInPython_of_ne c.not_modules]
 refine F7 (wpAny_specialOf c PySem.F.slot_dict_getitem.lookup ?_)
 have fin:wpAny (model X.prog X.w) X.A (subscripted slice false (.ref a) u) (fun r d=>wpAny (model X.prog X.w) X.A (letTemporaryGo value (.ref a) r >>= fun _=>pure r) (EP X pins σ Q) X.xe d) X.xe s:=by
  rw [j]
  exact wpAny_operating (xD hu I g f fun k s3 e b=>F7 (wpAny_letTemporaryGo (F8 ⟨w,H,e,b,q⟩)))
 first
  | exact F8 (F7 fin)
  | exact F7 (F8 (F7 fin))
  | exact F7 fin
abbrev aF:=orD ixD k6
theorem E8:OpD K (fun x y H Q=>(zj K x y H Q\/zh K x y H Q)\/vi x y H Q) aF:=od_ix.or Ck
theorem FA (hu:X.A.units+1 < cLine):IxR X (fun x y H Q=>(zj X.K x y H Q\/zh X.K x y H Q)\/vi x y H Q):=ix_ok.or (CD hu)
def zY:EM:=aZ (.val (.dt []) .u)
theorem y8:RE X G0 W0 (.Dict [] [] pos) zY:=⟨PE.imp zy fun σ H Q h=>by
 refine h.use fun G W le ρ T g o ρ' w e q=>?_
 cases e
 intro p a
 refine q _ _ (Wf.done (Us:=[]) (ys:=[]) (x:=⟨.dt [],.ref p,[p],.u⟩) w (fun _ h=>(by cases h)) ⟨bv a,.dT aC rfl .nil,fun c b=>?_,fun _=>⟨rfl,p,[],rfl,rfl,(by simp),a⟩⟩)
 rw [GK.mp b];exact .inl a⟩
def kP:D->List D->Option (D × D)
 | .dt kvs,[.tup ks,v]=>match eW ks with
  | some k=>if kvs.length < 16777216 then some (.dt (qX kvs k v),.non) else none
  | none=>none
 | _,_=>none
def vg:FZ:=fun o i v H Q=>∃ a H',o=.ref a/\DPut H a i v H'/\Q H'
theorem yF (hu:X.A.units+1 < cLine):AU X vg:=by
 intro pins s σ H o i v ov f u Q I c b d h
 obtain ⟨a,H',rfl,g,q⟩:=h
 cases c
 exact xC hu I g b d fun s' e=>⟨H',e,q⟩
theorem qW:∀ {kvs:List (List Key × D)} {ps:List (List Key × V)} {L L':List Addr} {k:List Key} {d:D} {v:V},kvs.map (·.1)=ps.map (·.1)->Reps (Rep K H) (kvs.map (·.2)) (ps.map (·.2)) L->Rep K H d v L' ->
  ∃ L2,Reps (Rep K H) ((kvs.map fun b=>if b.1=k then (b.1,d) else b).map (·.2)) ((ps.map fun b=>if b.1=k then (b.1,v) else b).map (·.2)) L2/\(∀ c ∈ L2,c ∈ L\/c ∈ L')
 | [],[],L,L',k,d,v,hk,r,rd=>⟨[],.nil,fun c f=>by cases f⟩
 | [],_ :: _,_,_,_,_,_,hk,_,_=>by cases hk
 | _ :: _,[],_,_,_,_,_,hk,_,_=>by cases hk
 | b :: kvs,p :: ps,L,L',k,d,v,hk,r,rd=>by
  have e:b.1=p.1/\kvs.map (·.1)=ps.map (·.1):=by simpa using hk
  generalize g:(b :: kvs).map (·.2)=xs at r
  generalize i:(p :: ps).map (·.2)=ys at r
  cases r with
  | nil=>cases g
  | @cons _ _ L1 _ _ L1' a as =>
   cases g
   cases i
   obtain ⟨L2,h1,h2⟩:=qW (k:=k) e.2 as rd
   by_cases h:b.1=k
   ·refine ⟨L' ++ L2,?_,fun c f=>?_⟩
    ·simp only [Gz,if_pos h,if_pos (e.1.symm.trans h)]
     exact .cons rd h1
    ·rcases Gk.mp f with z | z
     ·exact .inr z
     ·rcases h2 c z with y | y
      ·exact .inl (Gg _ y)
      ·exact .inr y
   ·refine ⟨L1 ++ L2,?_,fun c f=>?_⟩
    ·simp only [Gz,if_neg h,if_neg (fun z=>h (e.1.trans z))]
     exact .cons a h1
    ·rcases Gk.mp f with z | z
     ·exact .inl (Gf _ z)
     ·rcases h2 c z with y | y
      ·exact .inl (Gg _ y)
      ·exact .inr y
theorem AQ {kvs:List (List Key × D)} {ps:List (List Key × V)} (b:kvs.map (·.1)=ps.map (·.1)):(kvs.any fun a=>decide (a.1=k))=ps.any fun a=>decide (a.1=k):=by
 have h1:(kvs.any fun a=>decide (a.1=k))=(kvs.map (·.1)).any fun x=>decide (x=k):=by rw [List.any_map];rfl
 grind
theorem rN {kvs:List (List Key × α)} {d:α}:(kvs.map fun a=>if a.1=k then (a.1,d) else a).map (·.1)=kvs.map (·.1):=by
 rw [GT]
 refine List.map_congr_left fun a _=>?_
 grind
theorem put1 (a:D):kP (.dt kvs) [a]=none:=by cases a <;> rfl
theorem put3' (a:D):kP (.dt kvs) (a :: b :: c :: r)=none:=by cases a <;> rfl
theorem Cr:MutD K (md vg) kP:=fun a d n as H Q p r m na ra s e q=>by
 cases d with
 | dt kvs =>
  obtain ⟨_,ps,_,e1,C,w,i,rs⟩:=r.view
  cases e1
  cases C
  match as,e,ra,s with
  | [],e,_,_=>exact nsE e
  | [y],e,_,_=>exact nsE ((put1 y.d).symm.trans e)
  | y :: _ :: _ :: _,e,_,_=>exact nsE ((put3' y.d).symm.trans e)
  | [k,y],e,ra,s =>
   have x:=ra k Ga
   have A:=ra y (Gb _ Ga)
   have F:=s y (Gb _ Ga)
   obtain ⟨kd,I,J,G⟩:=k
   dsimp only at x
   cases kd with
   | tup ks =>
    obtain ⟨E,ws,rfl,f,u⟩:=x.view
    have e:(match eW ks with | some k=>if kvs.length < 16777216 then some (D.dt (qX kvs k y.d),D.non) else none | none=>none)=some p:=e
    cases h1:eW ks with
    | none=>rw [h1] at e;exact nsE e
    | some key =>
     rw [h1] at e
     dsimp only at e
     split at e
     ·rename_i B
      cases e
      have hw:=iB u h1
      subst hw
      have hlen:kvs.length=ps.length:=by have:=congrArg List.length i;simpa using this
      refine ⟨.ref E,y.v,rfl,a,_,rfl,DPut.t w f (by rw [<- hlen,<- szl];exact B),?_⟩
      have ma:MutAt H a:=.inr (.inr ⟨_,w⟩)
      have g:Rep K (upd H a (.dT (fN ps key y.v))) y.d y.v y.L:=A.keep (M:=fun b=>b=a) (fun b o f h=>by rw [ao h];exact f) (fun b e=>by rw [e];exact ma) fun b f e=>F (by rw [<- e];exact f)
      have keeps:Reps (Rep K (upd H a (.dT (fN ps key y.v)))) (kvs.map (·.2)) (ps.map (·.2)) n:=rs.keep (M:=fun b=>b=a) (fun b o f h=>by rw [ao h];exact f) (fun b e=>by rw [e];exact ma) fun b f e=>na (by rw [<- e];exact f)
      have fin:∃ l,Reps (Rep K (upd H a (.dT (fN ps key y.v)))) ((qX kvs key y.d).map (·.2)) ((fN ps key y.v).map (·.2)) l/\(∀ c ∈ l,c ∈ n\/c ∈ y.L)/\(qX kvs key y.d).map (·.1)=(fN ps key y.v).map (·.1):=by
       generalize upd H a (HO.dT (fN ps key y.v))=H2 at keeps g ⊢
       unfold qX fN
       rw [AQ i]
       split
       ·obtain ⟨L2,g1,g2⟩:=qW (k:=key) i keeps g
        exact ⟨L2,g1,g2,by rw [rN,rN];exact i⟩
       ·refine ⟨n ++ (y.L ++ []),?_,fun c j=>?_,by rw [List.map_append,List.map_append,i];rfl⟩
        ·rw [List.map_append,List.map_append]
         exact keeps.append (.cons g .nil)
        ·rcases Gk.mp j with z | z
         ·exact .inl z
         ·rw [List.append_nil] at z;exact .inr z
      obtain ⟨l,g1,g2,g3⟩:=fin
      exact q (.dT (fN ps key y.v)) l ⟨.non,.non,[],.z⟩ (.dT aC g3 g1) rfl (fun c j=>(g2 c j).imp id fun h=>⟨y,Gb _ Ga,h⟩) rfl rfl .non fun c j=>by cases j
     ·exact nsE e
   | _=>exact nsE e
 | _=>exact nsE e
def tR (f g:D->List D->Option (D × D)) (a:D) (b:List D):Option (D × D):=match f a b with
 | some p=>some p
 | none=>g a b
theorem MutD.or {f g:D->List D->Option (D × D)} (h:MutD K r f) (h':MutD K r' g):MutD K (fun x y H Q=>r x y H Q\/r' x y H Q) (tR f g):=fun a d i as H Q p r m na ra c e q=>by
 unfold tR at e
 cases b:f d (as.map (·.d)) with
 | some p'=>rw [b] at e;cases e;exact .inl (h a d i as H Q _ r m na ra c b q)
 | none=>rw [b] at e;exact .inr (h' a d i as H Q p r m na ra c e q)
abbrev Br:=tR qN kP
theorem Fg:MutD K (md fun o i v H Q=>vf o i v H Q\/vg o i v H Q) Br:=fun a d c as H Q p r m na ra b e q=>by
 rcases MutD.or Cq Cr a d c as H Q p r m na ra b e q with ⟨k,v,h1,h2⟩ | ⟨k,v,h1,h2⟩
 ·exact ⟨k,v,h1,.inl h2⟩
 ·exact ⟨k,v,h1,.inr h2⟩
theorem Bp (hu:X.A.units+1 < cLine):AU X (fun o i v H Q=>vf o i v H Q\/vg o i v H Q):=by
 intro pins s σ H o i v ov a u Q I c b d h
 rcases h with h | h
 ·exact yD pins s σ H o i v ov a u Q I c b d h
 ·exact yF hu pins s σ H o i v ov a u Q I c b d h
end
end L3
end
section
namespace L3
open PySem L2
section
open PySem.Spec PyProof.Rows HT
variable {prog:Program} {w:World} {A:Around} {E:Value->Shared->Prop} {s:Shared}
theorem ja {lo hi:Option Int} (a:IsTup s.heap t items) (e:s.heap.IsSliceOf sl vl vu .none) (pl:IsPart vl lo) (pu:IsPart vu hi) (hw:sIx items.size 0 lo=0/\sIx items.size items.size hi=items.size) (h:Q (.ref t) s) (hsz:items.size<=sizeLine):wpAny (model prog w) A (getItem (.ref t) (.ref sl)) Q E s:=by
 obtain ⟨os,c,b,f⟩:=id e
 have d:s.TypeIs (.ref sl) "slice":=⟨os,c,b⟩
 unfold getItem
 try with_reducible refine F9 ?_
 first | refine F7 (F8 ?_) | skip
 refine F7 (wpAny_sequenceKey a.typeIs (by decide) ?_)
 refine F7 (wpAny_callSpecial?_slot (name:=Str.ofString "__getitem__") a.typeIs PyProof.Rows.slot_tuple_getitem
  (wpAny_call_entry PyProof.Rows.slot_tuple_getitem a.typeIs entry_tuple_getitem ?_ (args_tuple_getitem _ _)))
 show wpAny _ _ (Builtin.Tuple.tupleItemsOf (.ref t) >>= _) _ _ s
 refine F7 (tupleItemsOf_ a ?_)
 refine F7 (wpAny_typeOf d ?_)
 rw [if_pos (by decide)]
 refine F7 (eZ e pl pu ?_)
 show wpAny _ _ (if (((sIx items.size 0 lo:Nat):Int) == 0 && (1:Int) == 1 && (sIx items.size items.size hi - sIx items.size 0 lo) == items.size)=true then _ else _) _ _ s
 rw [if_pos (by simp [hw.1,hw.2])]
 refine F7 ?_
 unfold Builtin.Tuple.tupleIsExact
 refine F7 (wpAny_typeOf a.typeIs ?_)
 refine F8 ?_
 rw [if_pos (by decide)]
 exact F7 (wpAny_rule (F8 ⟨_,rfl,F8 h⟩))
end
section
variable {K:FG} {G G0:Gm} {W W0:D->Sto->Prop} {H H':Hp} {σ:St} {ρ ρ':Sto} {T T':List It3} {g:Nat->Option It3} {x y z:It3} {α β:Type} {X:Cx} {L:List Addr}
def zf (K:FG):V->Option Int->Option Int->Hp->VK->Prop:=fun x lo hi H Q=>∃ a xs,x=.ref a/\SqT K H a xs/\(HT.sIx xs.length 0 lo=0/\HT.sIx xs.length xs.length hi=xs.length)/\Q (.ref a) H
theorem Bi:SlR X (zf X.K):=by
 intro pins s σ H x v g f lo hi sl Q I d e pl pu h
 obtain ⟨a,xs,rfl,c,hw,q⟩:=h
 cases d
 obtain ⟨its,r,b,hz⟩:=I.tuple c
 have hlen:its.toArray.size=xs.length:=by rw [Gy];exact r.length.symm
 refine ⟨"tuple",_,PyProof.Rows.slot_tuple_getitem.lookup,b.typeIs,?_⟩
 exact ja b e pl pu (by rw [hlen];exact hw) ⟨.ref a,H,I,rfl,q⟩ (by rw [hlen];exact hz)
def asI:D->Option Int
 | .int i=>some i
 | _=>none
def kR:M3 (Option Int):=aZ none
def dW (m:EM):M3 (Option Int):=af m fun r=>af (der r) fun d=>ba ((asI d).map some)
def EndP (K:FG) (G:Gm) (W:D->Sto->Prop) (σ:St) (T:List It3) (ρ':Sto) (Q:Option Int->Hp->Prop):Except D (Option Int)->Prop
 | .ok b=>∀ H' g',Wf K G H' σ ρ' T g'->Q b H'
 | .error e=>W e ρ'
def tP (K:FG) (G0:Gm) (W0:D->Sto->Prop) (m:M3 (Option Int)):TO:=fun σ H Q=>∃ G W,Le K G W G0 W0/\∃ ρ T g r ρ',Wf K G H σ ρ T g/\m ρ=some (r,ρ')/\EndP K G W σ T ρ' Q r
structure RP (X:Cx) (G0:Gm) (W0:D->Sto->Prop) (e:Option Expr) (m:M3 (Option Int)):Prop where
 h:PO X e (tP X.K G0 W0 m)
theorem PO.imp (h:PO X e t) (f:∀ σ H Q,t' σ H Q->t σ H Q):PO X e t':=fun pins s σ H Q I q=>h pins s σ H Q I (f σ H Q q)
theorem BJ:RP X G0 W0 none kR:=⟨PO.imp B3 fun σ H Q h=>by
 obtain ⟨G,W,le,ρ,T,g,r,ρ',w,e,q⟩:=h
 cases e
 exact q _ _ w⟩
theorem BI (h:RE X G0 W0 e m):RP X G0 W0 (some e) (dW m):=⟨PO.imp (B0 h.h) fun σ H Q h=>by
 obtain ⟨G,W,le,ρ,T,g,r,ρ',w,e,q⟩:=h
 have a:∀ x,r=.error x->W x ρ':=fun x b=>by subst b;exact q
 refine tE.seq le w e a fun ra ρ1 e1 v H1 ⟨Ts,g1,f,a1⟩=>?_
 obtain ⟨d,s,n⟩:=aW e1
 obtain ⟨o,l,rfl,rfl⟩:=bN n
 obtain ⟨i,k,j⟩:=Ge.mp l
 subst j
 obtain ⟨y,p,f1,f2⟩:=a1.item f (fun x b=>Gf _ b) s
 have c:=(f.itm p).rep
 rw [f1] at c
 have hd:d=.int i:=by cases d <;> cases k;rfl
 rw [hd] at c
 refine ⟨i,by rw [<- f2];exact c.int_inv,q _ _ (f.sub (Gr Ts T))⟩⟩
def mSl (f:D->Option Int->Option Int->Option (D × Fl)) (ma:EM) (pl pu:M3 (Option Int)):EM:=af ma fun ra=>af pl fun lo=>af pu fun hi=>af (der ra) fun d=>ba ((f d lo hi).map fun p=>R3.val p.1 p.2)
def SlD (K:FG) (r:V->Option Int->Option Int->Hp->VK->Prop) (f:D->Option Int->Option Int->Option (D × Fl)):Prop:=∀ (a:It3) (lo hi:Option Int) (H:Hp) (Q:VK) (p:D × Fl),Arg K H a->f a.d lo hi=some p ->
 (∀ w H',New K H H' (dw [a]) w->w.d=p.1->w.f=p.2->Q w.v H')->r a.v lo hi H Q
theorem tP.seq (le:Le K G W G0 W0) (w:Wf K G H σ ρ T g) (e:af ma k ρ=some (r,ρ')) (he:∀ x,r=.error x->W x ρ') (h:∀ b ρ1,k b ρ1=some (r,ρ')->∀ H1 g1,Wf K G H1 σ ρ1 T g1->P b H1):tP K G0 W0 ma σ H P:=by
 unfold af at e
 cases q:ma ρ with
 | none=>rw [q] at e;exact nsE e
 | some p =>
  obtain ⟨o,ρ1⟩:=p
  rw [q] at e
  cases o with
  | error x=>cases e;exact ⟨G,W,le,ρ,T,g,.error x,ρ',w,q,he x rfl⟩
  | ok ra=>exact ⟨G,W,le,ρ,T,g,.ok ra,ρ1,w,q,h ra ρ1 e⟩
theorem tE_sl (hd:SlD K r f) (h:tE K G0 W0 (mSl f ma pl pu) σ H Q):tSl r (tE K G0 W0 ma) (tP K G0 W0 pl) (tP K G0 W0 pu) σ H Q:=by
 refine h.use fun G W le ρ T g o ρ' w e q=>?_
 refine tE.seq le w e q.err fun ra ρ1 e1 A H1 ⟨Ts,g1,u,a1⟩=>?_
 refine tP.seq le u e1 q.err fun lo ρ2 t H2 g2 m=>?_
 refine tP.seq le m t q.err fun hi ρ3 n j g3 c=>?_
 obtain ⟨d,v,l⟩:=aW n
 obtain ⟨p,a,rfl,rfl⟩:=bN l
 obtain ⟨y,i,f1,f2⟩:=a1.item c (fun x k=>Gf _ k) v
 subst f1 f2
 cases b:f y.d lo hi with
 | none=>rw [b] at a;exact nsE a
 | some s =>
  rw [b] at a
  cases a
  exact hd y lo hi j Q s (c.itm i).arg b (oV c (fun z hz=>by rw [GK.mp hz];exact i) q)
theorem Reps.take:∀ {ds:List D} {b:List V} {L:List Addr} (n:Nat),Reps (Rep K H) ds b L->∃ L',Reps (Rep K H) (ds.take n) (b.take n) L'/\∀ c ∈ L',c ∈ L
 | _,_,_,0,_=>⟨[],by simpa using Reps.nil,fun c a=>by cases a⟩
 | _,_,_,n+1,.nil=>⟨[],by simpa using Reps.nil,fun c a=>by cases a⟩
 | _,_,_,n+1,.cons (L:=L1) r rs=>by
  obtain ⟨L',h1,h2⟩:=Reps.take n rs
  exact ⟨L1 ++ L',by simpa using Reps.cons r h1,fun c a=>by
   rcases Gk.mp a with h | h
   ·exact Gf _ h
   ·exact Gg _ (h2 c h)⟩
theorem Reps.drop:∀ {ds:List D} {b:List V} {L:List Addr} (n:Nat),Reps (Rep K H) ds b L->∃ L',Reps (Rep K H) (ds.drop n) (b.drop n) L'/\∀ c ∈ L',c ∈ L
 | _,_,L,0,r=>⟨L,by simpa using r,fun c a=>a⟩
 | _,_,_,n+1,.nil=>⟨[],by simpa using Reps.nil,fun c a=>by cases a⟩
 | _,_,_,n+1,.cons r rs=>by
  obtain ⟨L',h1,h2⟩:=Reps.drop n rs
  exact ⟨L',by simpa using h1,fun c a=>Gg _ (h2 c a)⟩
theorem Reps.cut (lo hi:Option Int) (r:Reps (Rep K H) ds vs L):∃ L',Reps (Rep K H) (fj ds lo hi) (so vs lo hi) L'/\∀ c ∈ L',c ∈ L:=by
 unfold fj so
 rw [<- r.len]
 obtain ⟨d,h1,h2⟩:=r.drop (HT.sIx ds.length 0 lo)
 obtain ⟨L2,h3,a⟩:=h1.take (HT.sIx ds.length ds.length hi - HT.sIx ds.length 0 lo)
 exact ⟨L2,h3,fun c b=>h2 c (a c b)⟩
def slD:D->Option Int->Option Int->Option (D × Fl)
 | .lst xs,lo,hi=>some (.lst (fj xs lo hi),.u)
 | .fls xs,lo,hi=>some (.lst (fj xs lo hi),.u)
 | .tup xs,lo,hi=>some (.tup (fj xs lo hi),.z)
 | _,_,_=>none
theorem sd_sl:SlD K (fun x lo hi H Q=>EC K x lo hi H Q\/(EB K x lo hi H Q\/zf K x lo hi H Q)) slD:=fun a lo hi H Q p ra e q=>by
 obtain ⟨da,n,j,k⟩:=a
 have f:=ra
 obtain ⟨ra,m⟩:=ra
 dsimp only at ra e
 cases da with
 | lst xs =>
  obtain ⟨b,d,l,rfl,rfl,g,rs⟩:=ra.view
  cases e
  obtain ⟨L',h1,h2⟩:=rs.cut lo hi
  exact .inl ⟨b,d,rfl,SqL.of g,fun p i=>q ⟨_,.ref p,p :: L',.u⟩ _ (tX i h1 fun c h=>pR (y:=⟨.lst xs,.ref b,b :: l,k⟩) Ga f rfl rfl c (h2 c h)) rfl rfl⟩
 | fls xs =>
  obtain ⟨b,d,rfl,g,rs⟩:=ra.view
  cases e
  obtain ⟨L',h1,h2⟩:=rs.cut lo hi
  exact .inl ⟨b,d,rfl,g.sq,fun p i=>q ⟨_,.ref p,p :: L',.u⟩ _ (tX i h1 fun c h=>km (y:=⟨.fls xs,.ref b,j,k⟩) Ga f rfl c (h2 c h)) rfl rfl⟩
 | tup xs =>
  obtain ⟨b,d,rfl,g,rs⟩:=ra.view
  cases e
  by_cases hw:HT.sIx d.length 0 lo=0/\HT.sIx d.length d.length hi=d.length
  ·have h:fj xs lo hi=xs:=by
    unfold fj
    rw [rs.len,hw.1,hw.2,<- rs.len]
    simp
   rw [h] at q
   exact .inr (.inr ⟨b,d,rfl,SqT.of g,hw,q ⟨.tup xs,.ref b,j,.z⟩ H (rC (.tup g rs) (km (y:=⟨.tup xs,.ref b,j,k⟩) Ga f rfl)) rfl rfl⟩)
  ·obtain ⟨L',h1,h2⟩:=rs.cut lo hi
   exact .inr (.inl ⟨b,d,rfl,SqT.of g,hw,fun p i=>q ⟨_,.ref p,L',.z⟩ _ (zM i h1 fun c h=>km (y:=⟨.tup xs,.ref b,j,k⟩) Ga f rfl c (h2 c h)) rfl rfl⟩)
 | _=>exact nsE e
theorem DZ:SlR X (fun x lo hi H Q=>EC X.K x lo hi H Q\/(EB X.K x lo hi H Q\/zf X.K x lo hi H Q)):=sl_list.or (sl_tup.or Bi)
theorem y7 (he:RE X G0 W0 e m) (a:RP X G0 W0 lo pl) (hu:RP X G0 W0 hi pu):RE X G0 W0 (.Subscript e (.Slice lo hi none p2) pos) (mSl slD m pl pu):=⟨PE.imp (zw DZ he.h a.h hu.h) fun _ _ _ h=>tE_sl sd_sl h⟩
end
end L3
end
section
namespace L3
open PySem L2
mutual
def pyD:D->Option PyData
 | .non=>some .none
 | .bl b=>some (.bool b)
 | .int i=>some (.int i)
 | .str x=>some (.str x)
 | .tup xs=>(jm xs).map .tuple
 | .lst xs=>(jm xs).map .list
 | .fls xs=>(jm xs).map .list
 | .dk _=>none
 | .dt _=>none
 | .exc _ _=>none
def jm:List D->Option (List PyData)
 | []=>some []
 | d :: ds=>match pyD d,jm ds with
  | some p,some ps=>some (p :: ps)
  | _,_=>none
end
section
variable {K:FG} {H:Hp} {Ks:Addr->Prop} {d:D} {v:V} {L:List Addr} {X:Cx}
theorem Rep.dv (r:Rep K H d v L):∀ p,pyD d=some p->DV K H v p:=by
 refine Rep.rec (motive_1:=fun d v _ _=>∀ p,pyD d=some p->DV K H v p) (motive_2:=fun ds c _ _=>∀ ps,jm ds=some ps->DVs K H c ps) ?_ ?_ ?_ ?_ ?_ ?_ ?_ ?_ ?_ ?_ ?_ ?_ r
 ·intro p e;unfold pyD at e;cases e;exact .non
 ·intro _ p e;unfold pyD at e;cases e;exact .bl _
 ·intro _ p e;unfold pyD at e;cases e;exact .int _
 ·intro _ p e;unfold pyD at e;cases e;exact .str _
 ·intro xs a c L h _ b p e
  unfold pyD at e
  obtain ⟨ps,e1,rfl⟩:=Ge.mp e
  exact .tup (SqT.of h) (b ps e1)
 ·intro xs a c L h _ b p e
  unfold pyD at e
  obtain ⟨ps,e1,rfl⟩:=Ge.mp e
  exact .lst (SqL.of h) (b ps e1)
 ·intro xs a c L h _ b p e
  unfold pyD at e
  obtain ⟨ps,e1,rfl⟩:=Ge.mp e
  exact .lst h.sq (b ps e1)
 ·intro _ _ _ _ _ _ _ _ p e;unfold pyD at e;exact nsE e
 ·intro _ _ _ _ _ _ _ _ p e;unfold pyD at e;exact nsE e
 ·intros;rename_i e;unfold pyD at e;exact nsE e
 ·intro ps e;unfold jm at e;cases e;exact .nil
 ·intro d v L ds c L' _ _ g f ps e
  unfold jm at e
  cases h1:pyD d with
  | none=>rw [h1] at e;exact nsE e
  | some p =>
   cases h2:jm ds with
   | none=>rw [h1,h2] at e;exact nsE e
   | some qs=>rw [h1,h2] at e;cases e;exact .cons (g p h1) (f qs h2)
def eqP (a b:D):Option Bool:=match pyD a,pyD b with
 | some p,some q=>if p.canLay0 && q.canLay0 && decide (min p.depth q.depth<=30) then some (PyData.eqv p q) else none
 | _,_=>none
def eqA (a b:D):Option Bool:=match eqS a b with
 | some k=>some k
 | none=>eqP a b
abbrev eqX (a b:D):Option (D × Fl):=(eqA a b).map fun k=>(.bl k,.z)
abbrev neX (a b:D):Option (D × Fl):=(eqA a b).map fun k=>(.bl (!k),.z)
def rEqP:R2:=fun x y H Q=>∃ p q,DV X.K H x p/\DV X.K H y q/\p.canLay0=true/\q.canLay0=true/\min p.depth q.depth<=30/\Q (.bl (PyData.eqv p q)) H
def rNeP:R2:=fun x y H Q=>∃ p q,DV X.K H x p/\DV X.K H y q/\p.canLay0=true/\q.canLay0=true/\min p.depth q.depth<=30/\Q (.bl (!PyData.eqv p q)) H
theorem zE (hu:X.A.units+64 < cLine):OpR X (compareOp .Eq) (fun x y H Q=>rEq x y H Q\/rEqP (X:=X) x y H Q):=by
 intro pins s σ H x y v u Q I b a h
 rcases h with h | ⟨p,q,h1,h2,h3,d,e,c⟩
 ·exact op_eq pins s σ H x y v u Q I b a h
 ·obtain ⟨as,ra⟩:=DV.reads I h1 b
  obtain ⟨bs,rb⟩:=DV.reads I h2 a
  exact PySem.SeqAt.compareEq_reads ra rb h3 d (by omega) ⟨.bl _,H,I,rfl,c⟩
theorem E3 (hu:X.A.units+64 < cLine):OpR X (compareOp .NotEq) (fun x y H Q=>rNe x y H Q\/rNeP (X:=X) x y H Q):=by
 intro pins s σ H x y v u Q I b a h
 rcases h with h | ⟨p,q,h1,h2,h3,d,e,c⟩
 ·exact op_ne pins s σ H x y v u Q I b a h
 ·obtain ⟨as,ra⟩:=DV.reads I h1 b
  obtain ⟨bs,rb⟩:=DV.reads I h2 a
  exact PySem.SeqAt.compareNe_reads ra rb h3 d (by omega) ⟨.bl _,H,I,rfl,c⟩
theorem vP (e:eqP a b=some k):∃ p q,pyD a=some p/\pyD b=some q/\p.canLay0=true/\q.canLay0=true/\min p.depth q.depth<=30/\k=PyData.eqv p q:=by
 unfold eqP at e
 grind
theorem zI:OpD X.K (fun x y H Q=>rEq x y H Q\/rEqP (X:=X) x y H Q) eqX:=fun a b H Q p ra rb e q=>by
 obtain ⟨k,h1,h2⟩:=Ge.mp e
 subst h2
 unfold eqA at h1
 cases c:eqS a.d b.d with
 | some k' =>
  rw [c] at h1
  cases h1
  obtain ⟨s,l⟩:=As ra.rep rb.rep c
  exact .inl ⟨s,by rw [<- l];exact q ⟨.bl k,.bl k,[],.z⟩ H (dj (.bl k)) rfl rfl⟩
 | none =>
  rw [c] at h1
  obtain ⟨p,f,e1,i,h,j,g,rfl⟩:=vP h1
  exact .inr ⟨p,f,ra.rep.dv p e1,rb.rep.dv f i,h,j,g,q ⟨.bl _,.bl _,[],.z⟩ H (dj (.bl _)) rfl rfl⟩
theorem E9:OpD X.K (fun x y H Q=>rNe x y H Q\/rNeP (X:=X) x y H Q) neX:=fun a b H Q p ra rb e q=>by
 obtain ⟨k,h1,h2⟩:=Ge.mp e
 subst h2
 unfold eqA at h1
 cases c:eqS a.d b.d with
 | some k' =>
  rw [c] at h1
  cases h1
  obtain ⟨s,l⟩:=As ra.rep rb.rep c
  exact .inl ⟨s,by rw [<- l];exact q ⟨.bl (!k),.bl (!k),[],.z⟩ H (dj (.bl _)) rfl rfl⟩
 | none =>
  rw [c] at h1
  obtain ⟨p,f,e1,i,h,j,g,rfl⟩:=vP h1
  exact .inr ⟨p,f,ra.rep.dv p e1,rb.rep.dv f i,h,j,g,q ⟨.bl _,.bl _,[],.z⟩ H (dj (.bl _)) rfl rfl⟩
theorem At (h:pyD a=some p) (b:p.canLay0=true) (hd:p.depth<=30):eqP a a=some true:=by
 unfold eqP
 rw [h]
 simp [b,hd,PySem.SeqAt.eqv_refl p b]
end
end L3
end
section
namespace L3
open PySem L2
theorem FI {k:Nat} {nn:Nat} (F:Fun K x x st f fd) (S:FnScope N ps (ad st)) (c:mask.length=ps.length) (b:N.length=nn) (body:∀ (a:Value) (A:Around) (outer:List Env) (s:Shared) (H:Hp) (E:XK) (f:Addr) (G:Gm),Room k (A.deeper (PyProof.Rows.envOfC x (ad st) s.heap.objs.size f a))->G.pr=prM mask->RSs (d8 CX0 P w K mg base N x (ad st) f a A outer s H E).nox G noX (aE st) m) :
  FnOk P w K mg base CX0 (k+1) f fd ps (tf K (fnM mask nn m)):=by
 refine F.ok S (fun l H Q E h=>?_) fun a A outer s H l Q E e h=>?_
 ·obtain ⟨d,p,fs,rfl,_,_,g,_⟩:=h
  unfold fnM at g
  grind
 ·have hle:mask.length<=nn:=by
   rw [c,<- b]
   have:=congrArg List.length S.pre
   rw [GH] at this
   omega
  obtain ⟨G,i,j⟩:=p4 hle h
  subst b
  exact ⟨_,(body a A outer s H E f G e i).h,j⟩
def yr (K:FG):Sp:=fun b H Q _=>∃ (a:Addr) (ns:List Int),b=[.ref a]/\SqL K H a (ns.map V.int)/\C4 H/\ns.length<=63/\∀ H',Q (.bl true) H'
theorem oj:∀ ns:List Int,Reps (Rep K H) (ns.map D.int) (ns.map V.int) []
 | []=>.nil
 | n :: ns=>.cons (L:=[]) (.int n) (oj ns)
theorem Cw (d:∀ ns:List Int,ns.length<=63->∃ fs,F [(.fls (ns.map .int),.z)]=some (.ok (.bl true,.z),fs)) (h:yr K vs H Q E):tf K F vs H Q E:=by
 obtain ⟨a,ns,rfl,f,b,c,q⟩:=h
 obtain ⟨fs,e⟩:=d ns c
 have i:FzL K H a (ns.map V.int):=by
  rcases f with (h | h) | h
  ·rcases b a with z | ⟨o,xs,z⟩
   ·rw [h] at z;cases z
   ·rw [h] at z;cases z
  ·exact .inl h
  ·exact .inr h
 refine ⟨[⟨.fls (ns.map .int),.ref a,[],.z⟩],(.bl true,.z),fs,rfl,fun p g=>?_,.cons (fun _ h=>by cases h) .nil,e,fun x qs H' B x1 j _=>?_⟩
 ·rw [GK.mp g]
  exact ⟨.lstF i (oj ns),fun h=>absurd rfl h⟩
 ·have r:=B.rep
  rw [x1] at r
  have inv:∀ {v:V} {L:List Addr},Rep K H' (.bl true) v L->v=.bl true:=fun r=>by cases r;rfl
  rw [inv r]
  exact q H'
end L3
end
section
namespace L3
open PySem L2
def vD (ok:D->Bool) (f:List D->Option (D × Fl)) (c:EM) (ms:M3 (List R3)):EM:=af c fun a=>af (der a) fun b=>if ok b then af ms fun rs=>af (cR (a :: rs)) fun ds=>ba ((f ds).map fun p=>R3.val p.1 p.2) else fun _=>none
section
variable {K:FG} {G G0:Gm} {W W0:D->Sto->Prop} {H H':Hp} {σ:St} {ρ ρ':Sto} {T T':List It3} {g:Nat->Option It3} {x y z:It3} {α β:Type} {X:Cx} {v:V} {d:D} {L:List Addr}
theorem Be (E:cS K (fun xs H Q=>∃ x j,xs=x :: j/\r x j H Q) f) (hok:∀ d v L H,ok d=true->Rep K H d v L->tyV K Ty v H) (h:tE K G0 W0 (vD ok f mo ms) σ H Q) :
  tBM K Ty r (tE K G0 W0 mo) (tA K G0 W0 ms) σ H Q:=by
 refine h.use fun G W le ρ T g o ρ' w e q=>?_
 refine tE.seq le w e q.err fun N ρ1 e1 J H1 ⟨Ts,g1,l,a1⟩=>?_
 obtain ⟨n,F,c⟩:=aW e1
 cases m:ok n with
 | false=>rw [m] at c;exact nsE c
 | true =>
  rw [m] at c
  obtain ⟨y0,C,f0,f1⟩:=a1.item l (fun x i=>Gf _ i) F
  refine ⟨hok n J _ H1 m (by rw [<- f0,<- f1];exact (l.itm C).rep),?_⟩
  refine tA.seq le l c q.err fun rs ρ2 D j H2 Us g2 b a2=>?_
  obtain ⟨ds,u,A⟩:=bK D
  obtain ⟨p,a,rfl,rfl⟩:=bN A
  rw [<- List.append_assoc] at b
  obtain ⟨ys,t,f2,z⟩:=(Ars.cons a1 a2).items b (fun x i=>Gf _ i) u
  subst f2
  cases k:f (ys.map (·.d)) with
  | none=>rw [k] at a;exact nsE a
  | some s =>
   rw [k] at a
   cases a
   obtain ⟨M,I,h1,h2⟩:=E ys H2 Q s (fun y B=>(b.itm (t y B)).arg) k (oV b t q)
   rw [z] at h1
   cases h1
   exact h2
theorem u9 {id:String} (k:PlainAttrs Ty) (slot:Slot Ty nm id) (i:typeOf (.builtin id)=pure (.type "method_descriptor")) (hm:MtR X id r) (m:cS X.K (fun xs H Q=>∃ x j,xs=x :: j/\r x j H Q) f) (hok:∀ d v L H,ok d=true->Rep X.K H d v L->tyV X.K Ty v H) (n:RE X G0 W0 o mo) (l:RA X G0 W0 (e :: es) ms) (b:attributeBase o nm X.env (eval o X.env)=eval o X.env) (g:((backTo cpos (starEach (e :: es) X.env)).all (fun x=>!x.1) && (backToKw cpos (keywordEach [] X.env)).all (fun x=>x.1.isSome) && decide ((e :: es).length+([]:List Keyword).length+(if ([]:List Keyword).isEmpty then 0 else 1) < 30))=true) (c:(apos.endLine == cpos.line)=true) (p:starEach (e :: es) X.env=(false,eval e X.env) :: starEach es X.env) (a:(backTo cpos (starEach es X.env)).any (·.1)=false):RE X G0 W0 (.Call (.Attribute o nm apos) (e :: es) [] cpos) (vD ok f mo ms) :=
 ⟨PE.imp (Di k slot i hm n.h l.h b g c p a) fun _ _ _ h=>Be m hok h⟩
def aT:List D->Option (List Int)
 | []=>some []
 | .int i :: ds=>(aT ds).map (i :: ·)
 | _=>none
theorem dJ:∀ {ds:List D} {ns:List Int},aT ds=some ns->ds=ns.map D.int
 | [],ns,e=>by cases e;rfl
 | d :: ds,ns,e=>by
  cases d <;> try (exact nsE e)
  rename_i b
  obtain ⟨r,h1,h2⟩:=Ge.mp (show (aT ds).map (b :: ·)=some ns from e)
  subst h2
  rw [dJ h1];rfl
theorem Reps.ints:∀ {ns:List Int} {a:List V} {L:List Addr},Reps (Rep K H) (ns.map D.int) a L->a=ns.map V.int
 | [],_,_,.nil=>rfl
 | b :: bs,_,_,.cons r rs=>by
  rw [Reps.ints rs]
  cases r;rfl
end
end L3
end
section
namespace L3
open PySem L2
end L3
end
section
namespace L3
open PySem L2
section
variable {K:FG} {G G0:Gm} {W W0:D->Sto->Prop} {H H':Hp} {σ:St} {ρ ρ':Sto} {T T':List It3} {g:Nat->Option It3} {x y z:It3} {α β:Type} {X:Cx} {v:V} {d:D} {L:List Addr}
theorem Reps.rep (r:Reps (Rep K H) ds vs L):∀ n:Nat,∃ L',Reps (Rep K H) (List.replicate n ds).flatten (List.replicate n vs).flatten L'/\∀ c ∈ L',c ∈ L
 | 0=>⟨[],.nil,fun _ h=>by cases h⟩
 | n+1=>by
  obtain ⟨L',h1,h2⟩:=Reps.rep r n
  refine ⟨L ++ L',?_,fun c a=>?_⟩
  ·rw [List.replicate_succ,List.replicate_succ,List.flatten_cons,List.flatten_cons];exact r.append h1
  ·rcases Gk.mp a with h | h
   ·exact h
   ·exact h2 c h
def A0 (i j:Int):Prop:=0 < j/\j < 1267650600228229401496703205376
theorem zD:OpR X (binaryOp .FloorDiv) (rI A0 fun i j=>.int (i / j)):=opI fun i j _ _ _ _ _ a q=>by
 have h1:(0:Int) < j:=a.1
 have h2:j < 1267650600228229401496703205376:=a.2
 refine PyProof.Rows.floordiv_int (by omega) (by rw [Int.fdiv_eq_ediv_of_nonneg i (by omega)];exact q) (.inl (PyProof.noPylong_of_log2 ?_))
 have h3:j.natAbs < 2 ^ 100:=by omega
 exact Nat.lt_trans ((Nat.log2_lt (by omega)).mpr h3) (by decide)
abbrev xB:=b6 (fun _ j=>decide (0 < j/\j < 1267650600228229401496703205376)) fun i j=>.int (i / j)
theorem Cl:OpD K (rI A0 fun i j=>.int (i / j)) xB:=jU (fun i j h=>by simpa [A0] using h) fun i j _=>.int _
end
end L3
end
section
namespace L3
open PySem L2
end L3
end
section
namespace L3
open PySem L2
end L3
end
section
namespace L3
open PySem L2
end L3
theorem L2.Room.hu {k:Nat} (a:L2.Room k A):A.units+1 < PySem.cLine:=L2.hu_of a
end
section
namespace L3
open PySem L2
section
variable {K:FG} {G G0:Gm} {W W0:D->Sto->Prop} {H H':Hp} {σ:St} {ρ ρ':Sto} {T T':List It3} {g:Nat->Option It3} {x y z:It3} {α β:Type} {X:Cx} {v:V} {d:D} {L:List Addr}
def popF:D->List D->Option (D × D)
 | .lst xs,[]=>match xs.getLast? with
  | some (.int i)=>some (.lst xs.dropLast,.int i)
  | _=>none
 | _,_=>none
def idxQ:D->D->Option (D × Fl)
 | .lst xs,.bl true=>(eO xs).bind fun bs=>if bs.findIdx id < bs.length then some (.int (bs.findIdx id:Nat),.z) else none
 | _,_=>none
abbrev idxD:=c2 idxQ
theorem AE:cS K (fun xs H Q=>∃ x d,xs=x :: d/\∃ (a:Addr) (xs:List V) (k:V) (j:Nat),x=.ref a/\d=[k]/\SqL K H a xs/\gu k=true/\xs.all gu=true/\(∃ y,xs[j]?=some y/\eqV y k=true)/\(∀ (i:Nat) (y:V),i < j->xs[i]?=some y->eqV y k=false)/\Q (.int j) H) idxD:=fun ys H Q p ra e q=>by
 obtain ⟨y,z,rfl,c⟩:=mZ e
 clear e
 have g:=(ra y Ga).rep
 have h:=(ra z (Gb _ Ga)).rep
 obtain ⟨da,u,B,A⟩:=y
 obtain ⟨db,t,C,E⟩:=z
 dsimp only at g h c
 cases da with
 | lst xs =>
  obtain ⟨l,d,v,rfl,rfl,r,rs⟩:=g.view
  cases h with
  | bl b =>
   cases b with
   | false=>exact nsE c
   | true =>
    obtain ⟨bs,h1,h2⟩:=GJ.mp (show ((eO xs).bind fun bs=>if bs.findIdx id < bs.length then some ((.int (bs.findIdx id:Nat),.z):D × Fl) else none)=some p from c)
    split at h2
    ·rename_i m
     cases h2
     have s:=jY h1
     subst s
     have o:=rs.bls
     subst o
     refine ⟨.ref l,[.bl true],rfl,l,bs.map V.bl,.bl true,bs.findIdx id,rfl,rfl,SqL.of r,rfl,by simp [gu],⟨.bl (bs[bs.findIdx id]),by rw [Gu,Gi m];rfl,?_⟩,fun i w hi hw=>?_,q ⟨.int _,.int _,[],.z⟩ H (dj (.int _)) rfl rfl⟩
     ·have:=List.findIdx_getElem (p:=id) (w:=m)
      show (bs[bs.findIdx id] == true)=true
      simpa using this
     ·rw [Gu] at hw
      obtain ⟨b,n,rfl⟩:=Ge.mp hw
      have f:i < bs.length:=by omega
      have:=List.not_of_lt_findIdx (p:=id) hi
      rw [Gi f] at n
      cases n
      show (bs[i] == true)=false
      simpa using this
    ·exact nsE h2
  | _=>exact nsE c
 | _=>exact nsE c
def uh (x:Int):List Int->List Int
 | []=>[x]
 | y :: ys=>if x<=y then x :: y :: ys else y :: uh x ys
def srt:List Int->List Int
 | []=>[]
 | x :: xs=>uh x (srt xs)
theorem ku (x:Int):∀ l:List Int,(uh x l).Perm (x :: l)
 | []=>.refl _
 | y :: ys=>by
  unfold uh
  split
  ·exact .refl _
  ·exact ((ku x ys).cons y).trans (.swap x y ys)
theorem lO:∀ l:List Int,(srt l).Perm l
 | []=>.refl _
 | x :: xs=>(ku x (srt xs)).trans ((lO xs).cons x)
theorem k4 (x:Int):∀ {l:List Int},l.Pairwise (·<=·)->(uh x l).Pairwise (·<=·)
 | [],_=>by simp [uh]
 | y :: ys,h=>by
  unfold uh
  have h1:=List.pairwise_cons.mp h
  split
  ·rename_i a
   refine List.pairwise_cons.mpr ⟨fun z hz=>?_,h⟩
   rcases Gh.mp hz with rfl | hz
   ·exact a
   ·have:=h1.1 z hz
    omega
  ·rename_i a
   refine List.pairwise_cons.mpr ⟨fun z hz=>?_,k4 x h1.2⟩
   rcases Gh.mp ((ku x ys).subset hz) with rfl | hz
   ·omega
   ·exact h1.1 z hz
theorem ji:∀ l:List Int,(srt l).Pairwise (·<=·)
 | []=>.nil
 | x :: xs=>k4 x (ji xs)
theorem hU:∀ {l c:List Int},l.Perm c->l.Pairwise (·<=·)->c.Pairwise (·<=·)->l=c
 | [],c,p,_,_=>by rw [List.nil_perm.mp p]
 | a :: l,[],p,_,_=>by cases p.length_eq
 | a :: l,b :: c,p,h,h'=>by
  have h1:=List.pairwise_cons.mp h
  have h2:=List.pairwise_cons.mp h'
  have e:a=b:=by
   have d:=p.subset (Ga (a:=a) (l:=l))
   have f:=p.symm.subset (Ga (a:=b) (l:=c))
   rcases Gh.mp d with e | d
   ·exact e
   ·rcases Gh.mp f with e | f
    ·exact e.symm
    ·have:=h2.1 a d
     have:=h1.1 b f
     omega
  subst e
  rw [hU (List.Perm.cons_inv p) h1.2 h2.2]
theorem kO:∀ ns:List Int,Reps (Rep K H) (ns.map D.int) (ns.map V.int) []
 | []=>.nil
 | n :: ns=>.cons (L:=[]) (.int n) (kO ns)
end
end L3
end
section
namespace L3
open PySem L2
def XA (K:FG):D->Value->Option Addr->Hp->Prop:=fun e cls da _=>da=none/\∃ c C,e=.exc c []/\cls=.ref C/\XName K c C
abbrev kH (P:Program) (w:World) (K:FG) (mg:Str->Option Value) (base:Heap) (x:Str) (k:Nat) (ps:List Str) (F:Fn):Prop:=CalleeX P w K mg base x k ps (spF (XA K) K F)
abbrev C5 (P:Program) (w:World) (K:FG) (mg:Str->Option Value) (base:Heap) (x:Str) (k:Nat) (ps:List Str) (F:Fn):Prop:=CalleeN P w K mg base x k ps (tf K F)
structure Pas (X:Cx) (G0:Gm) (W0:D->Sto->Prop):Prop where
 fly:∀ (pins:List (Addr × Obj)) (σ:St) (H:Hp) (s:Shared) (e:Value) (s':Shared),Inv X pins σ H s->CXe X.prog X.w X.stack H s (EX (XA X.K) X.K G0 W0 σ) e s'->X.xe e s'
structure Mak (X:Cx) (G0:Gm) (W0:D->Sto->Prop):Prop where
 made:∀ (pins:List (Addr × Obj)) (σ:St) (H:Hp) (s s':Shared) (a C:Addr) (vs:List Value),Inv X pins σ H s->EX (XA X.K) X.K G0 W0 σ (.ref C) none H->Heap.MadeExcOf s.heap s'.heap a (.ref C) vs->s'.os=s.os->s'.gens=s.gens->X.xe (.ref a) s'
section
variable {X:Cx} {G G0:Gm} {W W0:D->Sto->Prop} {K:FG} {H H':Hp} {σ:St} {ρ ρ':Sto} {T T':List It3} {g:Nat->Option It3} {m:SM} {ms:M3 (List R3)} {st:Stmt} {sts:List Stmt} {x:Str} {p pos:Pos} {e:Expr} {es:List Expr} {k:Nat} {ps:List Str} {F:Fn}
theorem za (c:kH X.prog X.w X.K X.mg X.base x k ps F) (i:Room k X.A) (d:Pas X G0 W0) (f:RA X G0 W0 (e :: es) ms) (g:Gl X x) (a:(x == ("__debug__":Str))=false)
  (he:starEach (e :: es) X.env=(false,eval e X.env) :: starEach es X.env) (b:(backTo pos (starEach es X.env)).any (·.1)=false):RE X G0 W0 (.Call (.Name x p) (e :: es) [] pos) (gp F ms) :=
 ⟨PE.imp (ET c i d.fly f.h g a he b) fun _ _ _ h=>Bg h⟩
theorem zb (c:C5 X.prog X.w X.K X.mg X.base x k ps F) (i:RoomN k X.A) (d:Hd X) (f:RA X G0 W0 (e :: es) ms) (g:Gl X x) (a:(x == ("__debug__":Str))=false)
  (he:starEach (e :: es) X.env=(false,eval e X.env) :: starEach es X.env) (b:(backTo pos (starEach es X.env)).any (·.1)=false):RE X G0 W0 (.Call (.Name x p) (e :: es) [] pos) (ak F ms) :=
 ⟨PE.imp (EU c i d f.h g a he b) fun _ _ _ h=>qE h⟩
def quiet (m:SM):SM:=fun ρ=>match m ρ with
 | some (.ok f,ρ')=>some (.ok f,ρ')
 | _=>none
theorem Le.no (le:Le K G W G0 W0):Le K G noX G0 noX:=⟨le.pr,fun _ _ _ _ _ _ _ h=>h.elim⟩
theorem yi (h:tS K G0 W0 (quiet m) E σ H):tS K G0 noX m E σ H:=by
 refine h.use fun G W le ρ T g r ρ' w e q=>?_
 unfold quiet at e
 cases a:m ρ with
 | none=>rw [a] at e;exact nsE e
 | some z =>
  obtain ⟨o,ρ1⟩:=z
  rw [a] at e
  cases o with
  | error y=>exact nsE e
  | ok f=>cases e;exact tS.mk le.no w a (by cases f <;> exact q)
theorem yX (h:RS X.nox G0 noX st m):RS X G0 W0 st (quiet m):=⟨fun pins s σ H D I q=>wpAny_mono (h.h pins s σ H D (I.wish _) (yi q)) (fun _ _ z=>z.unwish) fun _ _ z=>z.elim⟩
def j8 (c:String) (ms:M3 (List R3)):SM:=af ms fun rs=>fun ρ=>if rs.length<=1000 then some (.error (.exc c []),ρ) else none
theorem Ars.lenV (a:Ars σ rs vs Ts):rs.length=vs.length:=by
 induction a with
 | nil=>rfl
 | cons _ _ ih=>rw [GG,GG,ih]
theorem yh (n:XName K c C) (h:tS K G0 W0 (j8 c ms) E σ H):yj (fun σ H1=>EX (XA K) K G0 W0 σ (.ref C) none H1) (tA K G0 W0 ms) E σ H:=by
 refine h.use fun G W le ρ T g r ρ' w e q=>?_
 refine tA.seq le w e q.err fun rs ρ1 e1 k H1 Ts g1 j a1=>?_
 rcases Decidable.em (rs.length<=1000) with a | a
 ·rw [if_pos a] at e1
  cases e1
  obtain ⟨ρ5,f,d,i,b⟩:=le.ex H1 σ _ _ g1 _ j q
  exact ⟨by rw [<- a1.lenV];exact a,_,ρ5,f,d,i,⟨rfl,c,C,rfl,rfl,n⟩,b⟩
 ·rw [if_neg a] at e1;exact nsE e1
theorem yW (n:XName X.K c C) (cl:ECls X.K X.mg x C) (mk:Mak X G0 W0) (g:X.calm=true) (d:Gl X x) (hd:(x == ("__debug__":Str))=false) (b:RA X G0 W0 [e] ms) (he:starEach [e] X.env=[(false,eval e X.env)]) :
  RS X G0 W0 (.Raise (some (.Call (.Name x np) [e] [] cpos)) none pos) (j8 c ms) :=
 ⟨PS.imp (zo cl g d hd b.h _ (fun pins σ H s s' a f I q hm h1 h2=>mk.made pins σ H s s' a C f I q hm h1 h2) he) fun _ _ _ h=>yh n h⟩
def tS1 (K:FG) (G:Gm) (W:D->Sto->Prop) (m:SM):TS:=fun E σ H=>∃ ρ g r ρ',Wf K G H σ ρ [] g/\m ρ=some (r,ρ')/\EndS K G W [] ρ' E r
theorem tS1.all (h:tS1 K G W m E σ H):tS K G W m E σ H:=by
 obtain ⟨ρ,g,r,ρ',w,e,q⟩:=h
 exact tS.mk (Le.refl K _ _) w e q
structure RS1 (X:Cx) (G0:Gm) (W0:D->Sto->Prop) (s:Stmt) (m:SM):Prop where
 h:PS X s (tS1 X.K G0 W0 m)
structure RSs1 (X:Cx) (G0:Gm) (W0:D->Sto->Prop) (s:List Stmt) (m:SM):Prop where
 h:PSs X s (tS1 X.K G0 W0 m)
theorem yT (h:RS1 X G0 W0 st m):RSs1 X G0 W0 [st] m:=⟨vp h.h⟩
end
end L3
end
section
namespace L3
open PySem L2
theorem sh {n:Nat} {E:XK} {ps:List It3} (hn:mask.length<=n) (ha:∀ p ∈ ps,Arg K H p) (hp:ps.Pairwise Apart3) (q:match o with
   | .ok p=>∀ x qs H',Behind K H H' ps qs x->x.d=p.1->x.f=p.2->qs.map (fun q=>(q.d,q.f))=fs->Q x.v H'
   | .error e=>∀ qs H' cls da,BehindX K H H' ps qs->qs.map (fun q=>(q.d,q.f))=fs->XA K e cls da H'->E cls da H') (l:fnM mask n m (ps.map fun p=>(p.d,p.f))=some (o,fs)) :
  ∃ (G:Gm) (W:D->Sto->Prop),G.pr=prM mask/\(∀ e ρ,W e ρ->∃ e',o=.error e')/\(∀ σ cls da H',EX (XA K) K G W σ cls da H'->E cls da H')/\tS1 K G W m { nx:=fun _ H'=>Q .non H',rt:=Q } ((ps.map (·.v)).map some ++ List.replicate (n - (ps.map (·.v)).length) none) H:=by
 unfold fnM at l
 rw [Go] at l
 split at l
 ·rename_i hl
  rw [<- kg] at l
  generalize y:List.zipWith cw mask ps=g at l
  have Z:g.length=ps.length:=by rw [<- y,List.length_zipWith];omega
  have U:g.map (·.v)=ps.map (·.v):=by
   refine List.ext_getElem? fun i=>?_
   rw [Gu,Gu]
   cases e:ps[i]? with
   | none=>rw [List.getElem?_eq_none (by have:=List.getElem?_eq_none_iff.mp e;omega)]
   | some u =>
    obtain ⟨b,_,t⟩:=jP (mask:=mask) hl e
    rw [y] at t
    rw [t]
    show some (cw b u).v=some u.v
    rw [(bf b u).2.1]
  have up:∀ (i:Nat) (u:It3),g[i]?=some u->∃ b s,mask[i]?=some b/\ps[i]?=some s/\u=cw b s:=fun i u e=>by rw [<- y] at e;exact oJ e
  have C:∀ u ∈ g,∃ b s,s ∈ ps/\u=cw b s:=fun u hu=>by
   obtain ⟨i,hi,e⟩:=List.mem_iff_getElem.mp hu
   obtain ⟨b,s,_,t,A⟩:=up i u (by rw [Gi hi,e])
   exact ⟨b,s,Gq t,A⟩
  have J:∀ u ∈ g,Arg K H u:=fun u hu=>by
   obtain ⟨b,s,h0,rfl⟩:=C u hu
   obtain ⟨e1,t,A,V⟩:=bf b s
   refine ⟨by rw [e1,t,A];exact (ha s h0).rep,fun hf=>?_⟩
   rw [e1,t,A]
   refine (ha s h0).own fun z=>hf ?_
   rcases V with f | f
   ·rw [f];exact z
   ·exact f
  have F:g.Pairwise Apart3:=by
   rw [List.pairwise_iff_getElem]
   intro i j hi hj lt
   obtain ⟨b,s,_,t,A⟩:=up i _ (Gi hi)
   obtain ⟨M,ae,_,ar,az⟩:=up j _ (Gi hj)
   have ap:=cu hp (fun _ _=>Apart3.symm) (Gx lt) t ar
   rw [A,az]
   obtain ⟨_,a2,Y,T⟩:=bf b s
   obtain ⟨_,b2,b3,b4⟩:=bf M ae
   exact ⟨ap.1.low a2 T b3,ap.2.low b2 b4 Y⟩
  have I:∀ (i:Nat) (u:It3),g[i]?=some u->u.f ≠ .z->prM mask i=true:=fun i u e hf=>by
   obtain ⟨b,s,e1,t,A⟩:=up i u e
   unfold prM
   rw [e1]
   cases b with
   | false=>rfl
   | true=>rw [A] at hf;exact absurd rfl hf
  have alls:∀ c,cT g c->cT ps c:=fun c ⟨u,hu,S⟩=>by
   obtain ⟨b,s,h0,rfl⟩:=C u hu
   exact ⟨s,h0,by rw [<- (bf b s).2.2.1];exact S⟩
  have lift:∀ {H':Hp} {qs:List It3},BehindX K H H' g qs->BehindX K H H' ps qs:=fun {H' qs} B=>by
   refine ⟨fun b o hb hn=>B.frame b o hb fun u hu hf U=>?_,Paired.ofGet ?_ fun k u v eu ev=>?_,B.apart⟩
   ·obtain ⟨M,s,h0,rfl⟩:=C u hu
    obtain ⟨_,t,_,V⟩:=bf M s
    rcases V with f | f
    ·exact hn s h0 (by rw [<- f];exact hf) (by rw [<- t];exact U)
    ·rw [f] at hf;cases hf
   ·rw [<- Z];exact Paired.length B.back
   ·obtain ⟨b,_,t⟩:=jP (mask:=mask) hl eu
    rw [y] at t
    have b1:=Paired.at B.back t ev
    obtain ⟨a1,a2,Y,T⟩:=bf b u
    refine ⟨fun hz=>?_,by rw [b1.v,a2],?_,b1.arg,fun c S=>(b1.src c S).imp id (alls c),fun hf M N=>?_⟩
    ·have:cw b u=u:=by
      cases b
      ·rfl
      ·obtain ⟨d,v,L,f⟩:=u
       have hz:f=.z:=hz
       subst hz;rfl
     rw [<- this]
     exact b1.z (by rw [this];exact hz)
    ·rcases b1.f with h | h
     ·rcases T with f | f
      ·exact .inl (h.trans f)
      ·exact .inr (h.trans f)
     ·exact .inr h
    ·rcases T with f | f
     ·exact b1.there (by rw [f];exact hf) M (by rw [a2];exact N)
     ·-- lowered: as it was
      obtain ⟨_,a,L',v1,v2,_⟩:=(ha u (Gq eu)).own (by rw [hf];intro q;cases q)
      rw [N] at v1;cases v1
      have O:=b1.z f
      have r:=b1.arg.rep
      rw [O,a1,a2,Y] at r
      exact (r.inH M (by rw [v2];exact Ga)).ex
  have ax:g.length<=n:=by omega
  have wf:=qw (K:=K) (H:=H) (n:=n) (pr:=prM mask) ax J F I
  rw [U] at wf
  have h0:∀ (i:Nat) (u:It3),g[i]?=some u->((ps.map (·.v)).map some ++ List.replicate (n - (ps.map (·.v)).length) none)[i]?=some (some u.v):=fun i u e=>j7 (by rw [<- U];exact vB e)
  unfold fn0 at l
  cases e:m (d6 n (g.map fun p=>(p.d,p.f))) with
  | none=>rw [e] at l;exact nsE l
  | some rr =>
   obtain ⟨r,ρ2⟩:=rr
   rw [e] at l
   refine ⟨gOf H (prM mask) ((ps.map (·.v)).map some ++ List.replicate (n - (ps.map (·.v)).length) none) g,fun P ρ=>r=.error P/\ρ = ρ2,rfl,fun P ρ hw=>?_,fun σ' cls da H' hx=>?_,d6 n (g.map fun p=>(p.d,p.f)),_,r,ρ2,wf,e,?_⟩
   ·obtain ⟨rfl,_⟩:=hw
    dsimp only at l
    cases w:du ρ2 0 (g.map fun p=>(p.d,p.f)) with
    | none=>rw [w] at l;exact nsE l
    | some fs'=>rw [w] at l;cases l;exact ⟨P,rfl⟩
   ·obtain ⟨P,ρ',T',g',w',xa,rfl,rfl⟩:=hx
    dsimp only at l
    cases w:du ρ' 0 (g.map fun p=>(p.d,p.f)) with
    | none=>rw [w] at l;exact nsE l
    | some fs' =>
     rw [w] at l
     cases l
     obtain ⟨qs,X,O,_⟩:=k8 (n:=n) J F I h0 w' w
     exact q qs H' cls da (lift X) O xa
   have fin:∀ {x:It3} {σ':St} {H':Hp} {g':Nat->Option It3} {d:D} {f:Fl},Wf K (gOf H (prM mask) ((ps.map (·.v)).map some ++ List.replicate (n - (ps.map (·.v)).length) none) g) H' σ' ρ2 [x] g'->x.d=d->x.f=f ->
     ((du ρ2 0 (g.map fun p=>(p.d,p.f))).map fun fs=>((.ok (d,f),fs):Except D (D × Fl) × List (D × Fl)))=some (o,fs)->Q x.v H':=fun {x σ' H' g' d f} R xd xf l=>by
    cases w:du ρ2 0 (g.map fun p=>(p.d,p.f)) with
    | none=>rw [w] at l;exact nsE l
    | some fs' =>
     rw [w] at l
     cases l
     obtain ⟨qs,B,O⟩:=m8 (n:=n) J F I h0 R w
     have X:=lift B.toBehindX
     exact q x qs H' ⟨X,B.rep,B.own,fun c S=>(B.src c S).imp id (alls c),B.apx⟩ xd xf O
   cases r with
   | error P=>exact ⟨rfl,rfl⟩
   | ok fl =>
    cases fl with
    | nx =>
     intro σ' H' g' R
     obtain ⟨Ts,g2,w2,a2⟩:=R.const .non
     obtain ⟨x,rfl,x1,x2,x3⟩:=a2.val_inv
     have:=fin w2 x1 x2 l
     rw [x3] at this
     exact this
    | br=>exact nsE l
    | ct=>exact nsE l
    | rt d f =>
     intro x σ' H' g' R x1 x2
     exact fin R x1 x2 l
 ·exact nsE l
theorem p5 {n:Nat} {ps:List It3} (h:fnM mask n m (ps.map fun p=>(p.d,p.f))=some r):ps.length=mask.length:=by
 unfold fnM at h
 grind
section
variable {P:Program} {w:World} {K:FG} {mg:Str->Option Value} {base:Heap} {x:Str} {st:Stmt} {k:Nat} {N ps:List Str} {mask:List Bool} {m:SM} {nn:Nat}
theorem pJ (S:FnScope N ps (ad st)) (a:mask.length=ps.length) (b:N.length=nn):mask.length<=nn:=by
 rw [a,<- b]
 have:=congrArg List.length S.pre
 rw [GH] at this
 omega
theorem jV (D:Def K mg x st) (S:FnScope N ps (ad st)) (c:mask.length=ps.length) (d:N.length=nn) (u:∀ (kV doc pm:Value) (an:Option Addr) (b ct:Value) (us:List Value),us.length=ps.length->bindArgs (PySem.W.fnOf x x (aQ st) (aE st) (ad st) .none kV doc pm an b ct) ⟨us,[]⟩=pure (ps.zip us))
  (body:∀ (b:Value) (A:Around) (outer:List Env) (s:Shared) (H:Hp) (E:XK) (f:Addr) (G:Gm) (W:L3.D->Sto->Prop),Room k (A.deeper (PyProof.Rows.envOfC x (ad st) s.heap.objs.size f b))->G.pr=prM mask->Pas (d8 (CXe P w) P w K mg base N x (ad st) f b A outer s H E) G W->Mak (d8 (CXe P w) P w K mg base N x (ad st) f b A outer s H E) G W->RSs (d8 (CXe P w) P w K mg base N x (ad st) f b A outer s H E) G W (aE st) m) :
  kH P w K mg base x (k+1) ps (fnM mask nn m):=by
 refine D.calleeX u fun f fd F=>F.okX S (fun l H Q E h=>?_) fun b A outer s H l Q E t h=>?_
 ·obtain ⟨g,o,fs,rfl,_,_,i,_⟩:=h
  rw [Go,p5 i,c]
 ·obtain ⟨g,o,fs,rfl,r,v,i,q⟩:=h
  obtain ⟨G,W,n,_,j,p⟩:=sh (E:=E) (pJ S c d) r v q i
  subst d
  refine ⟨_,(body b A outer s H E f G W t n ⟨fun pins σ H1 s1 e s' I hf=>DA I hf fun cls H'=>j σ cls none H'⟩ ⟨fun pins σ H1 s1 s' a C l I he hm h1 h2=>A4 I hm h1 h2 (j σ _ none _ he)⟩).h,p.all⟩
theorem CP (D:Def K mg x st) (S:FnScope N ps (ad st)) (c:mask.length=ps.length) (b:N.length=nn) (y:∀ (kV doc pm:Value) (an:Option Addr) (a ct:Value) (us:List Value),us.length=ps.length->bindArgs (PySem.W.fnOf x x (aQ st) (aE st) (ad st) .none kV doc pm an a ct) ⟨us,[]⟩=pure (ps.zip us))
  (body:∀ (a:Value) (A:Around) (outer:List Env) (s:Shared) (H:Hp) (E:XK) (f:Addr) (G:Gm),Room k (A.deeper (PyProof.Rows.envOfC x (ad st) s.heap.objs.size f a))->G.pr=prM mask->RSs1 (d8 CX0 P w K mg base N x (ad st) f a A outer s H E).nox G noX (aE st) m) :
  aH P w K mg base x (k+1) ps (fnM mask nn m):=by
 refine D.callee y fun f fd F=>F.ok S (fun n H Q E h=>?_) fun a A outer s H n Q E u h=>?_
 ·obtain ⟨d,p,fs,rfl,_,_,i,_⟩:=h
  rw [Go,p5 i,c]
 ·obtain ⟨d,p,fs,rfl,t,B,i,q⟩:=h
  obtain ⟨G,W,l,o,C,ρ,g,r,ρ',v,e,j⟩:=sh (E:=E0) (pJ S c b) t B q i
  subst b
  refine ⟨_,(body a A outer s H E f G u l).h,ρ,g,r,ρ',v,e,?_⟩
  cases r with
  | error er=>obtain ⟨_,z⟩:=o _ _ j;cases z
  | ok fl=>cases fl <;> exact j
theorem CO (D:Def K mg x st) (S:FnScope N ps (ad st)) (c:mask.length=ps.length) (b:N.length=nn) (o:∀ (kV doc pm:Value) (an:Option Addr) (a ct:Value) (us:List Value),us.length=ps.length->bindArgs (PySem.W.fnOf x x (aQ st) (aE st) (ad st) .none kV doc pm an a ct) ⟨us,[]⟩=pure (ps.zip us))
  (body:∀ (a:Value) (A:Around) (outer:List Env) (s:Shared) (H:Hp) (f:Addr) (G:Gm),RoomN k (A.deeper (PyProof.Rows.envOfC x (ad st) s.heap.objs.size f a))->Hd ((d8 CX0 P w K mg base N x (ad st) f a A outer s H E0).loud.wish fun _ _=>False)->G.pr=prM mask->RSs ((d8 CX0 P w K mg base N x (ad st) f a A outer s H E0).loud.wish fun _ _=>False) G noX (aE st) m) :
  C5 P w K mg base x (k+1) ps (fnM mask nn m):=by
 refine D.calleeN o fun f fd F=>F.okN S (fun g H Q E h=>?_) fun a A outer s H g Q l i h=>?_
 ·obtain ⟨j,p,fs,rfl,_,_,n,_⟩:=h
  rw [Go,p5 n,c]
 ·obtain ⟨G,d,e⟩:=p4 (pJ S c b) h
  subst b
  exact ⟨_,(body a A outer s H f G l i d).h,e⟩
end
end L3
end
section
namespace L3
open PySem L2
abbrev Cx.tried (X:Cx) (E:Value->Shared->Prop) (pn:List (Addr × Obj)):Cx:={ X with xe:=E,pn:=pn }
section
variable {X:Cx} {pins pins' pn:List (Addr × Obj)} {σ:St} {H H':Hp} {s:Shared} {E:Value->Shared->Prop}
theorem xo (I:Inv X pins σ H s) (E:Value->Shared->Prop):Inv (Cx.tried X E (X.pn ++ pins)) [] σ H s :=
 ⟨⟨I.ok.mod,I.ok.kind,I.ok.glob,I.ok.blt,I.ok.above,I.ok.inj,I.ok.has,I.ok.cab,I.ok.hd,I.ok.frames,I.ok.stk,I.ok.exf,I.ok.bs,I.ok.bsz,I.ok.noex,I.ok.exfs,I.ok.funs,I.ok.frf⟩,I.os,I.bare,I.base,I.loc,I.cell,I.free,I.freeC,(fun p a=>I.pin p (by rw [List.append_nil] at a;exact a)),I.hok,I.len⟩
theorem iC (I:Inv (Cx.tried X E (X.pn ++ pins)) pins' σ H s):Inv X pins σ H s :=
 ⟨⟨I.ok.mod,I.ok.kind,I.ok.glob,I.ok.blt,I.ok.above,I.ok.inj,I.ok.has,I.ok.cab,I.ok.hd,I.ok.frames,I.ok.stk,I.ok.exf,I.ok.bs,I.ok.bsz,I.ok.noex,I.ok.exfs,I.ok.funs,I.ok.frf⟩,I.os,I.bare,I.base,I.loc,I.cell,I.free,I.freeC,(fun p a=>I.pin p (Gf _ a)),I.hok,I.len⟩
end
def pv (cs:List String) (i:Nat) (mb mh:SM):SM:=fun ρ=>match mb ρ with
 | some (.error (.exc c []),ρ1)=>if c ∈ cs then (match mh (ρ1.set i (some (.exc c [],.z))) with
  | some (.ok (.rt d f),ρ2)=>some (.ok (.rt d f),ρ2)
  | _=>none) else none
 | some (.ok (.rt d f),ρ1)=>some (.ok (.rt d f),ρ1)
 | some (.ok .nx,ρ1)=>some (.ok .nx,ρ1)
 | _=>none
section
variable {X:Cx} {G0:Gm} {W0:D->Sto->Prop} {cs:List String} {i:Nat} {mb mh:SM} {cx n:Str} {CB:Addr} {cp hpos pos:Pos} {b0:Stmt} {body suite:List Stmt}
theorem Ej (P:X.stack=X.env :: X.outer) (O:X.env.frame=some X.env.locals) (hex:X.ex=[]) (hN:X.N.Nodup) (hg:Gl X cx) (hd:(cx == ("__debug__":Str))=false) (hm:X.mg cx=some (.ref CB))
  (Q:∀ c ∈ cs,∀ C,XName X.K c C->PySem.W.exmOne X.K (.ref C) (.ref CB)=some true) (hi:X.N[i]?=some n) (hl:X.env.scope.names.lookup n=some .local\/(X.env.scope.names.lookup n=some .cell/\X.fn n=true)) (hp:G0.pr i=false)
  (hb:∀ (E:Value->Shared->Prop) (pn:List (Addr × Obj)) (W:D->Sto->Prop),Pas (Cx.tried X E pn) G0 W->RSs (Cx.tried X E pn) G0 W body mb) (hh:∀ a ob cls,Hd (X.caught a ob cls)->RSs (X.caught a ob cls) G0 noX (b0 :: suite) mh) :
  RS1 X G0 W0 (.Try body [.ExceptHandler (some (.Name cx cp)) (some n) (b0 :: suite) hpos] [] [] pos) (pv cs i mb mh):=by
 refine ⟨fun pins s σ H D I h=>?_⟩
 obtain ⟨ρ,g,r,ρ',w,e,q⟩:=h
 refine wpAny_Try_except ?_
 have G:i < X.N.length:=(Gp.mp hi).1
 have y:Pas (Cx.tried X (fun e Z=>wpAny (model X.prog X.w) X.A (noteFrame e X.env) (fun _ s₂=>wpAny (model X.prog X.w) X.A (setFlight e none) (fun _ s₃=>wpAny (model X.prog X.w) X.A (handleBy e X.env [.ExceptHandler (some (.Name cx cp)) (some n) (b0 :: suite) hpos]) (SP X pins D) X.xe s₃) X.xe s₂) X.xe Z) (X.pn ++ pins)) G0 (fun j ρ1=>mb ρ=some (.error j,ρ1)):=by
  refine ⟨fun pins' σ' H1 s1 e' s' S hf=>?_⟩
  obtain ⟨a,cls,H2,rfl,F,j,ρ1,T',g',R,⟨_,c,C,rfl,rfl,nm⟩,B⟩:=hf
  have J:=iC S
  unfold pv at e
  rw [B] at e
  dsimp only at e
  rcases Decidable.em (c ∈ cs) with t | t
  ·rw [if_pos t] at e
   cases M:mh (ρ1.set i (some (.exc c [],.z))) with
   | none=>rw [M] at e;exact nsE e
   | some z =>
    obtain ⟨o,ρ2⟩:=z
    rw [M] at e
    cases o with
    | error _=>exact nsE e
    | ok fl =>
     cases fl with
     | nx=>exact nsE e
     | br=>exact nsE e
     | ct=>exact nsE e
     | rt d f =>
      cases e
      have hρ:i < ρ1.length:=by rw [<- R.len,S.len];exact G
      have nw:∀ ob,New X.K H2 (upd H2 a (lj ob a (.ref C))) (fun _=>False) ⟨.exc c [],.ref a,[],.z⟩:=fun ob=>⟨bv F.free,.exc nm aC,fun _ h=>(by cases h),fun h=>absurd rfl h⟩
      have V:=fun ob=>(R.push (nw ob) fun _ h=>h.elim).store (f:=.z) hρ hp (.inr rfl) (by intro h;cases h)
      refine uk (X:=X) (I:=J) F P O hex hN hg hd hm (Q c t C nm) hi hl fun s5 ob Y U=>?_
      refine wpAny_mono ((hh a ob _ Y).h pins s5 _ _ { nx:=fun _ _=>False,rt:=D.rt } U (tS.mk (Le.refl _ _ _) (V ob) M fun x σ3 H3 g3 w3 xd T=>q x σ3 H3 g3 (w3.sub (List.Sublist.cons_cons x (List.nil_sublist _))) xd T)) (fun f s6 p=>?_) fun _ _ z=>z.elim
      cases f with
      | ret u=>obtain ⟨v,σ6,m,l,L,k⟩:=p;exact ⟨v,u,σ6,m,rfl,l,L,k⟩
      | next=>obtain ⟨_,_,_,z⟩:=p;exact z.elim
      | brk=>obtain ⟨_,_,_,z⟩:=p;exact z.elim
      | cont=>obtain ⟨_,_,_,z⟩:=p;exact z.elim
  ·rw [if_neg t] at e;exact nsE e
 have b:∀ (o:Except L3.D Flw) (ρ1:Sto),mb ρ=some (o,ρ1)->EndS X.K G0 (fun j ρ1=>mb ρ=some (.error j,ρ1)) [] ρ1 { nx:=D.nx,rt:=D.rt } o:=fun o ρ1 em=>by
  unfold pv at e
  rw [em] at e
  cases o with
  | error j=>exact em
  | ok fl =>
   cases fl with
   | nx=>cases e;exact q
   | br=>exact nsE e
   | ct=>exact nsE e
   | rt d f=>cases e;exact q
 cases em:mb ρ with
 | none=>unfold pv at e;rw [em] at e;exact nsE e
 | some z =>
  obtain ⟨o,ρ1⟩:=z
  refine wpAny_mono ((hb _ _ _ y).h [] s σ H { nx:=D.nx,rt:=D.rt } (xo I _) (tS.mk (Le.refl _ _ _) w em (b o ρ1 em))) (fun f s1 h1=>?_) fun _ _ z=>z
  cases f with
  | ret u=>obtain ⟨v,σ6,m,l,L,k⟩:=h1;exact ⟨v,σ6,m,iC l,L,k⟩
  | next=>obtain ⟨σ6,m,l,k⟩:=h1;refine wpAny_of_eq (show execs [] X.env=pure .next from by simp only [execs]) ?_;exact ⟨σ6,m,iC l,k⟩
  | brk=>obtain ⟨_,_,_,z⟩:=h1;exact z.elim
  | cont=>obtain ⟨_,_,_,z⟩:=h1;exact z.elim
end
theorem xL (f:∀ u,RelV t u->u=cv):CallR X (.builtin "isinstance") (fun xs H Q=>∃ a c C b ob,xs=[.ref a,t]/\H a=some (lj ob a (.ref C))/\XName X.K c C/\PySem.W.kitOne X.K (.ref C) cv=some b/\Q (.bl b) H):=by
 intro pins s σ H xs us Q I r h
 obtain ⟨a,c,C,b,ob,rfl,e,nm,j,q⟩:=h
 obtain ⟨u,v,rfl,d,i⟩:=lK r
 cases (show u=Value.ref a from d)
 cases f v i
 have g:=(I.hok a _ e).2.1
 exact PySem.W.kia_one (z7 (x:=a) nm.ex) I.kIn ⟨g⟩ j (by intro z;cases z) fun tk=>⟨.bl b,H,I.tok _,rfl,q⟩
def jR (cs:List (String × Bool)):D->Option (D × Fl)
 | .exc c []=>(cs.lookup c).map fun b=>(.bl b,.z)
 | _=>none
section
variable {X:Cx} {G0:Gm} {W0:D->Sto->Prop}
theorem vd (i:∀ u,RelV t u->u=cv) (hf:∀ c b,cs.lookup c=some b->∀ C,XName X.K c C->PySem.W.kitOne X.K (.ref C) cv=some b) (j:Gl X "isinstance") (hm:X.mg "isinstance"=none) (l:PE X (.Name tn pT) (tC t)) (n:RE X G0 W0 a ma) (d:starEach [a,.Name tn pT] X.env=(false,eval a X.env) :: starEach [.Name tn pT] X.env) (f:starEach [.Name tn pT] X.env=(false,eval (.Name tn pT) X.env) :: starEach [] X.env) (g:(backTo pos (starEach [.Name tn pT] X.env)).any (·.1)=false):RE X G0 W0 (.Call (.Name "isinstance" p) [a,.Name tn pT] [] pos) (mUn (jR cs) ma) :=
 ⟨PE.imp (jI (xL i) j hm jZ (fP n.h (fP l mj f) d) (by decide) (by decide) d g) fun σ H Q h=>by
  have h:=yk (r:=fun x H Q=>∃ a c C b ob,x=.ref a/\H a=some (lj ob a (.ref C))/\XName X.K c C/\PySem.W.kitOne X.K (.ref C) cv=some b/\Q (.bl b) H) (fun a H Q p ra e q=>by
   obtain ⟨da,s,w,v⟩:=a
   have ra:=ra.rep
   dsimp only at ra
   cases da with
   | exc c fs =>
    obtain ⟨rfl,rfl,m,C,ob,rfl,nm,o⟩:=ra.view
    obtain ⟨b,h1,h2⟩:=Ge.mp (show (cs.lookup c).map (fun b=>((.bl b,.z):D × Fl))=some p from e)
    subst h2
    exact ⟨m,c,C,b,ob,rfl,o,nm,hf c b h1 C nm,q ⟨.bl b,.bl b,[],.z⟩ H (dj (.bl _)) rfl rfl⟩
   | _=>exact nsE e) h
  refine uR h fun x H1 ⟨a,c,C,b,ob,k,h1,h2,h3,q⟩=>?_
  exact ⟨a,c,C,b,ob,by rw [k],h1,h2,h3,q⟩⟩
end
def cntBQ:D->D->Option (D × Fl)
 | .lst xs,.bl k=>(eO xs).map fun bs=>(.int (bs.count k:Nat),.z)
 | _,_=>none
abbrev Dy:=c2 cntBQ
theorem xG:cS K (fun xs H Q=>∃ x c,xs=x :: c/\∃ (a:Addr) (bs:List Bool) (k:Bool),x=.ref a/\c=[.bl k]/\SqL K H a (bs.map V.bl)/\Q (.int (bs.count k:Nat)) H) Dy:=fun ys H Q p ra e q=>by
 obtain ⟨y,z,rfl,b⟩:=mZ e
 clear e
 have d:=(ra y Ga).rep
 have f:=(ra z (Gb _ Ga)).rep
 obtain ⟨da,s,n,m⟩:=y
 obtain ⟨db,l,o,r⟩:=z
 dsimp only at d f b
 cases da with
 | lst xs =>
  cases db with
  | bl k =>
   obtain ⟨g,c,t,rfl,rfl,h,rs⟩:=d.view
   obtain ⟨rfl,rfl⟩:=f.view
   obtain ⟨bs,h1,h2⟩:=Ge.mp (show (eO xs).map (fun bs=>((.int (bs.count k:Nat),.z):D × Fl))=some p from b)
   subst h2
   have i:=jY h1
   subst i
   have j:=rs.bls
   subst j
   exact ⟨_,_,rfl,g,bs,k,rfl,rfl,SqL.of h,q ⟨_,_,[],.z⟩ H (dj (.int _)) rfl rfl⟩
  | _=>exact nsE b
 | _=>exact nsE b
def nX (p:PyData):Option (D × Fl):=if p.showable && !p.hasDict && decide (p.depth<=16) && decide (p.shown.length<=16777216) then some (.str p.shown,.z) else none
def reprQ:D->Option (D × Fl)
 | .str t=>if (reprText t).length<=16777216 then some (.str (reprText t),.z) else none
 | .tup xs=>(pyD (.tup xs)).bind nX
 | _=>none
abbrev om:=c1 reprQ
def Df (K:FG):List V->Hp->VK->Prop:=fun xs H Q=>(∃ (a:Addr) (d:PyData),xs=[.ref a]/\DV K H (.ref a) d/\d.showable=true/\d.hasDict=false/\d.depth<=16/\d.shown.length<=sizeLine/\Q (.str d.shown) H)\/∃ t:Str,xs=[.str t]/\(reprText t).length<=sizeLine/\Q (.str (reprText t)) H
theorem uz (a:X.A.guards=some []) (hu:X.A.units+64 < cLine):CallR X (.builtin "repr") (Df X.K):=(xI a hu).or uy
theorem CW:cS K (Df K) om:=fun ys H Q p ra e q=>by
 obtain ⟨y,rfl,b⟩:=iK e
 have c:=(ra y Ga).rep
 obtain ⟨da,n,l,m⟩:=y
 dsimp only at c b
 cases da with
 | str t =>
  obtain ⟨rfl,rfl⟩:=c.view
  rcases Decidable.em ((reprText t).length<=16777216) with f | f
  ·have b:=(if_pos f).symm.trans b
   cases b
   exact .inr ⟨t,rfl,by rw [sizeLine_eq];exact f,q ⟨_,_,[],.z⟩ H (dj (.str _)) rfl rfl⟩
  ·exact nsE ((if_neg f).symm.trans b)
 | tup xs =>
  obtain ⟨d,h1,h2⟩:=GJ.mp (show (pyD (.tup xs)).bind nX=some p from b)
  have dv:=c.dv d h1
  obtain ⟨a,o,rfl,_⟩:=c.view
  unfold nX at h2
  rcases hb:(d.showable && !d.hasDict && decide (d.depth<=16) && decide (d.shown.length<=16777216)) with _ | _
  ·rw [hb] at h2;exact nsE h2
  ·rw [hb] at h2
   cases h2
   obtain ⟨h3,j⟩:=Bool.and_eq_true_iff.mp hb
   obtain ⟨g,i⟩:=Bool.and_eq_true_iff.mp h3
   obtain ⟨h,k⟩:=Bool.and_eq_true_iff.mp g
   exact .inl ⟨a,d,rfl,dv,h,by simpa using k,of_decide_eq_true i,by rw [sizeLine_eq];exact of_decide_eq_true j,q ⟨_,_,[],.z⟩ H (dj (.str _)) rfl rfl⟩
 | _=>exact nsE b
theorem qm:bootBuiltins "ValueError"=some (.type "ValueError"):=by decide +kernel
def IsX (K:FG) (a:Value) (cs:List (String × Bool)):Prop:=∀ c b,cs.lookup c=some b->∀ C,XName K c C->PySem.W.kitOne K (.ref C) a=some b
def ExX (K:FG) (CB:Addr) (cs:List String):Prop:=∀ c ∈ cs,∀ C,XName K c C->PySem.W.exmOne K (.ref C) (.ref CB)=some true
theorem IsX.nil:IsX K cv []:=fun _ _ h=>nomatch h
theorem IsX.cons {K:FG} {d:Value} {r:String} {C:Addr} {b:Bool} {cs:List (String × Bool)} (n:XName K r C) (h:PySem.W.kitOne K (.ref C) d=some b) (t:IsX K d cs):IsX K d ((r,b) :: cs):=fun c i e g f=>by
 rw [List.lookup_cons] at e
 cases a:c == r with
 | true =>
  rw [a] at e
  cases e
  cases beq_iff_eq.mp a
  rw [f.inj n];exact h
 | false=>rw [a] at e;exact t c i e g f
theorem ExX.nil:ExX K CB []:=fun _ h=>nomatch h
theorem ExX.cons {K:FG} {CB:Addr} {r:String} {C:Addr} {cs:List String} (n:XName K r C) (h:PySem.W.exmOne K (.ref C) (.ref CB)=some true) (t:ExX K CB cs):ExX K CB (r :: cs):=fun c e b a=>by
 rcases Gh.mp e with e | e
 ·cases e;rw [a.inj n];exact h
 ·exact t c e b a
end L3
namespace L2
theorem RoomN.units {k:Nat} (r:RoomN k A):A.units+64 < PySem.cLine:=by have:=r.un;omega
theorem RoomN.hu {k:Nat} (r:RoomN k A):A.units+1 < PySem.cLine:=by have:=r.un;omega
end L2
end
section
namespace L3
open PySem L2
end L3
end
section
namespace L3
open PySem L2
section
variable {K:FG} {h:Heap} {mg:Str->Option Value}
theorem tK (e:iZ K n=true):PySem.W.nsIn K mainGlobals n=some (some (.ref (ah K n))):=by
 unfold iZ at e
 split at e
 ·rename_i a b;unfold ah;rw [b]
 ·cases e
theorem dU {l:List Str} (X:K.In h) (G:h.Ns mainGlobals mg) (e:l.map (iZ K)=l.map fun _=>true) (i:Nat) (hi:l[i]?=some n):mg n=some (.ref (ah K n)):=PySem.W.mg_of X G (tK (mn e i hi))
theorem df {α:Type} {l r:List α} (e:l=r) (i:Nat) {a b:α} (h:l[i]?=some a) (k:r[i]?=some b):a=b:=by rw [e,k] at h;exact (GU h).symm
theorem AB {l:List String} (X:K.In h) (G:h.Ns mainGlobals mg) (d:p9 K=lE) (e:l.map (fun r:String=>vX K r)=l.map fun _:String=>qb) (i:Nat) (hi:l[i]?=some r):XName K r (ah K r)/\ECls K mg r (ah K r):=by
 have e:=mn e i hi
 unfold vX qb at e
 unfold p9 lE at d
 simp only [Prod.mk.injEq] at e d
 obtain ⟨a,e1,f,c,j,b,g,k⟩:=e
 exact ⟨⟨tK a,⟨e1,f,c,j,d.1,d.2,b,g⟩⟩,⟨PySem.W.mg_of X G (tK a),k⟩⟩
end
end L3
end
section
namespace L3
open PySem L2
end L3
end
section
namespace L3
open PySem L2
section
variable {K:FG} {G G0:Gm} {W W0:D->Sto->Prop} {H H':Hp}
def ntD (n:List Int):D:=.tup (n.map D.int)
theorem ug:∀ n:List Int,aT (n.map D.int)=some n
 | []=>rfl
 | a :: n=>by
  show (aT (n.map D.int)).map _=_
  rw [ug n];rfl
theorem fM:∀ n:List Int,Reps (Rep K H) (n.map D.int) (n.map V.int) []
 | []=>.nil
 | a :: n=>.cons (L:=[]) (.int a) (fM n)
end
end L3
end
section
namespace L3
open PySem L2
section
variable {K:FG} {G G0:Gm} {W W0:D->Sto->Prop} {H H':Hp}
def jn:D->List D->Option (D × D)
 | .lst xs,[.int i]=>if 0<=i/\i < 16777216 then match xs[i.toNat]? with
  | some (.tup ys)=>(aT ys).map fun _=>(.lst (xs.eraseIdx i.toNat),.tup ys)
  | _=>none
  else none
 | _,_=>none
theorem Reps.popAt:∀ {ds:List D} {b:List V} {L:List Addr} {k:Nat} {ns:List Int},Reps (Rep K H) ds b L->ds[k]?=some (.tup (ns.map D.int))->∃ a,b[k]?=some (.ref a)/\H a=some (.tup (ns.map V.int))/\Reps (Rep K H) (ds.eraseIdx k) (b.eraseIdx k) L
 | _,_,_,k,ns,.nil,e=>by simp at e
 | _,_,_,0,ns,.cons (L:=L1) (L':=L2) r rs,e=>by
  simp only [List.getElem?_cons_zero,Option.some.injEq] at e
  subst e
  cases r with
  | @tup _ a b _ ha hr =>
   have c:b=ns.map V.int:=Reps.ints hr
   have d:L1=[]:=by
    have:∀ {ns:List Int} {b:List V} {L:List Addr},Reps (Rep K H) (ns.map D.int) b L->L=[]:=fun {ns}=>by
     induction ns with
     | nil=>intro b L r;cases r;rfl
     | cons n ns ih=>intro b L r;cases r with | cons r rs=>cases r;rw [ih rs];rfl
    exact this hr
   subst d
   exact ⟨a,rfl,by rw [<- c];exact ha,by simpa using rs⟩
 | _,_,_,k+1,ns,.cons (L:=L1) r rs,e=>by
  simp only [List.getElem?_cons_succ] at e
  obtain ⟨a,h1,h2,h3⟩:=Reps.popAt rs e
  exact ⟨a,by simpa using h1,h2,by simpa using Reps.cons r h3⟩
theorem zT:MutD K zg jn:=fun a d t as H Q p r m na ra v e q=>by
 cases d with
 | lst xs =>
  obtain ⟨_,f,_,e1,B,k,rs⟩:=r.view
  cases e1
  cases B
  match as,e,ra,v with
  | [],e,_,_=>exact nsE e
  | y :: z :: r,e,_,_=>cases w:y.d <;> (rw [show jn (.lst xs) ((y :: z :: r).map (·.d))=none by simp [jn,w]] at e;exact nsE e)
  | [y],e,ra,v =>
   have s:=ra y Ga
   have e:jn (.lst xs) [y.d]=some p:=e
   obtain ⟨x,E,C,F⟩:=y
   dsimp only at s e
   cases x with
   | int i =>
    cases s
    have e:(if 0<=i/\i < 16777216 then match xs[i.toNat]? with | some (.tup ys)=>(aT ys).map fun _=>((.lst (xs.eraseIdx i.toNat),.tup ys):D × D) | _=>none else none)=some p:=e
    by_cases hi:0<=i/\i < 16777216
    ·rw [if_pos hi] at e
     cases g:xs[i.toNat]? with
     | none=>rw [g] at e;exact nsE e
     | some u =>
      rw [g] at e
      obtain ⟨ys,rfl⟩:∃ ys,u=.tup ys:=by
       cases u <;> first | exact nsE e | exact ⟨_,rfl⟩
      obtain ⟨ns,h1,h2⟩:=Ge.mp (show (aT ys).map (fun _=>((.lst (xs.eraseIdx i.toNat),.tup ys):D × D))=some p from e)
      have A:=dJ h1
      subst A h2
      obtain ⟨b,v1,v2,v3⟩:=rs.popAt g
      have G:i.toNat < f.length:=(Gp.mp v1).1
      refine ⟨a,f,i,i.toNat,.ref b,rfl,rfl,k,by omega,by omega,?_,v1,?_⟩
      ·exact (seqIndex_of hi.1 (by omega))
      have ma:MutAt H a:=.inl ⟨_,k⟩
      have j:b ≠ a:=fun z=>by rw [z,k] at v2;cases v2
      have keeps:Reps (Rep K (upd H a (.lst (f.eraseIdx i.toNat)))) (xs.eraseIdx i.toNat) (f.eraseIdx i.toNat) t:=v3.keep (M:=fun b=>b=a) (fun b o l h=>by rw [ao h];exact l) (fun b e=>by rw [e];exact ma) fun b l e=>na (by rw [<- e];exact l)
      exact q (.lst (f.eraseIdx i.toNat)) t ⟨.tup (ns.map D.int),.ref b,[],.z⟩ (.lst aC keeps) rfl (fun c n=>.inl n) rfl rfl (.tup (by rw [ao j];exact v2) (fM ns)) fun c n=>by cases n
    ·rw [if_neg hi] at e;exact nsE e
   | _=>exact nsE e
 | _=>exact nsE e
end
end L3
end
section
namespace L3
open PySem L2
section
variable {K:FG} {H H':Hp}
theorem u6:∀ {ns:List (List Int)} {bs:List Addr},bs.length=ns.length->(∀ (i:Nat) (b:Addr) (n:List Int),bs[i]?=some b->ns[i]?=some n->H b=some (.tup (n.map V.int)))->Reps (Rep K H) (ns.map ntD) (bs.map V.ref) []
 | [],[],_,_=>.nil
 | [],_ :: _,h,_=>by cases h
 | _ :: _,[],h,_=>by cases h
 | n :: ns,b :: bs,h,q=>.cons (L:=[]) (.tup (q 0 b n rfl rfl) (fM n)) (u6 (by simpa using h) fun i b n e1 a=>q (i+1) b n (by simpa using e1) (by simpa using a))
end
end L3
end
section
namespace L3
open PySem L2
end L3
end
section
namespace L3
open PySem L2
section
variable {K:FG} {H H':Hp}
def kI:List D->Option (List (List Int))
 | []=>some []
 | .tup ys :: ds=>(aT ys).bind fun n=>(kI ds).map (n :: ·)
 | _=>none
theorem qB:∀ {ds:List D} {ns:List (List Int)},kI ds=some ns->ds=ns.map ntD
 | [],ns,h=>by cases h;rfl
 | d :: ds,ns,h=>by
  cases d with
  | tup ys =>
   obtain ⟨n,h1,h2⟩:=GJ.mp (show ((aT ys).bind fun n=>(kI ds).map (n :: ·))=some ns from h)
   obtain ⟨ms,h3,a⟩:=Ge.mp h2
   rw [qB h3,<- a,dJ h1];rfl
  | _=>exact nsE h
def CC (ns:List (List Int)):Bool:=ns.all (fun n=>!n.isEmpty) || (match ns with | [] :: _=>true | _=>false)
theorem CA (h:CC ns=true):kOk ns:=by
 rcases Bool.or_eq_true_iff.mp h with h | h
 ·refine .inl fun n a z=>?_
  have:=List.all_eq_true.mp h n a
  subst z;simp at this
 ·refine .inr ?_
  grind
def DY:D->Option (D × Fl)
 | .lst ds=>(kI ds).bind fun ns=>if (CC ns && decide (ns.length<=16777216))=true then (bq ns).bind fun is=>if (decide (is.length<=16777216) && is.all fun i=>decide (i < ns.length))=true then some (.lst (is.map fun i=>ntD (ns.getD i [])),.u) else none else none
 | _=>none
abbrev lP:=c1 DY
theorem oi:∀ {ns:List (List Int)} {c:List V} {L:List Addr},Reps (Rep K H) (ns.map ntD) c L->∃ bs:List Addr,c=bs.map V.ref/\ns.length=bs.length/\∀ (i:Nat) (b:Addr) (n:List Int),bs[i]?=some b->ns[i]?=some n->H b=some (.tup (n.map V.int))
 | [],_,_,.nil=>⟨[],rfl,rfl,fun i b n e=>by simp at e⟩
 | n :: ns,_,_,.cons r rs=>by
  obtain ⟨bs,e1,g,f⟩:=oi rs
  cases r with
  | @tup _ a c _ ha hr =>
   have d:c=n.map V.int:=Reps.ints hr
   subst d e1
   refine ⟨a :: bs,rfl,by simp [g],fun i b m h1 h2=>?_⟩
   cases i with
   | zero=>cases h1;cases h2;exact ha
   | succ i=>exact f i b m (by simpa using h1) (by simpa using h2)
theorem AD:cS K (ze K) lP:=fun ys H Q p ra e q=>by
 obtain ⟨y,rfl,d⟩:=iK e
 clear e
 have e:=d
 clear d
 have k:=(ra y Ga).rep
 obtain ⟨da,A,E,D⟩:=y
 dsimp only at k e
 cases da with
 | lst ds =>
  obtain ⟨ns,h1,h2⟩:=GJ.mp (show ((kI ds).bind fun ns=>_)=some p from e)
  by_cases f:(CC ns && decide (ns.length<=16777216))=true
  ·rw [if_pos f] at h2
   obtain ⟨h3,r⟩:=Bool.and_eq_true_iff.mp f
   obtain ⟨is,m,g⟩:=GJ.mp h2
   by_cases hd:(decide (is.length<=16777216) && is.all fun i=>decide (i < ns.length))=true
   ·rw [if_pos hd] at g
    cases g
    obtain ⟨s,z⟩:=Bool.and_eq_true_iff.mp hd
    cases qB h1
    obtain ⟨a,B,C,rfl,rfl,t,rs⟩:=k.view
    obtain ⟨bs,rfl,o,l⟩:=oi rs
    refine ⟨a,bs,ns,is,rfl,SqL.of t,o,l,CA h3,m,by rw [sizeLine_eq];exact of_decide_eq_true r,by rw [sizeLine_eq];exact of_decide_eq_true s,fun p x=>?_⟩
    have v:(is.map fun i=>V.ref (bs.getD i 0))=(is.map fun i=>bs.getD i 0).map V.ref:=by rw [GT];rfl
    have h:(is.map fun i=>ntD (ns.getD i []))=(is.map fun i=>ns.getD i []).map ntD:=by rw [GT];rfl
    rw [v]
    refine q ⟨.lst (is.map fun i=>ntD (ns.getD i [])),.ref p,[p],.u⟩ _ (tX x ?_ fun c f=>by cases f) rfl rfl
    rw [h]
    refine u6 (by simp) fun i b n e1 d=>?_
    rw [Gu] at e1 d
    cases hi:is[i]? with
    | none=>rw [hi] at e1;cases e1
    | some j =>
     rw [hi] at e1 d
     have w:j < ns.length:=of_decide_eq_true (List.all_eq_true.mp z j (Gq hi))
     have g1:bs[j]?=some bs[j]:=Gi (by omega)
     have g2:ns[j]?=some ns[j]:=Gi w
     have e1:bs.getD j 0=b:=GU e1
     have d:ns.getD j []=n:=GU d
     rw [List.getD,g1] at e1
     rw [List.getD,g2] at d
     subst e1 d
     exact l j _ _ g1 g2
   ·rw [if_neg hd] at g;exact nsE g
  ·rw [if_neg f] at h2;exact nsE h2
 | _=>exact nsE e
end
end L3
end
section
namespace L3
open PySem L2
section
variable {K:FG} {G0:Gm} {W0:D->Sto->Prop} {X:Cx}
def ssQ:D->Option (D × Fl)
 | .tup xs=>(aT xs).bind fun ns=>if ns.length < 64 then some (.lst ((srt (ns.foldl met [])).map .int),.u) else none
 | _=>none
abbrev ssD:=c1 ssQ
def rSS (X:Cx):List V->Hp->VK->Prop:=fun xs H Q=>rSet X xs H fun v H1=>zd X [v] H1 Q
theorem cd_ss:cS X.K (rSS X) ssD:=fun ys H Q p ra e q=>by
 obtain ⟨y,rfl,g⟩:=iK e
 clear e
 have k:=(ra y Ga).rep
 obtain ⟨da,x,v,t⟩:=y
 dsimp only at k g
 cases da <;> try (exact nsE g)
 rename_i xs
 obtain ⟨l,A,rfl,o,rs⟩:=k.view
 obtain ⟨ns,h1,h2⟩:=GJ.mp g
 split at h2
 ·rename_i f
  cases h2
  have r:=dJ h1
  subst r
  have n:=rs.ints
  subst n
  refine ⟨l,ns,rfl,SqT.of o,f,fun a j=>⟨a,ns.foldl met [],rfl,aC,?_,fun b h m s p2=>?_⟩⟩
  ·have:=rG ns []
   simp at this
   omega
  ·rw [hU (s.trans (lO _).symm) p2 (ji _)]
   have d:H b=none:=by
    by_cases z:b=a
    ·rw [z];exact j
    ·rw [ao z] at h;exact h
   have w:=tX (K:=X.K) (Ks:=dw [⟨.tup (ns.map .int),.ref l,v,t⟩]) h (kO (K:=X.K) (H:=upd H a (Bq X a (ns.foldl met []))) (srt (ns.foldl met []))) (fun c i=>by cases i)
   refine q ⟨.lst ((srt (ns.foldl met [])).map .int),.ref b,[b],.u⟩ _ ⟨(bv j).trans w.same,w.rep,fun c i=>?_,fun _=>⟨rfl,b,[],rfl,rfl,List.not_mem_nil,d⟩⟩ rfl rfl
   cases GK.mp i
   exact .inl d
 ·exact nsE h2
theorem re_ss (g:X.calm=true) (j:Gl X x) (hm:X.mg x=none) (l:bootBuiltins x=some (.builtin "sorted")) (b:Gl X y) (f:X.mg y=none) (d:bootBuiltins y=some (.type "set")) (i:RE X G0 W0 e m) (k:x ≠ "__name__") (hd:(x == ("__debug__":Str))=false) (a:y ≠ "__name__") (c:(y == ("__debug__":Str))=false) (s1:starEach [e] X.env=(false,eval e X.env) :: starEach [] X.env) (s2:starEach [.Call (.Name y p') [e] [] pos'] X.env=(false,eval (.Call (.Name y p') [e] [] pos') X.env) :: starEach [] X.env) :
  RE X G0 W0 (.Call (.Name x p) [.Call (.Name y p') [e] [] pos'] [] pos) (ay ssD (aa m ag)) :=
 ⟨PE.imp (jI (uw g) j hm l (fP (ot (xH g) b f d (ve i zc s1).h a c s1 rfl) mj s2) k hd s2 rfl) fun σ H Q h=>(lL (r:=rSS X) cd_ss h:tCB (rSS X) (tA X.K G0 W0 (aa m ag)) σ H Q)⟩
end
end L3
end
section
namespace L3
open PySem L2
section
variable {K:FG} {G0:Gm} {W0:D->Sto->Prop} {X:Cx}
def Fp (k:Key) (i:Int):EM:=aZ (.val (.dk [(k,.int i)]) .u)
theorem Ez {i:Int} (j:PE X k (tC (kV key))) (f:PE X v (tC (.int i))):RE X G0 W0 (.Dict [some k] [v] pos) (Fp key i):=⟨PE.imp (EW j f) fun σ H Q h=>by
 refine h.use fun G W le ρ T g o ρ' w e q=>?_
 cases e
 intro p d
 have sm:Same H (upd (upd H p (.dK [])) p (.dK [(key,.int i)])):=fun b o a=>by
  have n:b ≠ p:=fun z=>by rw [z,d] at a;cases a
  rw [ao n,ao n];exact a
 refine q _ _ (Wf.done (Us:=[]) (ys:=[]) (x:=⟨.dk [(key,.int i)],.ref p,[p],.u⟩) w (fun _ h=>(by cases h)) ⟨sm,.dK (L:=[]) aC rfl (.cons (L:=[]) (.int i) .nil),fun c l=>?_,fun _=>⟨rfl,p,[],rfl,rfl,(by simp),d⟩⟩)
 rw [GK.mp l];exact .inl d⟩
def Fo (ns:List Int) (i:Int):EM:=aZ (.val (.dt [(ns.map Sum.inl,.int i)]) .u)
theorem Ey {x1:Nat} {i:Int} (hu:X.A.units+1 < cLine) (h0:ns ≠ []) (hz:ns.length<=100) (l:es.map xP=ns.map some) (k:PE X v (tC (.int i))):RE X G0 W0 (.Dict [some (.Tuple es x1 pos')] [v] pos) (Fo ns i):=⟨PE.imp (EV hu h0 hz l k) fun σ H Q h=>by
 refine h.use fun G W le ρ T g o ρ' w e q=>?_
 cases e
 intro p j b d
 have nb:b ≠ p:=fun z=>by rw [z,aC] at d;cases d
 have f:H b=none:=by rw [ao nb] at d;exact d
 have sm:Same H (upd (upd (upd H p (.dT [])) b (.tup (ns.map V.int))) p (.dT [(ns.map Sum.inl,.int i)])):=fun c o a=>by
  have n:c ≠ p:=fun z=>by rw [z,j] at a;cases a
  have m:c ≠ b:=fun z=>by rw [z,f] at a;cases a
  rw [ao n,ao m,ao n];exact a
 refine q _ _ (Wf.done (Us:=[]) (ys:=[]) (x:=⟨.dt [(ns.map Sum.inl,.int i)],.ref p,[p],.u⟩) w (fun _ h=>(by cases h)) ⟨sm,.dT (L:=[]) aC rfl (.cons (L:=[]) (.int i) .nil),fun c a=>?_,fun _=>⟨rfl,p,[],rfl,rfl,(by simp),j⟩⟩)
 rw [GK.mp a];exact .inl j⟩
end
end L3
end
section
namespace L3
open PySem L2
section
variable {K:FG} {X:Cx}
abbrev r9 (ns:List Int):PyData:=.tuple (ns.map PyData.int)
theorem mH:∀ ns:List Int,PyData.canLayAll0 (ns.map PyData.int)=true/\PyData.depthAll (ns.map PyData.int)<=10
 | []=>⟨by simp [PyData.canLayAll0],by simp [PyData.depthAll]⟩
 | n :: ns=>by
  obtain ⟨h1,h2⟩:=mH ns
  exact ⟨by simp [PyData.canLayAll0,PyData.canLay0,h1],by simp [PyData.depthAll,PyData.depth];omega⟩
theorem rZ (ns:List Int):(r9 ns).canLay0=true:=by simp [PyData.canLay0,(mH ns).1]
theorem xp (ns:List Int):(r9 ns).depth<=20:=by
 have:=(mH ns).2
 simp [PyData.depth];omega
theorem r0:∀ a b:List Int,PyData.eqvAll (a.map PyData.int) (b.map PyData.int)=decide (a=b)
 | [],[]=>by simp [PyData.eqvAll]
 | [],b :: bs=>by simp [PyData.eqvAll]
 | a :: as,[]=>by simp [PyData.eqvAll]
 | a :: as,b :: bs=>by
  have c:=r0 as bs
  simp only [Gz,PyData.eqvAll,PyData.eqv,c]
  rw [Bool.eq_iff_iff]
  simp
theorem mS:∀ ns:List Int,DVs K H (ns.map V.int) (ns.map PyData.int)
 | []=>.nil
 | n :: ns=>.cons (.int n) (mS ns)
theorem rY:∀ {a b:List Int},a.map V.int=b.map V.int->a=b
 | [],[],_=>rfl
 | [],b :: bs,e=>by cases e
 | a :: as,[],e=>by cases e
 | a :: as,b :: bs,e=>by
  rw [Gz,Gz] at e
  injection e with e1 e2
  injection e1 with e1
  rw [e1,rY e2]
abbrev o9 (H:Hp) (b:Addr) (ns:List Int):Prop:=H b=some (.tup (ns.map V.int))
def oF (H:Hp) (ks:List Int) (w:Value):Bool:=@decide (∃ b,w=.ref b/\o9 H b ks) (Classical.propDecidable _)
theorem rL (h:o9 H b ns):oF H ks (.ref b)=decide (ns=ks):=by
 unfold oF
 by_cases e:ns=ks
 ·grind
 ·rw [GB e]
  refine @GB _ (Classical.propDecidable _) ?_
  rintro ⟨c,e1,h2⟩
  injection e1 with e1
  subst e1
  unfold o9 at h h2
  rw [h] at h2
  injection h2 with h2
  injection h2 with h2
  exact e (rY h2)
inductive TupsAt (H:Hp):List V->List (List Int)->Prop
 | nil:TupsAt H [] []
 | cons {b:Addr} {ns:List Int} {vs:List V} {nss:List (List Int)}:o9 H b ns->TupsAt H vs nss->TupsAt H (.ref b :: vs) (ns :: nss)
theorem TupsAt.any:∀ {a:List V} {nss:List (List Int)} {us:List Value},TupsAt H a nss->Vals a us->us.any (oF H ks)=decide (ks ∈ nss)
 | _,_,_,.nil,.nil=>rfl
 | _,_,_,.cons (b:=b) (ns:=ns) (nss:=nss) h t,.cons r rs=>by
  have c:=TupsAt.any (ks:=ks) t rs
  cases r
  rw [List.any_cons,c,rL h,Bool.eq_iff_iff]
  simp only [Bool.or_eq_true,decide_eq_true_eq,Gh]
  constructor
  ·rintro (h | h)
   ·exact .inl h.symm
   ·exact .inr h
  ·rintro (h | h)
   ·exact .inl h.symm
   ·exact .inr h
theorem TupsAt.mem:∀ {a:List V} {nss:List (List Int)} {us:List Value},TupsAt H a nss->Vals a us->∀ w ∈ us,∃ b ns,w=.ref b/\o9 H b ns
 | _,_,_,.nil,.nil=>fun w hw=>by cases hw
 | _,_,_,.cons h t,.cons r rs=>fun w hw=>by
  rcases Gh.mp hw with rfl | hw
  ·cases r
   exact ⟨_,_,rfl,h⟩
  ·exact TupsAt.mem t rs w hw
def Dg:R2:=fun x y H Q=>∃ p a ks b nss,y=.ref p/\x=.ref a/\o9 H a ks/\SqL X.K H p b/\TupsAt H b nss/\Q (.bl (!decide (ks ∈ nss))) H
theorem B9 (hu:X.A.units+64 < cLine):OpR X (compareOp .NotIn) (Dg (X:=X)):=by
 intro pins s σ H x y v u Q I g f h
 obtain ⟨p,a,ks,l,nss,rfl,rfl,i,j,c,q⟩:=h
 cases g
 cases f
 obtain ⟨its,r,pl,hz⟩:=I.list j
 refine SeqAt.notIn_listAt (oF H ks) pl.isList (fun w hw=>?_) ⟨.bl _,H,I,rfl,?_⟩
 ·obtain ⟨b,ns,rfl,d⟩:=c.mem r w (by simpa using hw)
  obtain ⟨as,ra⟩:=DV.reads I (.tup (SqT.of d) (mS ns):DV X.K H (.ref b) (r9 ns)) rfl
  obtain ⟨bs,rb⟩:=DV.reads I (.tup (SqT.of i) (mS ks):DV X.K H (.ref a) (r9 ks)) rfl
  have e:=SeqAt.eqAt_reads (r9 ns) (r9 ks) X.A.in1 s _ _ as bs ra rb (rZ ns) (rZ ks) (by
   have h1:=xp ns
   have h2:X.A.in1.units=X.A.units+1:=rfl
   omega)
  rw [rL d]
  have k:PyData.eqv (r9 ns) (r9 ks)=decide (ns=ks):=by
   simp only [PyData.eqv]
   exact r0 ns ks
  rw [k] at e
  exact e
 ·rw [show its.toArray.any (oF H ks)=its.any (oF H ks) by simp,c.any r]
  exact q
def tupsI:List D->Option (List (List Int))
 | []=>some []
 | .tup xs :: r=>match aT xs,tupsI r with
  | some ns,some m=>some (ns :: m)
  | _,_=>none
 | _=>none
def Ff (a b:D):Option (D × Fl):=match a,b with
 | .tup xs,.lst ys=>match aT xs,tupsI ys with
  | some ks,some nss=>some (.bl (!decide (ks ∈ nss)),.z)
  | _,_=>none
 | _,_=>none
theorem Reps.tupsI:∀ {ys:List D} {a:List V} {L:List Addr} {nss:List (List Int)},Reps (Rep K H) ys a L->L3.tupsI ys=some nss->TupsAt H a nss
 | _,_,_,nss,.nil,e=>by cases e;exact .nil
 | d :: ys,_,_,nss,.cons r rs,e=>by
  cases d <;> try (exact nsE e)
  rename_i xs
  cases h1:aT xs with
  | none =>
   have e:(match aT xs,L3.tupsI ys with | some ns,some m=>some (ns :: m) | _,_=>none)=some nss:=e
   rw [h1] at e
   exact nsE e
  | some ns =>
   cases h2:L3.tupsI ys with
   | none =>
    have e:(match aT xs,L3.tupsI ys with | some ns,some m=>some (ns :: m) | _,_=>none)=some nss:=e
    rw [h1,h2] at e
    exact nsE e
   | some m =>
    have e:(match aT xs,L3.tupsI ys with | some ns,some m=>some (ns :: m) | _,_=>none)=some nss:=e
    rw [h1,h2] at e
    cases e
    obtain ⟨g,a,rfl,b,c⟩:=r.view
    have f:=dJ h1
    subst f
    have:=c.ints
    subst this
    exact .cons b (Reps.tupsI rs h2)
theorem Ch:OpD K (Dg (X:=X)) Ff:=fun a b H Q p ra rb e q=>by
 obtain ⟨da,r,k,l⟩:=a
 obtain ⟨db,j,n,o⟩:=b
 obtain ⟨ra,m⟩:=ra
 obtain ⟨rb,ob⟩:=rb
 dsimp only at ra rb e
 cases da <;> try (exact nsE e)
 cases db <;> try (exact nsE e)
 rename_i xs ys
 obtain ⟨c,us,rfl,d,rs⟩:=ra.view
 obtain ⟨g,i,L,rfl,rfl,h,rt⟩:=rb.view
 have e:(match aT xs,tupsI ys with | some ks,some nss=>some (D.bl (!decide (ks ∈ nss)),Fl.z) | _,_=>none)=some p:=e
 cases h1:aT xs with
 | none=>rw [h1] at e;exact nsE e
 | some ks =>
  cases h2:tupsI ys with
  | none=>rw [h1,h2] at e;exact nsE e
  | some nss =>
   rw [h1,h2] at e
   cases e
   have f:=dJ h1
   subst f
   have:=rs.ints
   subst this
   exact ⟨g,c,ks,i,nss,rfl,rfl,d,SqL.of h,rt.tupsI h2,q ⟨.bl _,.bl _,[],.z⟩ H (dj (.bl _)) rfl rfl⟩
end
end L3
end
section
namespace L2
open PySem PySem.Spec PyProof.Rows
variable {cmp:Nat->Nat->Option Bool} {α β:Type}
theorem ai {m:StateT SortSt Sem α} {f:α->StateT SortSt Sem β} {st st1:SortSt} {a:α} (h1:ev cmp (m.run st) none=some ((a,st1),none)) (h2:ev cmp ((f a).run st1) none=r):ev cmp ((m >>= f).run st) none=r:=by
 show ev cmp ((m.run st).bind fun x=>(f x.1).run x.2) none=r
 rw [vO,h1]
 exact h2
theorem cZ {f:Nat->β->StateT SortSt Sem (ForInStep β)} {i:Nat} {st st1:SortSt} (h:ev cmp ((f i b).run st) none=some ((.yield b1,st1),none)) (h2:ev cmp ((forIn l b1 f).run st1) none=r):ev cmp ((forIn (i :: l) b f).run st) none=r:=by
 rw [List.forIn_cons]
 exact ai h h2
theorem eM {f:Nat->β->StateT SortSt Sem (ForInStep β)} {i:Nat} {st st1:SortSt} (h:ev cmp ((f i b).run st) none=some ((.done b1,st1),none)):ev cmp ((forIn (i :: l) b f).run st) none=some ((b1,st1),none):=by
 rw [List.forIn_cons]
 exact ai h rfl
def am (l:List Nat) (p:List (Nat × Nat × Nat)) (g:Nat):SortSt:=SortSt.mk' (a9 true) ((l.map fun i=>((Value.ref i,Value.ref i):Keyed)).toArray) p.toArray g none
theorem oC:∀ L:List Nat,(L.map fun i=>((Value.ref i,Value.ref i):Keyed)).mapM mm=some L
 | []=>rfl
 | x :: L=>by
  have a:=oC L
  rw [Gz,List.mapM_cons,a]
  rfl
theorem kJ {n:Nat} {g:Nat} (h0:ns.length=n) (h:ev (bB ns) (sortRuns'.run (am (List.range n) [] 7)) none=some (((),am L1 p g),none)):bq ns=some L1:=by
 unfold bq
 subst h0
 have e:SortSt.mk' (a9 true) (oD ns.length) #[] 7 none=am (List.range ns.length) [] 7:=rfl
 rw [e,h]
 show (arrOf (am L1 p g)).toList.mapM mm=some L1
 show ((L1.map fun i=>((Value.ref i,Value.ref i):Keyed)).toArray).toList.mapM mm=some L1
 rw [List.toList_toArray]
 exact oC L1
end L2
end
section
namespace L2
open PySem PySem.Spec PyProof.Rows
def U6:List (List Int):=[[],[0],[1],[0,1],[2],[0,2],[1,2],[0,1,2],[3],[0,3],[1,3],[0,1,3],[2,3],[0,2,3],[1,2,3],[0,1,2,3],[4],[0,4],[1,4],[0,1,4],[2,4],[0,2,4],[1,2,4],[0,1,2,4],[3,4],[0,3,4],[1,3,4],[0,1,3,4],[2,3,4],[0,2,3,4],[1,2,3,4],[0,1,2,3,4],[5],[0,5],[1,5],[0,1,5],[2,5],[0,2,5],[1,2,5],[0,1,2,5],[3,5],[0,3,5],[1,3,5],[0,1,3,5],[2,3,5],[0,2,3,5],[1,2,3,5],[0,1,2,3,5],[4,5],[0,4,5],[1,4,5],[0,1,4,5],[2,4,5],[0,2,4,5],[1,2,4,5],[0,1,2,4,5],[3,4,5],[0,3,4,5],[1,3,4,5],[0,1,3,4,5],[2,3,4,5],[0,2,3,4,5],[1,2,3,4,5],[0,1,2,3,4,5]]
def sR:List Nat:=List.range 64
def uP:List Nat:=[0,1,3,7,15,31,23,11,27,19,5,13,29,21,9,25,17,2,6,14,30,22,10,26,18,4,12,28,20,8,24,16,32,33,34,35,36,37,38,39,40,41,42,43,44,45,46,47,48,49,50,51,52,53,54,55,56,57,58,59,60,61,62,63]
def F6:List Nat:=[0,1,3,7,15,31,23,11,27,19,5,13,29,21,9,25,17,2,6,14,30,22,10,26,18,4,12,28,20,8,24,16,33,32,34,35,36,37,38,39,40,41,42,43,44,45,46,47,48,49,50,51,52,53,54,55,56,57,58,59,60,61,62,63]
def gb:List Nat:=[0,1,3,7,15,31,23,11,27,19,5,13,29,21,9,25,17,2,6,14,30,22,10,26,18,4,12,28,20,8,24,16,63,47,55,39,59,43,51,35,61,45,53,37,57,41,49,33,62,46,54,38,58,42,50,34,60,44,52,36,56,40,48,32]
def L6_4:List Nat:=[0,1,3,7,15,31,63,47,23,55,39,11,27,59,43,19,51,35,5,13,29,61,45,21,53,37,9,25,57,41,17,49,33,2,6,14,30,62,46,22,54,38,10,26,58,42,18,50,34,4,12,28,60,44,20,52,36,8,24,56,40,16,48,32]
theorem g6_0:ev (bB U6) ((countRun' 0 64).run (am sR [] 7)) none=some ((some 3,(am sR [] 7)),none):=by kernel_rfl
theorem g6_1:ev (bB U6) ((binarySort' 0 32 3).run (am sR [] 7)) none=some ((true,(am uP [] 7)),none):=by kernel_rfl
theorem g6_2:ev (bB U6) ((countRun' 32 32).run (am uP [(0,32,0)] 7)) none=some ((some 2,(am F6 [(0,32,0)] 7)),none):=by kernel_rfl
theorem g6_3:ev (bB U6) ((binarySort' 32 32 2).run (am F6 [(0,32,0)] 7)) none=some ((true,(am gb [(0,32,0)] 7)),none):=by kernel_rfl
theorem g6_4:ev (bB U6) ((mergeAt' 0).run (am gb [(0,32,1),(32,32,0)] 7)) none=some ((true,(am L6_4 [(0,64,1)] 7)),none):=by kernel_rfl
theorem runs6:ev (bB U6) (sortRuns'.run (am sR [] 7)) none=some (((),(am L6_4 [(0,64,1)] 7)),none):=by
 rw [sortRuns'_eq]
 refine ai (a:=(am sR [] 7)) (st1:=(am sR [] 7)) rfl ?_
 have c:(arrOf (am sR [] 7)).size=64:=by kernel_rfl
 have b:minRun' 64 64 0=32:=rfl
 rw [c]
 try dsimp only
 rw [b]
 rw [Std.Legacy.Range.forIn_eq_forIn_range']
 refine ai (a:=(none,64)) (st1:=(am gb [(0,32,1),(32,32,0)] 7)) (cZ (b1:=(none,32)) (st1:=(am uP [(0,32,0)] 7)) ?_ (cZ (b1:=(none,64)) (st1:=(am gb [(0,32,1),(32,32,0)] 7)) ?_ (eM (b1:=(none,64)) (st1:=(am gb [(0,32,1),(32,32,0)] 7)) ?_))) ?_
 ·try dsimp only
  rw [if_neg (by decide)]
  refine ai g6_0 ?_
  try dsimp only
  rw [if_pos (by decide)]
  refine ai (a:=()) (st1:=(am sR [] 7)) rfl ?_
  refine ai g6_1 ?_
  rw [if_neg (by decide)]
  refine ai (a:=(am uP [] 7)) (st1:=(am uP [] 7)) rfl ?_
  rw [show (pendingOf (am uP [] 7)).back?=none from rfl]
  try dsimp only
  refine ai (a:=()) (st1:=(am uP [(0,32,0)] 7)) rfl ?_
  exact rfl
 ·try dsimp only
  rw [if_neg (by decide)]
  refine ai g6_2 ?_
  try dsimp only
  rw [if_pos (by decide)]
  refine ai (a:=()) (st1:=(am F6 [(0,32,0)] 7)) rfl ?_
  refine ai g6_3 ?_
  rw [if_neg (by decide)]
  refine ai (a:=(am gb [(0,32,0)] 7)) (st1:=(am gb [(0,32,0)] 7)) rfl ?_
  rw [show (pendingOf (am gb [(0,32,0)] 7)).back?=some (0,32,0) from rfl]
  try dsimp only
  rw [Std.Legacy.Range.forIn_eq_forIn_range']
  refine ai (a:=(none,())) (st1:=(am gb [(0,32,0)] 7)) (eM (b1:=(none,())) (st1:=(am gb [(0,32,0)] 7)) ?_) ?_
  ·try dsimp only
   refine ai (a:=(am gb [(0,32,0)] 7)) (st1:=(am gb [(0,32,0)] 7)) rfl ?_
   rw [show (if (pendingOf (am gb [(0,32,0)] 7)).size > 1 then (pendingOf (am gb [(0,32,0)] 7))[(pendingOf (am gb [(0,32,0)] 7)).size - 2]? else none)=none from rfl]
   exact rfl
  try dsimp only
  refine ai (a:=()) (st1:=(am gb [(0,32,1)] 7)) rfl ?_
  refine ai (a:=()) (st1:=(am gb [(0,32,1),(32,32,0)] 7)) rfl ?_
  exact rfl
 ·try dsimp only
  rw [if_pos (by decide)]
  exact rfl
 try dsimp only
 rw [Std.Legacy.Range.forIn_eq_forIn_range']
 refine ai (a:=(none,())) (st1:=(am L6_4 [(0,64,1)] 7)) (cZ (b1:=(none,())) (st1:=(am L6_4 [(0,64,1)] 7)) ?_ (eM (b1:=(none,())) (st1:=(am L6_4 [(0,64,1)] 7)) ?_)) ?_
 ·try dsimp only
  refine ai (a:=(am gb [(0,32,1),(32,32,0)] 7)) (st1:=(am gb [(0,32,1),(32,32,0)] 7)) rfl ?_
  rw [if_neg (by decide)]
  refine ai g6_4 ?_
  rw [if_neg (by decide)]
  exact rfl
 ·try dsimp only
  refine ai (a:=(am L6_4 [(0,64,1)] 7)) (st1:=(am L6_4 [(0,64,1)] 7)) rfl ?_
  rw [if_pos (by decide)]
  exact rfl
 exact rfl
theorem sort6:bq U6=some L6_4:=kJ (n:=64) rfl runs6
end L2
end
section
namespace L2
open PySem PySem.Spec PyProof.Rows
def U7:List (List Int):=[[],[0],[1],[0,1],[2],[0,2],[1,2],[0,1,2],[3],[0,3],[1,3],[0,1,3],[2,3],[0,2,3],[1,2,3],[0,1,2,3],[4],[0,4],[1,4],[0,1,4],[2,4],[0,2,4],[1,2,4],[0,1,2,4],[3,4],[0,3,4],[1,3,4],[0,1,3,4],[2,3,4],[0,2,3,4],[1,2,3,4],[0,1,2,3,4],[5],[0,5],[1,5],[0,1,5],[2,5],[0,2,5],[1,2,5],[0,1,2,5],[3,5],[0,3,5],[1,3,5],[0,1,3,5],[2,3,5],[0,2,3,5],[1,2,3,5],[0,1,2,3,5],[4,5],[0,4,5],[1,4,5],[0,1,4,5],[2,4,5],[0,2,4,5],[1,2,4,5],[0,1,2,4,5],[3,4,5],[0,3,4,5],[1,3,4,5],[0,1,3,4,5],[2,3,4,5],[0,2,3,4,5],[1,2,3,4,5],[0,1,2,3,4,5],[6],[0,6],[1,6],[0,1,6],[2,6],[0,2,6],[1,2,6],[0,1,2,6],[3,6],[0,3,6],[1,3,6],[0,1,3,6],[2,3,6],[0,2,3,6],[1,2,3,6],[0,1,2,3,6],[4,6],[0,4,6],[1,4,6],[0,1,4,6],[2,4,6],[0,2,4,6],[1,2,4,6],[0,1,2,4,6],[3,4,6],[0,3,4,6],[1,3,4,6],[0,1,3,4,6],[2,3,4,6],[0,2,3,4,6],[1,2,3,4,6],[0,1,2,3,4,6],[5,6],[0,5,6],[1,5,6],[0,1,5,6],[2,5,6],[0,2,5,6],[1,2,5,6],[0,1,2,5,6],[3,5,6],[0,3,5,6],[1,3,5,6],[0,1,3,5,6],[2,3,5,6],[0,2,3,5,6],[1,2,3,5,6],[0,1,2,3,5,6],[4,5,6],[0,4,5,6],[1,4,5,6],[0,1,4,5,6],[2,4,5,6],[0,2,4,5,6],[1,2,4,5,6],[0,1,2,4,5,6],[3,4,5,6],[0,3,4,5,6],[1,3,4,5,6],[0,1,3,4,5,6],[2,3,4,5,6],[0,2,3,4,5,6],[1,2,3,4,5,6],[0,1,2,3,4,5,6]]
def sQ:List Nat:=List.range 128
def uO:List Nat:=[0,1,3,7,15,31,23,11,27,19,5,13,29,21,9,25,17,2,6,14,30,22,10,26,18,4,12,28,20,8,24,16,32,33,34,35,36,37,38,39,40,41,42,43,44,45,46,47,48,49,50,51,52,53,54,55,56,57,58,59,60,61,62,63,64,65,66,67,68,69,70,71,72,73,74,75,76,77,78,79,80,81,82,83,84,85,86,87,88,89,90,91,92,93,94,95,96,97,98,99,100,101,102,103,104,105,106,107,108,109,110,111,112,113,114,115,116,117,118,119,120,121,122,123,124,125,126,127]
def F5:List Nat:=[0,1,3,7,15,31,23,11,27,19,5,13,29,21,9,25,17,2,6,14,30,22,10,26,18,4,12,28,20,8,24,16,33,32,34,35,36,37,38,39,40,41,42,43,44,45,46,47,48,49,50,51,52,53,54,55,56,57,58,59,60,61,62,63,64,65,66,67,68,69,70,71,72,73,74,75,76,77,78,79,80,81,82,83,84,85,86,87,88,89,90,91,92,93,94,95,96,97,98,99,100,101,102,103,104,105,106,107,108,109,110,111,112,113,114,115,116,117,118,119,120,121,122,123,124,125,126,127]
def js:List Nat:=[0,1,3,7,15,31,23,11,27,19,5,13,29,21,9,25,17,2,6,14,30,22,10,26,18,4,12,28,20,8,24,16,63,47,55,39,59,43,51,35,61,45,53,37,57,41,49,33,62,46,54,38,58,42,50,34,60,44,52,36,56,40,48,32,64,65,66,67,68,69,70,71,72,73,74,75,76,77,78,79,80,81,82,83,84,85,86,87,88,89,90,91,92,93,94,95,96,97,98,99,100,101,102,103,104,105,106,107,108,109,110,111,112,113,114,115,116,117,118,119,120,121,122,123,124,125,126,127]
def F2:List Nat:=[0,1,3,7,15,31,23,11,27,19,5,13,29,21,9,25,17,2,6,14,30,22,10,26,18,4,12,28,20,8,24,16,63,47,55,39,59,43,51,35,61,45,53,37,57,41,49,33,62,46,54,38,58,42,50,34,60,44,52,36,56,40,48,32,65,64,66,67,68,69,70,71,72,73,74,75,76,77,78,79,80,81,82,83,84,85,86,87,88,89,90,91,92,93,94,95,96,97,98,99,100,101,102,103,104,105,106,107,108,109,110,111,112,113,114,115,116,117,118,119,120,121,122,123,124,125,126,127]
def nJ:List Nat:=[0,1,3,7,15,31,23,11,27,19,5,13,29,21,9,25,17,2,6,14,30,22,10,26,18,4,12,28,20,8,24,16,63,47,55,39,59,43,51,35,61,45,53,37,57,41,49,33,62,46,54,38,58,42,50,34,60,44,52,36,56,40,48,32,95,79,87,71,91,75,83,67,93,77,85,69,89,73,81,65,94,78,86,70,90,74,82,66,92,76,84,68,88,72,80,64,96,97,98,99,100,101,102,103,104,105,106,107,108,109,110,111,112,113,114,115,116,117,118,119,120,121,122,123,124,125,126,127]
def kE:List Nat:=[0,1,3,7,15,31,63,47,23,55,39,11,27,59,43,19,51,35,5,13,29,61,45,21,53,37,9,25,57,41,17,49,33,2,6,14,30,62,46,22,54,38,10,26,58,42,18,50,34,4,12,28,60,44,20,52,36,8,24,56,40,16,48,32,95,79,87,71,91,75,83,67,93,77,85,69,89,73,81,65,94,78,86,70,90,74,82,66,92,76,84,68,88,72,80,64,96,97,98,99,100,101,102,103,104,105,106,107,108,109,110,111,112,113,114,115,116,117,118,119,120,121,122,123,124,125,126,127]
def F1:List Nat:=[0,1,3,7,15,31,63,47,23,55,39,11,27,59,43,19,51,35,5,13,29,61,45,21,53,37,9,25,57,41,17,49,33,2,6,14,30,62,46,22,54,38,10,26,58,42,18,50,34,4,12,28,60,44,20,52,36,8,24,56,40,16,48,32,95,79,87,71,91,75,83,67,93,77,85,69,89,73,81,65,94,78,86,70,90,74,82,66,92,76,84,68,88,72,80,64,97,96,98,99,100,101,102,103,104,105,106,107,108,109,110,111,112,113,114,115,116,117,118,119,120,121,122,123,124,125,126,127]
def f9:List Nat:=[0,1,3,7,15,31,63,47,23,55,39,11,27,59,43,19,51,35,5,13,29,61,45,21,53,37,9,25,57,41,17,49,33,2,6,14,30,62,46,22,54,38,10,26,58,42,18,50,34,4,12,28,60,44,20,52,36,8,24,56,40,16,48,32,95,79,87,71,91,75,83,67,93,77,85,69,89,73,81,65,94,78,86,70,90,74,82,66,92,76,84,68,88,72,80,64,127,111,119,103,123,107,115,99,125,109,117,101,121,105,113,97,126,110,118,102,122,106,114,98,124,108,116,100,120,104,112,96]
def AW:List Nat:=[0,1,3,7,15,31,63,47,23,55,39,11,27,59,43,19,51,35,5,13,29,61,45,21,53,37,9,25,57,41,17,49,33,2,6,14,30,62,46,22,54,38,10,26,58,42,18,50,34,4,12,28,60,44,20,52,36,8,24,56,40,16,48,32,127,95,111,79,119,87,103,71,123,91,107,75,115,83,99,67,125,93,109,77,117,85,101,69,121,89,105,73,113,81,97,65,126,94,110,78,118,86,102,70,122,90,106,74,114,82,98,66,124,92,108,76,116,84,100,68,120,88,104,72,112,80,96,64]
def L7_10:List Nat:=[0,1,3,7,15,31,63,127,95,47,111,79,23,55,119,87,39,103,71,11,27,59,123,91,43,107,75,19,51,115,83,35,99,67,5,13,29,61,125,93,45,109,77,21,53,117,85,37,101,69,9,25,57,121,89,41,105,73,17,49,113,81,33,97,65,2,6,14,30,62,126,94,46,110,78,22,54,118,86,38,102,70,10,26,58,122,90,42,106,74,18,50,114,82,34,98,66,4,12,28,60,124,92,44,108,76,20,52,116,84,36,100,68,8,24,56,120,88,40,104,72,16,48,112,80,32,96,64]
theorem g7_0:ev (bB U7) ((countRun' 0 128).run (am sQ [] 7)) none=some ((some 3,(am sQ [] 7)),none):=by kernel_rfl
theorem g7_1:ev (bB U7) ((binarySort' 0 32 3).run (am sQ [] 7)) none=some ((true,(am uO [] 7)),none):=by kernel_rfl
theorem g7_2:ev (bB U7) ((countRun' 32 96).run (am uO [(0,32,0)] 7)) none=some ((some 2,(am F5 [(0,32,0)] 7)),none):=by kernel_rfl
theorem g7_3:ev (bB U7) ((binarySort' 32 32 2).run (am F5 [(0,32,0)] 7)) none=some ((true,(am js [(0,32,0)] 7)),none):=by kernel_rfl
theorem g7_4:ev (bB U7) ((countRun' 64 64).run (am js [(0,32,2),(32,32,0)] 7)) none=some ((some 2,(am F2 [(0,32,2),(32,32,0)] 7)),none):=by kernel_rfl
theorem g7_5:ev (bB U7) ((binarySort' 64 32 2).run (am F2 [(0,32,2),(32,32,0)] 7)) none=some ((true,(am nJ [(0,32,2),(32,32,0)] 7)),none):=by kernel_rfl
theorem g7_6:ev (bB U7) ((mergeAt' 0).run (am nJ [(0,32,2),(32,32,0)] 7)) none=some ((true,(am kE [(0,64,2)] 7)),none):=by kernel_rfl
theorem g7_7:ev (bB U7) ((countRun' 96 32).run (am kE [(0,64,1),(64,32,0)] 7)) none=some ((some 2,(am F1 [(0,64,1),(64,32,0)] 7)),none):=by kernel_rfl
theorem g7_8:ev (bB U7) ((binarySort' 96 32 2).run (am F1 [(0,64,1),(64,32,0)] 7)) none=some ((true,(am f9 [(0,64,1),(64,32,0)] 7)),none):=by kernel_rfl
theorem g7_9:ev (bB U7) ((mergeAt' 1).run (am f9 [(0,64,1),(64,32,2),(96,32,0)] 7)) none=some ((true,(am AW [(0,64,1),(64,64,2)] 7)),none):=by kernel_rfl
theorem g7_10:ev (bB U7) ((mergeAt' 0).run (am AW [(0,64,1),(64,64,2)] 7)) none=some ((true,(am L7_10 [(0,128,1)] 7)),none):=by kernel_rfl
theorem runs7:ev (bB U7) (sortRuns'.run (am sQ [] 7)) none=some (((),(am L7_10 [(0,128,1)] 7)),none):=by
 rw [sortRuns'_eq]
 refine ai (a:=(am sQ [] 7)) (st1:=(am sQ [] 7)) rfl ?_
 have c:(arrOf (am sQ [] 7)).size=128:=by kernel_rfl
 have b:minRun' 128 128 0=32:=rfl
 rw [c]
 try dsimp only
 rw [b]
 rw [Std.Legacy.Range.forIn_eq_forIn_range']
 refine ai (a:=(none,128)) (st1:=(am f9 [(0,64,1),(64,32,2),(96,32,0)] 7)) (cZ (b1:=(none,32)) (st1:=(am uO [(0,32,0)] 7)) ?_ (cZ (b1:=(none,64)) (st1:=(am js [(0,32,2),(32,32,0)] 7)) ?_ (cZ (b1:=(none,96)) (st1:=(am kE [(0,64,1),(64,32,0)] 7)) ?_ (cZ (b1:=(none,128)) (st1:=(am f9 [(0,64,1),(64,32,2),(96,32,0)] 7)) ?_ (eM (b1:=(none,128)) (st1:=(am f9 [(0,64,1),(64,32,2),(96,32,0)] 7)) ?_))))) ?_
 ·try dsimp only
  rw [if_neg (by decide)]
  refine ai g7_0 ?_
  try dsimp only
  rw [if_pos (by decide)]
  refine ai (a:=()) (st1:=(am sQ [] 7)) rfl ?_
  refine ai g7_1 ?_
  rw [if_neg (by decide)]
  refine ai (a:=(am uO [] 7)) (st1:=(am uO [] 7)) rfl ?_
  rw [show (pendingOf (am uO [] 7)).back?=none from rfl]
  try dsimp only
  refine ai (a:=()) (st1:=(am uO [(0,32,0)] 7)) rfl ?_
  exact rfl
 ·try dsimp only
  rw [if_neg (by decide)]
  refine ai g7_2 ?_
  try dsimp only
  rw [if_pos (by decide)]
  refine ai (a:=()) (st1:=(am F5 [(0,32,0)] 7)) rfl ?_
  refine ai g7_3 ?_
  rw [if_neg (by decide)]
  refine ai (a:=(am js [(0,32,0)] 7)) (st1:=(am js [(0,32,0)] 7)) rfl ?_
  rw [show (pendingOf (am js [(0,32,0)] 7)).back?=some (0,32,0) from rfl]
  try dsimp only
  rw [Std.Legacy.Range.forIn_eq_forIn_range']
  refine ai (a:=(none,())) (st1:=(am js [(0,32,0)] 7)) (eM (b1:=(none,())) (st1:=(am js [(0,32,0)] 7)) ?_) ?_
  ·try dsimp only
   refine ai (a:=(am js [(0,32,0)] 7)) (st1:=(am js [(0,32,0)] 7)) rfl ?_
   rw [show (if (pendingOf (am js [(0,32,0)] 7)).size > 1 then (pendingOf (am js [(0,32,0)] 7))[(pendingOf (am js [(0,32,0)] 7)).size - 2]? else none)=none from rfl]
   exact rfl
  try dsimp only
  refine ai (a:=()) (st1:=(am js [(0,32,2)] 7)) rfl ?_
  refine ai (a:=()) (st1:=(am js [(0,32,2),(32,32,0)] 7)) rfl ?_
  exact rfl
 ·try dsimp only
  rw [if_neg (by decide)]
  refine ai g7_4 ?_
  try dsimp only
  rw [if_pos (by decide)]
  refine ai (a:=()) (st1:=(am F2 [(0,32,2),(32,32,0)] 7)) rfl ?_
  refine ai g7_5 ?_
  rw [if_neg (by decide)]
  refine ai (a:=(am nJ [(0,32,2),(32,32,0)] 7)) (st1:=(am nJ [(0,32,2),(32,32,0)] 7)) rfl ?_
  rw [show (pendingOf (am nJ [(0,32,2),(32,32,0)] 7)).back?=some (32,32,0) from rfl]
  try dsimp only
  rw [Std.Legacy.Range.forIn_eq_forIn_range']
  refine ai (a:=(none,())) (st1:=(am kE [(0,64,2)] 7)) (cZ (b1:=(none,())) (st1:=(am kE [(0,64,2)] 7)) ?_ (eM (b1:=(none,())) (st1:=(am kE [(0,64,2)] 7)) ?_)) ?_
  ·try dsimp only
   refine ai (a:=(am nJ [(0,32,2),(32,32,0)] 7)) (st1:=(am nJ [(0,32,2),(32,32,0)] 7)) rfl ?_
   rw [show (if (pendingOf (am nJ [(0,32,2),(32,32,0)] 7)).size > 1 then (pendingOf (am nJ [(0,32,2),(32,32,0)] 7))[(pendingOf (am nJ [(0,32,2),(32,32,0)] 7)).size - 2]? else none)=some (0,32,2) from rfl]
   try dsimp only
   rw [if_neg (by decide)]
   refine ai g7_6 ?_
   rw [if_neg (by decide)]
   exact rfl
  ·try dsimp only
   refine ai (a:=(am kE [(0,64,2)] 7)) (st1:=(am kE [(0,64,2)] 7)) rfl ?_
   rw [show (if (pendingOf (am kE [(0,64,2)] 7)).size > 1 then (pendingOf (am kE [(0,64,2)] 7))[(pendingOf (am kE [(0,64,2)] 7)).size - 2]? else none)=none from rfl]
   exact rfl
  try dsimp only
  refine ai (a:=()) (st1:=(am kE [(0,64,1)] 7)) rfl ?_
  refine ai (a:=()) (st1:=(am kE [(0,64,1),(64,32,0)] 7)) rfl ?_
  exact rfl
 ·try dsimp only
  rw [if_neg (by decide)]
  refine ai g7_7 ?_
  try dsimp only
  rw [if_pos (by decide)]
  refine ai (a:=()) (st1:=(am F1 [(0,64,1),(64,32,0)] 7)) rfl ?_
  refine ai g7_8 ?_
  rw [if_neg (by decide)]
  refine ai (a:=(am f9 [(0,64,1),(64,32,0)] 7)) (st1:=(am f9 [(0,64,1),(64,32,0)] 7)) rfl ?_
  rw [show (pendingOf (am f9 [(0,64,1),(64,32,0)] 7)).back?=some (64,32,0) from rfl]
  try dsimp only
  rw [Std.Legacy.Range.forIn_eq_forIn_range']
  refine ai (a:=(none,())) (st1:=(am f9 [(0,64,1),(64,32,0)] 7)) (eM (b1:=(none,())) (st1:=(am f9 [(0,64,1),(64,32,0)] 7)) ?_) ?_
  ·try dsimp only
   refine ai (a:=(am f9 [(0,64,1),(64,32,0)] 7)) (st1:=(am f9 [(0,64,1),(64,32,0)] 7)) rfl ?_
   rw [show (if (pendingOf (am f9 [(0,64,1),(64,32,0)] 7)).size > 1 then (pendingOf (am f9 [(0,64,1),(64,32,0)] 7))[(pendingOf (am f9 [(0,64,1),(64,32,0)] 7)).size - 2]? else none)=some (0,64,1) from rfl]
   try dsimp only
   rw [if_pos (by decide)]
   exact rfl
  try dsimp only
  refine ai (a:=()) (st1:=(am f9 [(0,64,1),(64,32,2)] 7)) rfl ?_
  refine ai (a:=()) (st1:=(am f9 [(0,64,1),(64,32,2),(96,32,0)] 7)) rfl ?_
  exact rfl
 ·try dsimp only
  rw [if_pos (by decide)]
  exact rfl
 try dsimp only
 rw [Std.Legacy.Range.forIn_eq_forIn_range']
 refine ai (a:=(none,())) (st1:=(am L7_10 [(0,128,1)] 7)) (cZ (b1:=(none,())) (st1:=(am AW [(0,64,1),(64,64,2)] 7)) ?_ (cZ (b1:=(none,())) (st1:=(am L7_10 [(0,128,1)] 7)) ?_ (eM (b1:=(none,())) (st1:=(am L7_10 [(0,128,1)] 7)) ?_))) ?_
 ·try dsimp only
  refine ai (a:=(am f9 [(0,64,1),(64,32,2),(96,32,0)] 7)) (st1:=(am f9 [(0,64,1),(64,32,2),(96,32,0)] 7)) rfl ?_
  rw [if_neg (by decide)]
  refine ai g7_9 ?_
  rw [if_neg (by decide)]
  exact rfl
 ·try dsimp only
  refine ai (a:=(am AW [(0,64,1),(64,64,2)] 7)) (st1:=(am AW [(0,64,1),(64,64,2)] 7)) rfl ?_
  rw [if_neg (by decide)]
  refine ai g7_10 ?_
  rw [if_neg (by decide)]
  exact rfl
 ·try dsimp only
  refine ai (a:=(am L7_10 [(0,128,1)] 7)) (st1:=(am L7_10 [(0,128,1)] 7)) rfl ?_
  rw [if_pos (by decide)]
  exact rfl
 exact rfl
theorem sort7:bq U7=some L7_10:=kJ (n:=128) rfl runs7
end L2
end
section
namespace Bn
open PySem L2 L3
abbrev Pd (p:Int × Int):L3.D:=.tup [.int p.1,.int p.2]
theorem b7 {bnd:L3.D->Sto->Option Sto} {b:SM} (P:Nat->Sto->Prop):∀ {ds:List L3.D} {ρ:Sto} {k:Nat},P k ρ->(∀ i d ρ,ds[i]?=some d->P (k+i) ρ->∃ ρ1 ρ2,bnd d ρ=some ρ1/\(b ρ1=some (.ok .nx,ρ2)\/b ρ1=some (.ok .ct,ρ2))/\P (k+i+1) ρ2)->∃ ρ',cQ bnd b ds ρ=some (.ok .nx,ρ')/\P (k+ds.length) ρ'
 | [],ρ,k,h0,_=>⟨ρ,rfl,h0⟩
 | d :: ds,ρ,k,h0,hs=>by
  obtain ⟨ρ1,ρ2,e1,a,h1⟩:=hs 0 d ρ rfl h0
  obtain ⟨ρ',c,h3⟩:=b7 P (ds:=ds) (ρ:=ρ2) (k:=k+1) h1 fun i d ρ hd e=>by
   have:=hs (i+1) d ρ (by simpa using hd) (by rwa [show k+(i+1)=k+1+i by omega])
   rwa [show k+(i+1)+1=k+1+i+1 by omega] at this
  refine ⟨ρ',?_,by rw [GG,show k+(ds.length+1)=k+1+ds.length by omega];exact h3⟩
  unfold cQ
  simp only [e1]
  rcases a with a | a <;> simp only [af,a,c]
theorem pZ {bnd:L3.D->Sto->Option Sto} {b:SM} (P:Nat->Sto->Prop) (E:Nat->L3.D->Fl->Sto->Prop):∀ {ds:List L3.D} {ρ:Sto} {k:Nat},P k ρ ->
  (∀ i d ρ,ds[i]?=some d->P (k+i) ρ->∃ ρ1 ρ2,bnd d ρ=some ρ1/\(((b ρ1=some (.ok .nx,ρ2)\/b ρ1=some (.ok .ct,ρ2))/\P (k+i+1) ρ2)\/∃ r f,b ρ1=some (.ok (.rt r f),ρ2)/\E (k+i) r f ρ2)) ->
  ∃ ρ',(cQ bnd b ds ρ=some (.ok .nx,ρ')/\P (k+ds.length) ρ')\/∃ i r f,i < ds.length/\cQ bnd b ds ρ=some (.ok (.rt r f),ρ')/\E (k+i) r f ρ'
 | [],ρ,k,h0,_=>⟨ρ,.inl ⟨rfl,h0⟩⟩
 | d :: ds,ρ,k,h0,hs=>by
  obtain ⟨ρ1,ρ2,e1,h1⟩:=hs 0 d ρ rfl h0
  rcases h1 with ⟨a,h1⟩ | ⟨r,f,a,h1⟩
  ·obtain ⟨ρ',h3⟩:=pZ P E (ds:=ds) (ρ:=ρ2) (k:=k+1) h1 fun i d ρ hd g=>by
    have:=hs (i+1) d ρ (by simpa using hd) (by rwa [show k+(i+1)=k+1+i by omega])
    rwa [show k+(i+1)=k+1+i by omega] at this
   have e:cQ bnd b (d :: ds) ρ=cQ bnd b ds ρ2:=by
    conv=>lhs;unfold cQ
    simp only [e1]
    rcases a with a | a <;> simp only [af,a]
   rcases h3 with ⟨c,h3⟩ | ⟨i,r,f,hi,c,h3⟩
   ·exact ⟨ρ',.inl ⟨e.trans c,by rw [GG,show k+(ds.length+1)=k+1+ds.length by omega];exact h3⟩⟩
   ·exact ⟨ρ',.inr ⟨i+1,r,f,by simp;omega,e.trans c,by rw [show k+(i+1)=k+1+i by omega];exact h3⟩⟩
  ·refine ⟨ρ2,.inr ⟨0,r,f,by simp,?_,h1⟩⟩
   unfold cQ
   simp only [e1,af,a,aZ]
theorem fc {lo:Int} {n i:Nat} {d:L3.D} (h:(bE lo n)[i]?=some d):i < n/\d=.int (lo+i):=by
 unfold bE at h
 grind
theorem dR {lo:Int} {n:Nat}:(bE lo n).length=n:=by unfold bE;simp
theorem CV {xs:List L3.D} {m:Nat} (h:m<=xs.length):fj xs none (some (m:Int))=xs.take m:=by
 have e1:HT.sIx xs.length 0 none=0:=rfl
 have a:HT.sIx xs.length xs.length (some (m:Int))=m:=by
  simp only [HT.sIx]
  split <;> omega
 unfold fj
 rw [e1,a]
 simp
theorem Small.sub {p q:Pt} (a:Small p) (b:Small q):(-18446744073709551616 < q.1 - p.1/\q.1 - p.1 < 18446744073709551616)/\(-18446744073709551616 < q.2 - p.2/\q.2 - p.2 < 18446744073709551616):=by
 obtain ⟨a1,a2,d,c⟩:=a
 obtain ⟨b1,b2,f,e⟩:=b
 exact ⟨⟨by omega,by omega⟩,⟨by omega,by omega⟩⟩
theorem nK {c:M3 Bool} {b:SM} (P:Nat->Sto->Prop) (Q:Sto->Prop) {n:Nat} {ρ:Sto} (h0:P n ρ)
  (k:∀ n ρ,P n ρ->(∃ ρ1,c ρ=some (.ok false,ρ1)/\Q ρ1)\/∃ ρ1 ρ2 m,c ρ=some (.ok true,ρ1)/\(b ρ1=some (.ok .nx,ρ2)\/b ρ1=some (.ok .ct,ρ2))/\m < n/\P m ρ2):∃ ρ',fL c b ρ=some (.ok .nx,ρ')/\Q ρ':=by
 have main:∀ n ρ,P n ρ->∃ ρ',bY c b (n+1) ρ=some (.ok .nx,ρ')/\Q ρ':=by
  intro n
  induction n using Nat.strongRecOn with
  | _ n ih =>
   intro ρ j
   rcases k n ρ j with ⟨ρ1,e1,d⟩ | ⟨ρ1,ρ2,m,e1,a,hm,i⟩
   ·refine ⟨ρ1,?_,d⟩
    unfold bY
    simp [af,e1,aZ]
   ·obtain ⟨ρ',g,d⟩:=ih m hm ρ2 i
    refine ⟨ρ',?_,d⟩
    have f:=j5 (show m+1<=n by omega) g
    unfold bY
    rcases a with a | a <;> simp [af,e1,a,f]
 obtain ⟨ρ',e,d⟩:=main n ρ h0
 refine ⟨ρ',?_,d⟩
 unfold fL
 have h:∃ n r,bY c b n ρ=some r:=⟨_,_,e⟩
 rw [dif_pos h]
 have a:=Classical.choose_spec (Classical.choose_spec h)
 have g:=j5 (Nat.le_max_left (n+1) (Classical.choose h)) e
 have f:=j5 (Nat.le_max_right (n+1) (Classical.choose h)) a
 rw [g] at f
 exact f.symm
theorem au {a b:SM} {ρ ρ1:Sto} {r:Option (Except L3.D Flw × Sto)} (h1:a ρ=some (.ok .nx,ρ1)) (h2:b ρ1=r):aG a b ρ=r:=by
 simp only [aG,af,h1]
 exact h2
theorem iH {bnd:L3.D->Sto->Option Sto} {c:M3 Bool} {elt:EM} (P:Sto->Prop) (g:L3.D->Bool) (f:L3.D->L3.D):∀ {ds:List L3.D} {τ:Sto},P τ ->
  (∀ d ∈ ds,∀ τ,P τ->∃ τ1 τ2,bnd d τ=some τ1/\c τ1=some (.ok (g d),τ2)/\(g d=false->P τ2)/\(g d=true->∃ r τ3 p τ4,elt τ2=some (.ok r,τ3)/\dy r τ3=some (.ok p,τ4)/\p.1=f d/\P τ4)) ->
  ∃ τ',bX bnd c elt ds τ=some (.ok ((ds.filter g).map f),τ')/\P τ'
 | [],τ,h0,_=>⟨τ,rfl,h0⟩
 | d :: ds,τ,h0,hs=>by
  obtain ⟨τ1,τ2,e1,b,hf,m⟩:=hs d Ga τ h0
  cases a:g d with
  | false =>
   obtain ⟨τ',e,i⟩:=iH P g f (ds:=ds) (τ:=τ2) (hf a) fun d hd=>hs d (Gb _ hd)
   refine ⟨τ',?_,i⟩
   unfold bX
   rw [a] at b
   simp [e1,af,b,e,List.filter_cons,a]
  | true =>
   obtain ⟨r,τ3,p,τ4,k,l,j,h⟩:=m a
   obtain ⟨τ',e,i⟩:=iH P g f (ds:=ds) (τ:=τ4) h fun d hd=>hs d (Gb _ hd)
   refine ⟨τ',?_,i⟩
   unfold bX
   rw [a] at b
   simp [e1,af,b,k,l,e,List.filter_cons,a,aZ,j]
abbrev Tri:=Nat × Nat × Nat
def nt (i j m:Nat):List Tri:=(List.range m).map fun k=>(i,j,j+1+k)
def kb (n i m:Nat):List Tri:=(List.range m).flatMap fun j=>nt i (i+1+j) (n - (i+1+j+1))
def pA (n m:Nat):List Tri:=(List.range m).flatMap fun i=>kb n i (n - (i+1))
def fu (n:Nat):List Tri:=pA n n
theorem qS (i j m:Nat):(nt i j m).length=m:=by simp [nt]
theorem og (n i m:Nat):kb n i (m+1)=kb n i m ++ nt i (i+1+m) (n - (i+1+m+1)):=by simp [kb,List.range_succ,List.flatMap_append]
theorem oh (n m:Nat):pA n (m+1)=pA n m ++ kb n m (n - (m+1)):=by simp [pA,List.range_succ,List.flatMap_append]
theorem zS {i j m:Nat} {t:Tri} (h:t ∈ nt i j m):t.1=i/\t.2.1=j/\j < t.2.2/\t.2.2 < j+1+m:=by
 obtain ⟨k,a,rfl⟩:=Gs.mp h
 grind
theorem rK {n:Nat} {t:Tri} (h:t ∈ fu n):t.1 < t.2.1/\t.2.1 < t.2.2/\t.2.2 < n:=by
 obtain ⟨i,hi,h⟩:=GS.mp h
 obtain ⟨j,a,h⟩:=GS.mp h
 rw [List.mem_range] at hi a
 obtain ⟨h1,h2,h3,b⟩:=zS h
 exact ⟨by omega,by omega,by omega⟩
theorem uY (n i m:Nat):(kb n i m).length<=m * n:=by
 induction m with
 | zero=>simp [kb]
 | succ m ih=>rw [og,GF,qS,Nat.succ_mul];omega
theorem BK (n m:Nat):(pA n m).length<=m * (n * n):=by
 induction m with
 | zero=>simp [pA]
 | succ m ih =>
  rw [oh,GF,Nat.succ_mul]
  have:=uY n m (n - (m+1))
  have h2:(n - (m+1)) * n<=n * n:=Nat.mul_le_mul (by omega) (Gv _)
  omega
theorem tJ {n m:Nat} (a:n<=25) (hm:m<=25):(pA n m).length<=15625:=by
 have h1:=BK n m
 have h2:n * n<=25 * 25:=Nat.mul_le_mul a a
 have h3:m * (n * n)<=25 * (25 * 25):=Nat.mul_le_mul hm h2
 omega
theorem tH {n i m:Nat} (a:n<=25) (hm:m<=25):(kb n i m).length<=625:=by
 have h1:=uY n i m
 have h2:m * n<=25 * 25:=Nat.mul_le_mul hm a
 omega
abbrev Td (t:Tri):L3.D:=.tup [.int t.1,.int t.2.1,.int t.2.2]
abbrev Shd (ps:List Pt):L3.D:=.tup (ps.map Pd)
theorem bc {im:IM} {bnd:L3.D->Sto->Option Sto} {c:M3 Bool} {elt:EM} {ix:List (Option Nat)} {ρ ρ1 ρ2 τ:Sto} {rs:List R3} {ds out:List L3.D} (h1:im ρ=some (.ok (rs,ds),ρ1)) (h2:bX bnd c elt ds (uu ix (aK cL (us ρ1 (pls rs)) ρ1))=some (.ok out,τ)) (h3:ds.length < 16777216) (a:uncap ix τ (aK cL (us ρ1 (pls rs)) ρ1)=some ρ2) :
  bx im bnd c elt ix ρ=some (.ok (.val (.lst out) .u),aK gv (us ρ1 (pls rs)) ρ2):=by
 simp [bx,af,h1,h2,h3,a]
theorem sO:∀ {ds:List L3.D},(∀ d ∈ ds,d=.bl true)->eO ds=some (List.replicate ds.length true)
 | [],_=>rfl
 | d :: ds,h=>by
  have h1:=h d Ga
  subst h1
  have h2:=sO fun d hd=>h d (Gb _ hd)
  simp [eO,h2,List.replicate_succ]
theorem o8 {ds:List L3.D} (h:∀ d ∈ ds,d=.bl true):FY (.lst ds)=some (.bl true,.z):=by
 simp [FY,sO h]
theorem we {xs:List L3.D} {i:Nat} {d:L3.D} (h:xs[i]?=some d):L2.atI xs (i:Int)=some d:=by
 obtain ⟨h1,h2⟩:=Gp.mp h
 simp [L2.atI,ixN,h1,h2]
theorem xQ {ps:List Pt} {i:Nat} {p:Pt} (h:ps[i]?=some p):L2.atI (ps.map Pd) (i:Int)=some (Pd p):=we (by simp [h])
theorem Ab {f:List L3.D->Option (List L3.D)} {ms:M3 (List R3)} {ρ ρ1 ρ2:Sto} {rs:List R3} {ds xs:List L3.D} (h1:ms ρ=some (.ok rs,ρ1)) (h2:cR rs ρ1=some (.ok ds,ρ2)) (h3:f ds=some xs):bP f ms ρ=some (.ok ([],xs),ρ2):=by
 simp [bP,af,h1,h2,h3,ba]
theorem uZ {a b:Int} (f:-1000<=a/\a<=1000) (e:-1000<=b/\b<=1000) {n:Nat} (d:(b - a).toNat=n):lZ [.int a,.int b]=some (bE a n):=by
 have lm:gq a=true:=GA (by omega)
 have c:gq b=true:=GA (by omega)
 show (if (gq a && gq b)=true then some (bE a (b - a).toNat) else none)=_
 rw [lm,c,d]
 exact if_pos rfl
theorem eA {b:Int} (d:-1000<=b/\b<=1000) {n:Nat} (c:b.toNat=n):dS [.int b]=some (bE 0 n):=by
 have a:gq b=true:=GA (by omega)
 show (if (gq b)=true then some (bE 0 b.toNat) else none)=_
 rw [a,c]
 exact if_pos rfl
end Bn
end
section
namespace Bn
open PySem L2 L3
section
variable {α:Type} {ρ ρ1 ρ2 ρ3:Sto} {ma mb mc m:EM} {ms:M3 (List R3)} {ra rb r:R3} {rs:List R3} {da db d:L3.D} {ds:List L3.D} {fl:Fl} {i n np:Nat} {sa sb:SM} {c cc:M3 Bool} {b b2:Bool} {x:Option (Except L3.D Flw × Sto)} {y:Option (Except L3.D R3 × Sto)}
theorem aB {p:L3.D × Fl} (h:(ρ[i]?).join=some p):ac i ρ=some (.ok (.pl i),ρ):=by simp [ac,h]
theorem i_c:mC d ρ=some (.ok (.val d .z),ρ):=rfl
theorem eL {f:L3.D->L3.D->Option (L3.D × Fl)} (h1:ma ρ=some (.ok ra,ρ1)) (h2:mb ρ1=some (.ok rb,ρ2)) (h3:der ra ρ2=some (.ok da,ρ2)) (a:der rb ρ2=some (.ok db,ρ2)) (b:f da db=some (d,fl)):aj f ma mb ρ=some (.ok (.val d fl),ρ2):=by
 simp only [aj,af,h1,h2,h3,a,ba,b,GI]
theorem i_un {f:L3.D->Option (L3.D × Fl)} (h1:ma ρ=some (.ok ra,ρ1)) (h3:der ra ρ1=some (.ok da,ρ1)) (a:f da=some (d,fl)):mUn f ma ρ=some (.ok (.val d fl),ρ1):=by
 simp only [mUn,af,h1,h3,ba,a,GI]
theorem bp {f:List L3.D->Option (L3.D × Fl)} (h1:ms ρ=some (.ok rs,ρ1)) (h3:cR rs ρ1=some (.ok ds,ρ1)) (a:f ds=some (d,fl)):ay f ms ρ=some (.ok (.val d fl),ρ1):=by
 simp only [ay,af,h1,h3,ba,a,GI]
theorem aP:ag ρ=some (.ok [],ρ):=rfl
theorem aq (h1:m ρ=some (.ok r,ρ1)) (h2:ms ρ1=some (.ok rs,ρ2)):aa m ms ρ=some (.ok (r :: rs),ρ2):=by
 simp only [aa,af,h1,h2,aZ]
theorem FF {mk:List L3.D->L3.D} {f:Fl} (h1:ms ρ=some (.ok rs,ρ1)) (h2:gives rs ρ1=some (.ok ds,ρ2)) (h3:ds.length<=16777216):rT mk f ms ρ=some (.ok (.val (mk ds) f),ρ2):=by
 simp only [rT,af,h1,h2,ba,h3,if_true,GI]
theorem av {F:Fn} {ps qs:List (L3.D × Fl)} (b:F ps=some (.ok (d,fl),qs)) (h1:ms ρ=some (.ok rs,ρ1)) (h2:prs (frz (d7 rs) ρ1) rs=some ps) (h3:qs.length=ps.length) (a:back rs ps qs (frz (d7 rs) ρ1) = ρ2):ak F ms ρ=some (.ok (.val d fl),ρ2):=by
 simp only [ak,af,h1,h2,b,h3,if_true,a]
theorem mI {p:L3.D × Fl} (h1:m ρ=some (.ok r,ρ1)) (h2:dy r ρ1=some (.ok p,ρ2)) (h3:i < ρ2.length) (a:ρ2.set i (some p) = ρ3):a7 i m ρ=some (.ok .nx,ρ3):=by
 simp only [a7,af,h1,h2,h3,if_true,a]
theorem i_asg {bnd:L3.D->Sto->Option Sto} {p:L3.D × Fl} (h1:m ρ=some (.ok r,ρ1)) (h2:dy r ρ1=some (.ok p,ρ2)) (h3:bnd p.1 ρ2=some ρ3):nq bnd m ρ=some (.ok .nx,ρ3):=by
 simp only [nq,af,h1,h2,h3,GI]
theorem uj (h1:m ρ=some (.ok r,ρ1)):gi m ρ=some (.ok .nx,ρ1):=by
 simp only [gi,af,h1,aZ]
def retF (np:Nat) (r:R3):SM:=aM np (aZ r)
theorem bj (h1:m ρ=some (.ok r,ρ1)) (h2:retF np r ρ1=x):aM np m ρ=x:=by
 rw [<- h2]
 unfold retF
 simp only [aM,af,h1,aZ]
theorem fD (h1:sa ρ=some (.ok (.rt d fl),ρ1)):aG sa sb ρ=some (.ok (.rt d fl),ρ1):=by
 simp only [aG,af,h1,aZ]
theorem ee (h1:m ρ=some (.ok r,ρ1)) (h2:der r ρ1=some (.ok (.bl b),ρ1)):cB m ρ=some (.ok b,ρ1):=by
 simp only [cB,af,h1,h2,ba,asB,GI]
theorem bQ (h1:c ρ=some (.ok b,ρ1)):dF c ρ=some (.ok (!b),ρ1):=by
 simp only [dF,af,h1,aZ]
theorem eK (h1:c ρ=some (.ok b,ρ1)) (a:b=true) (h2:sa ρ1=x):sIf c sa sb ρ=x:=by
 subst a;simp only [sIf,af,h1,if_true];exact h2
theorem bW (h1:c ρ=some (.ok b,ρ1)) (a:b=false) (h2:sb ρ1=x):sIf c sa sb ρ=x:=by
 subst a;simp only [sIf,af,h1,GL,if_false];exact h2
theorem jf (h1:c ρ=some (.ok b,ρ1)) (a:b=false) (h2:cc ρ1=some (.ok b2,ρ2)):cOr c cc ρ=some (.ok b2,ρ2):=by
 subst a;simp only [cOr,af,h1,GL,if_false];exact h2
theorem Dp (h1:c ρ=some (.ok b,ρ1)) (a:b=true):cOr c cc ρ=some (.ok true,ρ1):=by
 subst a;simp only [cOr,af,h1,if_true];rfl
theorem pX (h1:ma ρ=some (.ok r,ρ1)) (h2:der r ρ1=some (.ok (.bl b),ρ1)) (a:b=true) (h3:mb ρ1=y):i9 ma mb ρ=y:=by
 subst a;simp only [i9,af,h1,h2,ba,asB,GI,if_true];exact h3
theorem FD (h1:c ρ=some (.ok b,ρ1)) (a:b=true) (h2:ma ρ1=y):mIf c ma mb ρ=y:=by
 subst a;simp only [mIf,af,h1,if_true];exact h2
theorem FE (h1:c ρ=some (.ok b,ρ1)) (a:b=false) (h2:mb ρ1=y):mIf c ma mb ρ=y:=by
 subst a;simp only [mIf,af,h1,GL,if_false];exact h2
theorem i_sl {f:L3.D->Option Int->Option Int->Option (L3.D × Fl)} {pl pu:M3 (Option Int)} {lo hi:Option Int} (h1:ma ρ=some (.ok ra,ρ1)) (h2:pl ρ1=some (.ok lo,ρ2)) (h3:pu ρ2=some (.ok hi,ρ3)) (b:der ra ρ3=some (.ok da,ρ3)) (a:f da lo hi=some (d,fl)):mSl f ma pl pu ρ=some (.ok (.val d fl),ρ3):=by
 simp only [mSl,af,h1,h2,h3,b,ba,a,GI]
theorem CI:kR ρ=some (.ok none,ρ):=rfl
theorem CH {k:Int} (h1:m ρ=some (.ok r,ρ1)) (h2:der r ρ1=some (.ok (.int k),ρ1)):dW m ρ=some (.ok (some k),ρ1):=by
 simp only [dW,af,h1,h2,ba,asI,GI]
theorem Af {ok:L3.D->Bool} {f:L3.D->List L3.D->Option (L3.D × L3.D)} {a c b:L3.D} (h0:(ρ[i]?).join=some (d,fl)) (h:ok d=true) (h1:ms ρ=some (.ok rs,ρ1)) (h2:gives rs ρ1=some (.ok ds,ρ2)) (h3:(ρ2[i]?).join=some (a,.u)) (g:f a ds=some (c,b)) (e:ρ2.set i (some (c,.u)) = ρ3):pN ok f i ms ρ=some (.ok (.val b .z),ρ3):=by
 simp only [pN,af,aB h0,chk,h0,h,if_true,h1,h2,h3,g,e]
theorem Do {f:L3.D->List L3.D->Option (L3.D × L3.D)} {a b g:L3.D} (h1:mb ρ=some (.ok rb,ρ1)) (h0:(ρ1[i]?).join=some (d,fl)) (h2:ma ρ1=some (.ok ra,ρ2)) (h3:gives [ra,rb] ρ2=some (.ok ds,ρ3)) (e:(ρ3[i]?).join=some (a,.u)) (c:f a ds=some (b,g)):nk f i ma mb ρ=some (.ok .nx,ρ3.set i (some (b,.u))):=by
 simp only [nk,af,h1,aB h0,h2,h3,e,c]
theorem aL {mask:List Bool} {ps qs:List (L3.D × Fl)} (h1:ps.length=mask.length) (h0:d6 n (List.zipWith lf mask ps) = ρ) (h2:sa ρ=some (.ok (.rt d fl),ρ1)) (h3:du ρ1 0 (List.zipWith lf mask ps)=some qs):fnM mask n sa ps=some (.ok (d,fl),qs):=by
 subst h0;simp only [fnM,h1,if_true,fn0,h2,h3,GI]
theorem F_nx {mask:List Bool} {ps qs:List (L3.D × Fl)} (h1:ps.length=mask.length) (h0:d6 n (List.zipWith lf mask ps) = ρ) (h2:sa ρ=some (.ok .nx,ρ1)) (h3:du ρ1 0 (List.zipWith lf mask ps)=some qs):fnM mask n sa ps=some (.ok (.non,.z),qs):=by
 subst h0;simp only [fnM,h1,if_true,fn0,h2,h3,GI]
theorem gj {i j:Int} (h:-18446744073709551616 < i/\i < 18446744073709551616):eR (.int i) (.int j)=some (.int (i * j),.z):=by
 simp [b6,h]
theorem zO {i j:Int} (h:-18446744073709551616 < j/\j < 18446744073709551616):eR (.int i) (.int j)=some (.int (i * j),.z):=by
 simp [b6,h]
theorem iD {im:IM} {bnd:L3.D->Sto->Option Sto} {o:Except L3.D Flw} (h1:im ρ=some (.ok (rs,ds),ρ1)) (a:us ρ1 (pls rs)=[]) (h2:cQ bnd sb ds ρ1=some (o,ρ2)):c8 im bnd sb ρ=some (o,ρ2):=by
 have b:∀ f ρ,aK f [] ρ = ρ:=fun _ _=>rfl
 simp only [c8,af,h1,a,b,h2,GI]
theorem CJ (h1:m ρ=some (.ok r,ρ1)) (h2:der r ρ1=some (.ok d,ρ1)) (h3:uV d=some ds):bO m ρ=some (.ok ([r],ds),ρ1):=by
 simp only [bO,af,h1,h2,ba,h3,GI]
theorem gr {f:List L3.D->Option (List L3.D)} {xs:List L3.D} (h1:ms ρ=some (.ok rs,ρ1)) (h2:cR rs ρ1=some (.ok ds,ρ1)) (h3:f ds=some xs):bP f ms ρ=some (.ok ([],xs),ρ1):=Ab h1 h2 h3
end
theorem bz {α:Type} {bnd:L3.D->Sto->Option Sto} {c:M3 Bool} {elt:EM} (P:Sto->Prop) (D:α->L3.D) (g:α->Bool) (f:α->L3.D):∀ {xs:List α} {τ:Sto},P τ ->
  (∀ x ∈ xs,∀ τ,P τ->∃ τ1 τ2,bnd (D x) τ=some τ1/\c τ1=some (.ok (g x),τ2)/\(g x=false->P τ2)/\(g x=true->∃ r τ3 p τ4,elt τ2=some (.ok r,τ3)/\dy r τ3=some (.ok p,τ4)/\p.1=f x/\P τ4)) ->
  ∃ τ',bX bnd c elt (xs.map D) τ=some (.ok ((xs.filter g).map f),τ')/\P τ'
 | [],τ,h0,_=>⟨τ,rfl,h0⟩
 | x :: xs,τ,h0,hs=>by
  obtain ⟨τ1,τ2,e1,b,hf,m⟩:=hs x Ga τ h0
  cases a:g x with
  | false =>
   obtain ⟨τ',e,i⟩:=bz P D g f (xs:=xs) (τ:=τ2) (hf a) fun d hd=>hs d (Gb _ hd)
   refine ⟨τ',?_,i⟩
   rw [Gz]
   unfold bX
   rw [a] at b
   simp [e1,af,b,e,List.filter_cons,a]
  | true =>
   obtain ⟨r,τ3,p,τ4,k,l,j,h⟩:=m a
   obtain ⟨τ',e,i⟩:=bz P D g f (xs:=xs) (τ:=τ4) h fun d hd=>hs d (Gb _ hd)
   refine ⟨τ',?_,i⟩
   rw [Gz]
   unfold bX
   rw [a] at b
   simp [e1,af,b,k,l,e,List.filter_cons,a,aZ,j]
section
variable {α:Type} {P:List α->Prop} {us:List α}
theorem bnd0 (h:us.length=0) (f:P []):P us:=by
 cases us with
 | nil=>exact f
 | cons a us=>cases h
theorem C2 {n:Nat} (h:us.length=n+1) (f:∀ a r,r.length=n->P (a :: r)):P us:=by
 cases us with
 | nil=>cases h
 | cons a us=>exact f a us (Nat.succ.inj h)
theorem bnd1 (h:us.length=1) (f:∀ a,P [a]):P us:=C2 h fun a _ h=>bnd0 (P:=fun r=>P (a :: r)) h (f a)
theorem bnd2 (h:us.length=2) (f:∀ a b,P [a,b]):P us:=C2 h fun a _ h=>bnd1 (P:=fun r=>P (a :: r)) h (f a)
theorem bnd3 (h:us.length=3) (f:∀ a b c,P [a,b,c]):P us:=C2 h fun a _ h=>bnd2 (P:=fun r=>P (a :: r)) h (f a)
theorem bnd4 (h:us.length=4) (f:∀ a b c d,P [a,b,c,d]):P us:=C2 h fun a _ h=>bnd3 (P:=fun r=>P (a :: r)) h (f a)
end
theorem hb1 {x:Str} {st:Stmt} {b:Str} (f:∀ (kV doc pm:Value) (an:Option Addr) (a ct a0:Value),bindArgs (PySem.W.fnOf x x (aQ st) (aE st) (ad st) .none kV doc pm an a ct) ⟨[a0],[]⟩=pure ([b].zip [a0])) (kV doc pm:Value) (an:Option Addr) (a ct:Value) (us:List Value) (c:us.length=[b].length):bindArgs (PySem.W.fnOf x x (aQ st) (aE st) (ad st) .none kV doc pm an a ct) ⟨us,[]⟩=pure ([b].zip us) :=
 bnd1 (P:=fun us=>bindArgs (PySem.W.fnOf x x (aQ st) (aE st) (ad st) .none kV doc pm an a ct) ⟨us,[]⟩=pure ([b].zip us)) c (f kV doc pm an a ct)
theorem hb2 {x:Str} {st:Stmt} {b c:Str} (f:∀ (kV doc pm:Value) (an:Option Addr) (a ct a0 a1:Value),bindArgs (PySem.W.fnOf x x (aQ st) (aE st) (ad st) .none kV doc pm an a ct) ⟨[a0,a1],[]⟩=pure ([b,c].zip [a0,a1])) (kV doc pm:Value) (an:Option Addr) (a ct:Value) (us:List Value) (d:us.length=[b,c].length):bindArgs (PySem.W.fnOf x x (aQ st) (aE st) (ad st) .none kV doc pm an a ct) ⟨us,[]⟩=pure ([b,c].zip us) :=
 bnd2 (P:=fun us=>bindArgs (PySem.W.fnOf x x (aQ st) (aE st) (ad st) .none kV doc pm an a ct) ⟨us,[]⟩=pure ([b,c].zip us)) d (f kV doc pm an a ct)
theorem hb3 {x:Str} {st:Stmt} {b c p2:Str} (f:∀ (kV doc pm:Value) (an:Option Addr) (a ct a0 a1 a2:Value),bindArgs (PySem.W.fnOf x x (aQ st) (aE st) (ad st) .none kV doc pm an a ct) ⟨[a0,a1,a2],[]⟩=pure ([b,c,p2].zip [a0,a1,a2])) (kV doc pm:Value) (an:Option Addr) (a ct:Value) (us:List Value) (d:us.length=[b,c,p2].length):bindArgs (PySem.W.fnOf x x (aQ st) (aE st) (ad st) .none kV doc pm an a ct) ⟨us,[]⟩=pure ([b,c,p2].zip us) :=
 bnd3 (P:=fun us=>bindArgs (PySem.W.fnOf x x (aQ st) (aE st) (ad st) .none kV doc pm an a ct) ⟨us,[]⟩=pure ([b,c,p2].zip us)) d (f kV doc pm an a ct)
theorem hb4 {x:Str} {st:Stmt} {b c p2 d:Str} (f:∀ (kV doc pm:Value) (an:Option Addr) (a ct a0 a1 a2 e:Value),bindArgs (PySem.W.fnOf x x (aQ st) (aE st) (ad st) .none kV doc pm an a ct) ⟨[a0,a1,a2,e],[]⟩=pure ([b,c,p2,d].zip [a0,a1,a2,e])) (kV doc pm:Value) (an:Option Addr) (a ct:Value) (us:List Value) (g:us.length=[b,c,p2,d].length):bindArgs (PySem.W.fnOf x x (aQ st) (aE st) (ad st) .none kV doc pm an a ct) ⟨us,[]⟩=pure ([b,c,p2,d].zip us) :=
 bnd4 (P:=fun us=>bindArgs (PySem.W.fnOf x x (aQ st) (aE st) (ad st) .none kV doc pm an a ct) ⟨us,[]⟩=pure ([b,c,p2,d].zip us)) g (f kV doc pm an a ct)
end Bn
end
section
namespace L3
open PySem L2
def tgN:Expr->List Str
 | .Name x _=>[x]
 | .Tuple [.Name x _,.Name y _] _ _=>[x,y]
 | .Tuple [.Name x _,.Name y _,.Name z _] _ _=>[x,y,z]
 | _=>[]
def rg (tg:Expr) (N:List Str) (ix:List (Option Nat)):List Str:=tgN tg ++ ix.filterMap fun o=>o.bind fun i=>N[i]?
def ndB:List Str->Bool
 | []=>true
 | x :: xs=>!(xs.any fun y=>decide (y=x)) && ndB xs
theorem rD:∀ {xs:List Str},ndB xs=true->xs.Nodup
 | [],_=>.nil
 | x :: xs,h=>by
  simp only [ndB,Bool.and_eq_true,Bool.not_eq_true',List.any_eq_false,decide_eq_true_eq] at h
  exact List.nodup_cons.mpr ⟨fun m=>h.1 x m rfl,rD h.2⟩
section
variable {X:Cx} {G0:Gm} {W0:D->Sto->Prop} {pos:Pos}
theorem y9 (g:X.calm=true) (hi:RI X G0 W0 tg iter im) (e:∀ s H C fp,PTs (aR X (rg tg X.N ix) scope s H C fp) ifs (tT X.K (bd ix) noX cm)) (he:∀ s H C fp,RE (aR X (rg tg X.N ix) scope s H C fp) (bd ix) noX elt em) (d:iG scope X.N X.env.scope (rg tg X.N ix) ix=true) (b:Inj ix) (f:∀ x,foldedSetIterable iter X.env x=pure x) (c:∃ a,Bnd X.K (bd ix).pr a bnd/\∀ s H C fp,PG (aR X (rg tg X.N ix) scope s H C fp) tg a):RE X G0 W0 (.ListComp elt [⟨tg,iter,ifs,0⟩] scope pos) (bx im bnd cm em ix) :=
 BQ _ ix g hi e he d b f c
theorem kM {i:Nat} (e:X.N.Nodup) (j:X.N[i]?=some y) (f:Loc X.env.scope y) (m:X.calm=true) (hi:RI X G0 W0 tg iter im) (h:∀ s H C fp,PTs (aR X (rg tg X.N ix) scope s H C fp) ifs (tT X.K (bd ix) noX cm)) (he:∀ s H C fp,RE (aR X (rg tg X.N ix) scope s H C fp) (bd ix) noX elt em) (g:iG scope X.N X.env.scope (rg tg X.N ix) ix=true) (c:Inj ix) (d:swapsWith (.ListComp elt [⟨tg,iter,ifs,0⟩] scope pos) (some (.Name y py)) spos.line X.env=pure true) (hf:X.fn y=true\/X.env.scope.names.lookup y=some .local) (l:∀ x,foldedSetIterable iter X.env x=pure x) (k:G0.pr i=false) (b:∃ a,Bnd X.K (bd ix).pr a bnd/\∀ s H C fp,PG (aR X (rg tg X.N ix) scope s H C fp) tg a):RS X G0 W0 (.Assign [.Name y py] (.ListComp elt [⟨tg,iter,ifs,0⟩] scope pos) spos) (a7 i (bx im bnd cm em ix)) :=
 tG e j f _ ix m hi h he g c d hf l k b
theorem BP (e:Gl X tn) (k:X.mg tn=some (.ref C)) (g:IsX X.K (.ref C) cs) (b:(tn == ("__debug__":Str))=false) (j:Gl X "isinstance") (hm:X.mg "isinstance"=none) (i:RE X G0 W0 a ma) (f:starEach [a,.Name tn pT] X.env=(false,eval a X.env) :: starEach [.Name tn pT] X.env) (c:starEach [.Name tn pT] X.env=(false,eval (.Name tn pT) X.env) :: starEach [] X.env) (d:(backTo pos (starEach [.Name tn pT] X.env)).any (·.1)=false):RE X G0 W0 (.Call (.Name "isinstance" p) [a,.Name tn pT] [] pos) (mUn (jR cs) ma) :=
 vd (t:=V.ref C) (fun _ h=>h) g j hm (vt e k rfl b) i f c d
end
section
variable {X:Cx} {G0:Gm} {W0:D->Sto->Prop} {p q r:Pos} {m:EM} {e e1:Expr} {es:List Expr} {t:M3 Bool} {sm:SM}
theorem gN {i:Nat} (h:RE X G0 W0 (.Name x p) (ac i)):RE X G0 W0 (.Name x p) (ac i):=h
theorem gG (h:RE X G0 W0 (.Name x p) (mC d)):RE X G0 W0 (.Name x p) (mC d):=h
theorem gH (h:RE X G0 W0 (.Name x p) m):RE X G0 W0 (.Name x p) m:=h
theorem gK {k:Nat} (h:RE X G0 W0 (.Constant c k p) m):RE X G0 W0 (.Constant c k p) m:=h
theorem gB (op:Operator) (h:RE X G0 W0 (.BinOp e op e1 p) m):RE X G0 W0 (.BinOp e op e1 p) m:=h
theorem gU (op:UnaryOp) (h:RE X G0 W0 (.UnaryOp op e p) m):RE X G0 W0 (.UnaryOp op e p) m:=h
theorem gP (os:List CmpOp) (h:RE X G0 W0 (.Compare e os es p) m):RE X G0 W0 (.Compare e os es p) m:=h
theorem gO (h:RE X G0 W0 (.BoolOp op es p) m):RE X G0 W0 (.BoolOp op es p) m:=h
theorem gS (h:RE X G0 W0 (.Subscript e e1 p) m):RE X G0 W0 (.Subscript e e1 p) m:=h
theorem gL (h:RE X G0 W0 (.Subscript e (.Slice a b c p) q) m):RE X G0 W0 (.Subscript e (.Slice a b c p) q) m:=h
theorem gI (x:Str) (h:RE X G0 W0 (.Call (.Name s p) [e,.Name x q] [] r) m):RE X G0 W0 (.Call (.Name s p) [e,.Name x q] [] r) m:=h
theorem gC (x:Str) (h:RE X G0 W0 (.Call (.Name x p) es ks q) m):RE X G0 W0 (.Call (.Name x p) es ks q) m:=h
theorem gD (h:RE X G0 W0 (.Call (.Name x p) es ks q) m):RE X G0 W0 (.Call (.Name x p) es ks q) m:=h
theorem gM (x:Str) (h:RE X G0 W0 (.Call (.Attribute e x p) es ks q) m):RE X G0 W0 (.Call (.Attribute e x p) es ks q) m:=h
theorem gE (h:RE X G0 W0 e m):RE X G0 W0 e m:=h
theorem gA (h:RA X G0 W0 es ms):RA X G0 W0 es ms:=h
theorem gQ (os:List CmpOp) (h:RT X G0 W0 (.Compare e os es p) t):RT X G0 W0 (.Compare e os es p) t:=h
theorem gW (h:RT X G0 W0 (.BoolOp op es p) t):RT X G0 W0 (.BoolOp op es p) t:=h
theorem gV (h:RT X G0 W0 (.UnaryOp .Not e p) t):RT X G0 W0 (.UnaryOp .Not e p) t:=h
theorem gT (h:RT X G0 W0 e t):RT X G0 W0 e t:=h
theorem gR (h:RS X G0 W0 (.Return o p) sm):RS X G0 W0 (.Return o p) sm:=h
theorem gF (h:RS X G0 W0 (.If e ss tt p) sm):RS X G0 W0 (.If e ss tt p) sm:=h
theorem gX (h:RS X G0 W0 (.Assign [.Name x p] e q) sm):RS X G0 W0 (.Assign [.Name x p] e q) sm:=h
theorem gZ (h:RS X G0 W0 st sm):RS X G0 W0 st sm:=h
theorem gY (h:RSs X G0 W0 ss sm):RSs X G0 W0 ss sm:=h
end
end L3
end
section
namespace Bn
open PySem L2 L3
local macro_rules | `(tactic| infer_instance)=>`(tactic| first | with_reducible apply aB | with_reducible exact i_c | with_reducible apply eL | with_reducible apply i_un | with_reducible apply bp | with_reducible exact aP | with_reducible apply aq | with_reducible apply FF | with_reducible apply mI | with_reducible apply i_asg | with_reducible apply uj | with_reducible apply bj | with_reducible exact i_nilS | with_reducible apply ee | with_reducible apply bQ | with_reducible apply i_mNot | with_reducible apply i_sl | with_reducible exact CI | with_reducible apply CH | with_reducible apply Af | with_reducible apply Do | with_reducible apply CJ | with_reducible apply gr | with_reducible apply pX | with_reducible apply jf)
local macro_rules | `(tactic| eq_refl)=>`(tactic| first | exact rfl | exact Nat.le_of_ble_eq_true rfl)
local macro_rules | `(tactic| nofun) => `(tactic| repeat' (first | infer_instance | eq_refl))
local macro_rules | `(tactic| exists $es,*) => `(tactic| repeat' (first | infer_instance | (first $[| exact $es]*) | eq_refl))
local macro_rules | `(tactic| nomatch [$fs,*]) => `(tactic| repeat' (first | infer_instance | (first $[| with_reducible apply av $fs]*) | eq_refl))
local macro_rules | `(tactic| nomatch [$fs,*], [$es,*]) => `(tactic| repeat' (first | infer_instance | (first $[| with_reducible apply av $fs]*) | (first $[| exact $es]*) | eq_refl))
section
variable {X:Cx} {G0:Gm} {W0:L3.D->Sto->Prop} {pos:Pos}
end
section
variable {P:Program} {w:World} {K:FG} {mg:Str->Option Value} {base:Heap}
local macro_rules | `(tactic| ac_rfl) => `(tactic| exact ⟨rfl,rfl,rfl,by decide +kernel,rfl,by decide +kernel,by decide +kernel⟩)
set_option hygiene false
local macro_rules | `(tactic| and_intros)=>`(tactic| repeat' (first
 | ((with_reducible apply gA);first | refine ve ?_ ?_ rfl | refine zc)
 | ((with_reducible apply gN);first | refine pB _ rfl (Or.inl rfl) (by decide) (by decide) | refine pB _ rfl (Or.inr (Or.inl rfl)) (by decide) (by decide))
 | ((with_reducible apply gG);refine qT rfl (by assumption) (by decide))
 | ((with_reducible apply gK);first | refine Ex | refine re_bl | refine Es | refine Ev)
 | ((with_reducible apply gL);refine y7 ?_ ?_ ?_)
 | ((with_reducible apply gS);refine re_ix (FA hr.hu) E8 ?_ ?_ (fun _ _=>rfl))
 | ((with_reducible apply gB .Add);refine kc Ca Fb ?_ ?_)
 | ((with_reducible apply gB .Sub);refine kc EZ Cf ?_ ?_)
 | ((with_reducible apply gB .Mult);refine kc E4 Ci ?_ ?_)
 | ((with_reducible apply gB .Mod);refine kc E5 Cj ?_ ?_)
 | ((with_reducible apply gB .FloorDiv);refine kc zD Cl ?_ ?_)
 | ((with_reducible apply gB .Pow);refine kc E2 Cg ?_ ?_)
 | ((with_reducible apply gQ [.NotEq]);refine j9 (E3 hr.units) E9 ?_ ?_ (fQ _))
 | ((with_reducible apply gQ [.Eq]);refine j9 (zE hr.units) zI ?_ ?_ (fQ _))
 | ((with_reducible apply gQ [.Lt]);refine j9 vw zG ?_ ?_ (fQ _))
 | ((with_reducible apply gQ [.Gt]);refine j9 Dj Dk ?_ ?_ (fQ _))
 | ((with_reducible apply gQ [.GtE]);refine j9 op_ge od_ge ?_ ?_ (fQ _))
 | ((with_reducible apply gQ [.NotIn]);refine j9 (B9 hr.units) Ch ?_ ?_ (by with_unfolding_all rfl))
 | ((with_reducible apply gW);refine rt_w ?_)
 | ((with_reducible apply gV);refine Ei ?_)
 | ((with_reducible apply gT);refine Eh ?_ (fun _=>rfl))
 | ((with_reducible apply gP [.Eq]);refine pD (zE hr.units) zI ?_ ?_ (fQ _))
 | ((with_reducible apply gP [.Lt]);refine pD vw zG ?_ ?_ (fQ _))
 | ((with_reducible apply gP [.LtE,.Lt]);refine qU oB zH vw zG ?_ ?_ ?_ (fun h1 h2 h3=>q8 oB vw h1 h2 h3))
 | ((with_reducible apply gP [.LtE,.LtE]);refine qU oB zH oB zH ?_ ?_ ?_ (fun h1 h2 h3=>q8 oB oB h1 h2 h3))
 | ((with_reducible apply gP [.Is]);refine pD E6 Fa ?_ ?_ (fQ _))
 | ((with_reducible apply gP [.Gt]);refine pD Dj Dk ?_ ?_ (fQ _))
 | ((with_reducible apply gO);first | refine EA ?_ ?_ | refine Et ?_)
 | ((with_reducible apply gU .USub);refine re_un DC DD ?_)
 | ((with_reducible apply gU .Not);refine Eu ?_)
 | ((with_reducible apply gI "tuple");refine tL mT rfl B.isinstance (lz (v:=V.ty "tuple") rfl B.tuple wc rfl (by decide) (by decide)) ?_ rfl rfl rfl)
 | ((with_reducible apply gI "int");refine tL qf rfl B.isinstance (lz (v:=V.ty "int") rfl B.int b_int rfl (by decide) (by decide)) ?_ rfl rfl rfl)
 | ((with_reducible apply gI "bool");refine tL nC rfl B.isinstance (lz (v:=V.ty "bool") rfl B.bool FW rfl (by decide) (by decide)) ?_ rfl rfl rfl)
 | ((with_reducible apply gI "ValueError");refine vd (t:=V.ty "ValueError") (fun _ h=>h) T_ValueError rfl B.isinstance (lz rfl Z_ValueError qm rfl (by decide) (by decide)) ?_ rfl rfl rfl)
 | ((with_reducible apply gC "len");refine de qe FQ rfl B.len b_len ?_ (by decide) (by decide) rfl rfl)
 | ((with_reducible apply gC "isinstance");refine BP rfl (by assumption) (by assumption) (by decide) rfl B.isinstance ?_ rfl rfl rfl)
 | ((with_reducible apply gC "all");refine de (AG rfl) FR rfl B.all b_all ?_ (by decide) (by decide) rfl rfl)
 | ((with_reducible apply gC "tuple");refine oq nB FO rfl B.tuple wc ?_ (by decide) (by decide) rfl rfl)
 | ((with_reducible apply gC "repr");refine de (uz hr.gd hr.units) CW rfl B.repr FU ?_ (by decide) (by decide) rfl rfl)
 | ((with_reducible apply gC "list");refine oq qd FP rfl B.list FV ?_ (by decide) (by decide) rfl rfl)
 | ((with_reducible apply gC "abs");refine de AH FS rfl B.abs b_abs ?_ (by decide) (by decide) rfl rfl)
 | ((with_reducible apply gC "divmod");refine de sF xF rfl B.divmod AL ?_ (by decide) (by decide) rfl rfl)
 | ((with_reducible apply gC "sorted");first | refine re_ss rfl rfl B.sorted sN rfl B.set b_set ?_ (by decide) (by decide) (by decide) (by decide) rfl rfl | refine de (ux (Nat.lt_of_le_of_lt (Nat.add_le_add_left (by decide:2<=64) _) hr.units)) AD rfl B.sorted sN ?_ (by decide) (by decide) rfl rfl)
 | ((with_reducible apply gC "min");refine de (xJ rfl) CY rfl B.min b_min ?_ (by decide) (by decide) rfl rfl)
 | ((with_reducible apply gC "max");refine de (xK rfl) CZ rfl B.max b_max ?_ (by decide) (by decide) rfl rfl)
 | ((with_reducible apply gD);first | refine BR (by assumption) (hr.mono (by first | decide | omega)) ?_ rfl (by decide) rfl rfl | refine za (by assumption) (hr.mono (by first | decide | omega)) pa ?_ rfl (by decide) rfl rfl | refine zb (by assumption) (hr.mono (by first | decide | omega)) hD ?_ rfl (by decide) rfl rfl)
 | ((with_reducible apply gM "append");refine pC (ok:=isL) PySem.F.plainAttrs_list PySem.F.slot_list_append PySem.F.type_list_append wV Fi mE (mi rfl (Or.inl rfl) (by decide) (by decide)) ?_ rfl rfl rfl rfl rfl)
 | ((with_reducible apply gM "extend");refine pC (ok:=isL) PySem.F.plainAttrs_list PySem.F.slot_list_extend PySem.F.type_list_extend wT Fh mE (mi rfl (Or.inl rfl) (by decide) (by decide)) ?_ rfl rfl rfl rfl rfl)
 | ((with_reducible apply gM "pop");refine pC (ok:=isL) PySem.F.plainAttrs_list PySem.F.slot_list_pop PySem.F.type_list_pop zP zT mE (mi rfl (Or.inl rfl) (by decide) (by decide)) ?_ rfl rfl rfl rfl rfl)
 | ((with_reducible apply gM "count");refine u9 (ok:=isL) PySem.F.plainAttrs_list PySem.F.slot_list_count PySem.F.type_list_count wU xG mE ?_ ?_ rfl rfl rfl rfl rfl)
 | ((with_reducible apply gM "index");refine u9 (ok:=isL) PySem.F.plainAttrs_list PySem.F.slot_list_index PySem.F.type_list_index zQ AE mE ?_ ?_ rfl rfl rfl rfl rfl)
 | ((with_reducible apply gH);first | refine pB _ rfl (Or.inl rfl) (by decide) (by decide) | refine pB _ rfl (Or.inr (Or.inl rfl)) (by decide) (by decide) | refine qT rfl (by assumption) (by decide))
 | ((with_reducible apply gE);first | refine Ew ?_ | refine Er ?_ | refine y9 rfl ?_ (fun s H C fp=>?_) (fun s H C fp=>?_) (by rfl) (ui (by decide)) (fun _=>rfl) ⟨_,iL rfl,fun s H C fp=>jH (rD rfl) rfl (Or.inl rfl) (Or.inr rfl)⟩ | refine re_if ?_ ?_ ?_ | refine y8 | refine Ez (key:=.inr "a") zv pG | refine Ey (ns:=[0,1]) hr.hu (by decide) (by decide) rfl pG)
 | ((with_reducible apply gY);first | refine BF ?_ | refine yS ?_ ?_ | refine BG)
 | ((with_reducible apply gR);refine El _ (fun i hi=>by rw [hp] ;exact BZ (by simpa using hi)) ?_)
 | ((with_reducible apply gF);refine rs_if ?_ ?_ ?_)
 | ((with_reducible apply gX);first | refine kM nd rfl (Or.inl rfl) rfl ?_ (fun s H C fp=>?_) (fun s H C fp=>?_) (by rfl) (ui (by decide)) rfl (Or.inl rfl) (fun _=>rfl) (by rw [hp] ;rfl) ⟨_,iL rfl,fun s H C fp=>jH (rD rfl) rfl (Or.inl rfl) (Or.inr rfl)⟩ | refine kM nd rfl (Or.inl rfl) rfl ?_ (fun s H C fp=>?_) (fun s H C fp=>?_) (by rfl) (ui (by decide)) rfl (Or.inl rfl) (fun _=>rfl) (by rw [hp] ;rfl) ⟨_,wa (kD (iL rfl) (kD (iL rfl) sM)),fun s H C fp=>zt (n:=2) rfl (mf (jH (rD rfl) rfl (Or.inl rfl) (Or.inr rfl)) (mf (jH (rD rfl) rfl (Or.inl rfl) (Or.inr rfl)) vq rfl) rfl) rfl rfl⟩ | refine yV _ nd rfl (Or.inl rfl) ?_ rfl (Or.inl rfl) (by rw [hp] ;rfl) | refine yV _ nd rfl (Or.inr rfl) ?_ rfl (Or.inl rfl) (by rw [hp] ;rfl))
 | ((with_reducible apply gZ);first | refine Em PassesOwn.never rfl ?_ ?_ ?_ (fun _=>rfl) | refine BH ?_ rfl | refine yW (by assumption) (by assumption) mk rfl rfl (by decide) ?_ rfl | refine Ek (Bp hr.hu) Fg (mi rfl (Or.inl rfl) (by decide) (by decide)) ?_ ?_ (fun _=>rfl) rfl rfl rfl | refine En ?_ ?_ rfl rfl rfl | refine yU PassesOwn.never ?_ ?_ | refine yX ?_)
 | refine Eo ?_
 | refine u5 _ nd rfl (Or.inl rfl) (Or.inl rfl) (by rw [hp] ;rfl)
 | refine yZ
 | refine Ee ?_
 | refine rw_or ?_ ?_
 | refine BM rfl B.range ?_ rfl
 | refine BI ?_
 | refine y6 ?_ ?_ rfl
 | refine yY ?_
 | refine u5 _ nd rfl (Or.inr rfl) (Or.inl rfl) (by rw [hp] ;rfl)
 | refine BO
 | refine Ep rfl ?_ rfl rfl
 | refine BL rfl B.range ?_ rfl rfl
 | refine BJ
 | refine BN rfl B.enumerate ?_ rfl
 | refine Ej rfl rfl rfl nd rfl (by decide) (by assumption) (by assumption) rfl (.inl rfl) (by rw [hp] ;rfl) (fun E pn W pa=>?_) fun ae ob cls hD=>have hr:=hr.mark (some (.ref ae));?_
 | refine yT ?_))
local macro_rules | `(tactic| specialize $q) => `(tactic| exact aU D $q rfl rfl (by first | exact hb1 fun _ _ _ _ _ _ _=>rfl | exact hb2 fun _ _ _ _ _ _ _ _=>rfl | exact hb3 fun _ _ _ _ _ _ _ _ _=>rfl | exact hb4 fun _ _ _ _ _ _ _ _ _ _=>rfl) fun cdv A outer s H E f G hr hp=>have nd:=($q).nd;by and_intros)
set_option hygiene true
def t5:SM:=(aM 1 (i9 (mUn (jQ "int") (ac 0)) (rV (mUn (jQ "bool") (ac 0)))))
def cr:Fn:=fnM [false] 1 t5
theorem sc_is_whole:FnScope ["thing"] ["thing"] (ad fG):=by ac_rfl
theorem qi (B:Bl mg) (D:Def K mg "is_whole" fG):aH P w K mg base "is_whole" 1 ["thing"] cr :=by specialize sc_is_whole
def t7:SM:=(aM 1 (i9 (mUn (jQ "tuple") (ac 0)) (i9 (aj eqX (ay cq (aa (ac 0) ag)) (mC (.int 2))) (i9 (ak cr (aa (aj aF (ac 0) (mC (.int 0))) ag)) (ak cr (aa (aj aF (ac 0) (mC (.int 1))) ag))))))
def gf:Fn:=fnM [false] 1 t7
theorem sc_is_point:FnScope ["thing"] ["thing"] (ad fI):=by ac_rfl
theorem qk (B:Bl mg) (D:Def K mg "is_point" fI) (a:aH P w K mg base "is_whole" 1 ["thing"] cr):aH P w K mg base "is_point" 2 ["thing"] gf :=by specialize sc_is_point
def t8:SM:=(aM 2 (i9 (ak cr (aa (ac 0) ag)) (eV leI ltI (mC (.int 0)) (ac 0) (ac 1))))
def gg:Fn:=fnM [false,false] 2 t8
theorem sc_is_place:FnScope ["thing","many"] ["thing","many"] (ad fJ):=by ac_rfl
theorem ql (B:Bl mg) (D:Def K mg "is_place" fJ) (a:aH P w K mg base "is_whole" 1 ["thing"] cr):aH P w K mg base "is_place" 2 ["thing","many"] gg :=by specialize sc_is_place
def bG:EM:=(ak gg (aa (ac 0) (aa (ac 1) ag)))
def cI:EM:=(bx (bO (ac 0)) (aw 0) dE bG [none,some 1])
def cJ:EM:=(aj ltI (aj aF (ac 1) (ac 0)) (aj aF (ac 1) (aj bH (ac 0) (mC (.int 1)))))
def cH:EM:=(bx (bP dS (aa (aj fv (ay cq (aa (ac 0) ag)) (mC (.int 1))) ag)) (aw 0) dE cJ [none,some 0])
def i8:SM:=(aG (sIf (cOr (dF (cB (mUn (jQ "tuple") (ac 0)))) (dF (cB (ay qr (aa cI ag))))) (aM 2 (mC (.bl false))) cz) (aM 2 (ay qr (aa cH ag))))
def aA:Fn:=fnM [false,false] 2 i8
theorem sc_are_rising_places:FnScope ["thing","many"] ["thing","many"] (ad bo):=by ac_rfl
theorem gz (B:Bl mg) (D:Def K mg "are_rising_places" bo) (a:aH P w K mg base "is_place" 2 ["thing","many"] gg):aH P w K mg base "are_rising_places" 3 ["thing","many"] aA :=by specialize sc_are_rising_places
def dm:EM:=(ak gf (aa (ac 0) ag))
def gl:EM:=(bx (bO (ac 0)) (aw 0) dE dm [none])
def pM:SM:=(aM 1 (i9 (eV leI leI (mC (.int 1)) (ay cq (aa (ac 0) ag)) (mC (.int (24)))) (ay qr (aa gl ag))))
def dI:Fn:=fnM [false] 1 pM
theorem sc_are_points:FnScope ["things"] ["things"] (ad dB):=by ac_rfl
theorem mY (B:Bl mg) (D:Def K mg "are_points" dB) (c:aH P w K mg base "is_point" 2 ["thing"] gf) {a:Tok} (b:mg "MOST_POINTS"=some (.int (24) a)):aH P w K mg base "are_points" 3 ["things"] dI :=by specialize sc_are_points
def cG:EM:=(aj ltI (aj aF (aj aF (ac 1) (ac 0)) (mC (.int 0))) (aj aF (aj aF (ac 1) (aj bH (ac 0) (mC (.int 1)))) (mC (.int 0))))
def eJ:EM:=(bx (bP dS (aa (aj fv (ay cq (aa (ac 0) ag)) (mC (.int 1))) ag)) (aw 0) dE cG [none,some 0])
def iy:SM:=(aM 1 (ay qr (aa eJ ag)))
def cP:Fn:=fnM [false] 1 iy
theorem sc_has_rising_x:FnScope ["points"] ["points"] (ad cC):=by ac_rfl
theorem kC (B:Bl mg) (D:Def K mg "has_rising_x" cC):aH P w K mg base "has_rising_x" 1 ["points"] cP :=by specialize sc_has_rising_x
def Fm:SM:=(aG (a7 3 (aj eR (aj fv (aj aF (ac 1) (mC (.int 0))) (aj aF (ac 0) (mC (.int 0)))) (aj fv (aj aF (ac 2) (mC (.int 1))) (aj aF (ac 0) (mC (.int 1)))))) (aM 3 (aj fv (ac 3) (aj eR (aj fv (aj aF (ac 1) (mC (.int 1))) (aj aF (ac 0) (mC (.int 1)))) (aj fv (aj aF (ac 2) (mC (.int 0))) (aj aF (ac 0) (mC (.int 0))))))))
def kG:Fn:=fnM [false,false,false] 4 Fm
theorem sc_bend:FnScope ["first","second","third","run"] ["first","second","third"] (ad pq):=by ac_rfl
theorem AJ (B:Bl mg) (D:Def K mg "bend" pq):aH P w K mg base "bend" 1 ["first","second","third"] kG :=by specialize sc_bend
def il:EM:=(bU (aa (ac 1) (aa (ac 2) (aa (ac 0) ag))))
def kS:EM:=(bx (bP lZ (aa (aj bH (ac 3) (mC (.int 1))) (aa (ac 0) ag))) (aw 0) dE il [none,some 2,some 3])
def io:SM:=(gi (pN isL Ap 1 (aa kS ag)))
def kT:SM:=(c8 (bP lZ (aa (aj bH (ac 2) (mC (.int 1))) (aa (ac 0) ag))) (aw 3) io)
def zU:SM:=(aG (a7 1 (cn ag)) (aG (c8 (bP dS (aa (ac 0) ag)) (aw 2) kT) (aM 1 (ac 1))))
def fm:Fn:=fnM [false] 4 zU
theorem sc_threes:FnScope ["many","found","i","j"] ["many"] (ad jz):=by ac_rfl
theorem uA (B:Bl mg) (D:Def K mg "threes" jz):aH P w K mg base "threes" 1 ["many"] fm :=by specialize sc_threes
def cj:EM:=(aj aF (ac 1) (ac 0))
def dZ:EM:=(bx (bO (ac 1)) (aw 0) dE cj [none,some 0])
def bF:SM:=(aG (a7 2 (ay qC (aa dZ ag))) (sIf (cB (aj eqX (ak kG (aa (aj aF (ac 2) (mC (.int 0))) (aa (aj aF (ac 2) (mC (.int 1))) (aa (aj aF (ac 2) (mC (.int 2))) ag)))) (mC (.int 0)))) (aM 1 (ac 2)) cz))
def la:SM:=(aG (c8 (bO (ak fm (aa (ay cq (aa (ac 0) ag)) ag))) (aw 1) bF) (aM 1 (mC .non)))
def cg:Fn:=fnM [false] 3 la
theorem sc_first_on_line:FnScope ["points","three","found"] ["points"] (ad cb):=by ac_rfl
theorem jW (B:Bl mg) (D:Def K mg "first_on_line" cb) (b:aH P w K mg base "bend" 1 ["first","second","third"] kG) (a:aH P w K mg base "threes" 1 ["many"] fm):aH P w K mg base "first_on_line" 2 ["points"] cg :=by specialize sc_first_on_line
def t6:SM:=(aG (sIf (cOr (dF (cB (mUn (jQ "tuple") (ac 0)))) (dF (cB (ak dI (aa (ac 0) ag))))) (aM 1 (mC (.bl false))) cz) (aM 1 (i9 (ak cP (aa (ac 0) ag)) (aj isN (ak cg (aa (ac 0) ag)) (mC .non)))))
def gc:Fn:=fnM [false] 1 t6
theorem sc_is_sheet:FnScope ["thing"] ["thing"] (ad fH):=by ac_rfl
theorem qj (B:Bl mg) (D:Def K mg "is_sheet" fH) (c:aH P w K mg base "are_points" 3 ["things"] dI) (a:aH P w K mg base "first_on_line" 2 ["points"] cg) (b:aH P w K mg base "has_rising_x" 1 ["points"] cP):aH P w K mg base "is_sheet" 4 ["thing"] gc :=by specialize sc_is_sheet
def lc:SM:=(sIf (dF (cB (ak gc (aa (ac 0) ag)))) (j8 "NoSheet" (aa (mC (.str "this is no sheet")) ag)) cz)
def ci:Fn:=fnM [false] 1 lc
theorem sc_check_sheet:FnScope ["thing"] ["thing"] (ad cX):=by ac_rfl
theorem jX (B:Bl mg) (D:Def K mg "check_sheet" cX) (b:aH P w K mg base "is_sheet" 4 ["thing"] gc) {a:Addr} (c:XName K "NoSheet" a) (d:ECls K mg "NoSheet" a):kH P w K mg base "check_sheet" 5 ["thing"] ci :=
 jV (k:=4) D sc_check_sheet rfl rfl (hb1 fun _ _ _ _ _ _ _=>rfl) fun cdv A outer s H E f G W hr hp pa mk =>
  have nd:=sc_check_sheet.nd;by and_intros
def wY:SM:=(aM 2 (mIf (cB (aj gtI (ak kG (aa (aj aF (ac 0) (aj aF (ac 1) (mC (.int 0)))) (aa (aj aF (ac 0) (aj aF (ac 1) (mC (.int 1)))) (aa (aj aF (ac 0) (aj aF (ac 1) (mC (.int 2)))) ag)))) (mC (.int 0)))) (mC (.int 1)) (mUn jo (mC (.int 1)))))
def dM:Fn:=fnM [false,false] 2 wY
theorem sc_turn_at:FnScope ["sheet","three"] ["sheet","three"] (ad iP):=by ac_rfl
theorem sG (B:Bl mg) (D:Def K mg "turn_at" iP) (a:aH P w K mg base "bend" 1 ["first","second","third"] kG):aH P w K mg base "turn_at" 2 ["sheet","three"] dM :=by specialize sc_turn_at
def bT:SM:=(nk Br 1 (ac 2) (ak dM (aa (ac 0) (aa (ac 2) ag))))
def nz:SM:=(aG (gi (gp ci (aa (ac 0) ag))) (aG (a7 1 zY) (aG (quiet (c8 (bO (ak fm (aa (ay cq (aa (ac 0) ag)) ag))) (aw 2) bT)) (aM 1 (ac 1)))))
def c6:Fn:=fnM [false] 3 nz
theorem sc_all_turns:FnScope ["sheet","turns","three"] ["sheet"] (ad en):=by ac_rfl
theorem lp (B:Bl mg) (D:Def K mg "all_turns" en) (a:kH P w K mg base "check_sheet" 5 ["thing"] ci) (c:aH P w K mg base "threes" 1 ["many"] fm) (b:aH P w K mg base "turn_at" 2 ["sheet","three"] dM):kH P w K mg base "all_turns" 6 ["sheet"] c6 :=
 jV (k:=5) D sc_all_turns rfl rfl (hb1 fun _ _ _ _ _ _ _=>rfl) fun cdv A outer s H E f G W hr hp pa mk =>
  have nd:=sc_all_turns.nd;by and_intros
def dY:EM:=(aj eqX (aj aF (ac 2) (mSl slD (ac 3) (dW (ac 0)) (dW (aj bH (ac 0) (mC (.int 3)))))) (ac 1))
def ip:EM:=(bx (bP dS (aa (aj fv (ay cq (aa (ac 1) ag)) (mC (.int 2))) ag)) (aw 0) dE dY [none,some 2,some 0,some 1])
def rO:SM:=(aM 3 (ay qr (aa ip ag)))
def eP:Fn:=fnM [false,false,false] 3 rO
theorem sc_row_bends:FnScope ["turns","row","way"] ["turns","row","way"] (ad eg):=by ac_rfl
theorem nD (B:Bl mg) (D:Def K mg "row_bends" eg):aH P w K mg base "row_bends" 1 ["turns","row","way"] eP :=by specialize sc_row_bends
def cY:M3 Bool:=(cB (aj eqX (aj aF (ac 2) (bU (aa (ac 3) (aa (ac 0) (aa (ac 4) ag))))) (ac 1)))
def eS:EM:=(ac 0)
def jb:EM:=(bx (bO (mSl slD (ac 1) (dW (mC (.int 1))) (dW (mUn jo (mC (.int 1)))))) (aw 0) cY eS [none,some 2,some 0,some 3,some 4])
def mx:SM:=(aG (a7 3 (aj aF (ac 1) (mC (.int 0)))) (aG (a7 4 (aj aF (ac 1) (mUn jo (mC (.int 1))))) (aM 3 (aj bH (aj bH (bU (aa (ac 3) ag)) (ay qC (aa jb ag))) (bU (aa (ac 4) ag))))))
def bR:Fn:=fnM [false,false,false] 5 mx
theorem sc_side_row:FnScope ["turns","ring","way","first","last"] ["turns","ring","way"] (ad fE):=by ac_rfl
theorem qg (B:Bl mg) (D:Def K mg "side_row" fE):aH P w K mg base "side_row" 1 ["turns","ring","way"] bR :=by specialize sc_side_row
def cf:EM:=(ak eP (aa (ac 1) (aa (ak bR (aa (ac 1) (aa (ac 2) (aa (ac 0) ag)))) (aa (ac 0) ag))))
def gk:EM:=(bx (bO (bU (aa (mC (.int (1))) (aa (mC (.int (-1))) ag)))) (aw 0) dE cf [none,some 0,some 1])
def fV:SM:=(aG (sIf (cOr (dF (cB (ak aA (aa (ac 1) (aa (ac 2) ag))))) (cB (aj ltI (ay cq (aa (ac 1) ag)) (mC (.int (3)))))) (aM 3 (mC (.bl false))) cz) (aM 3 (ay qr (aa gk ag))))
def bV:Fn:=fnM [false,false,false] 3 fV
theorem sc_is_ring_by:FnScope ["turns","thing","many"] ["turns","thing","many"] (ad dA):=by ac_rfl
theorem mV (B:Bl mg) (D:Def K mg "is_ring_by" dA) (b:aH P w K mg base "are_rising_places" 3 ["thing","many"] aA) (e:aH P w K mg base "row_bends" 1 ["turns","row","way"] eP) (f:aH P w K mg base "side_row" 1 ["turns","ring","way"] bR) {d:Tok} (h:mg "DOWN"=some (.int (-1) d)) {a:Tok} (c:mg "LEAST_CORNERS"=some (.int (3) a)) {g:Tok} (i:mg "UP"=some (.int (1) g)):aH P w K mg base "is_ring_by" 4 ["turns","thing","many"] bV :=by specialize sc_is_ring_by
def bZ:SM:=(aG (a7 2 (gp c6 (aa (ac 0) ag))) (aG (sIf (dF (cB (ak bV (aa (ac 2) (aa (ac 1) (aa (ay cq (aa (ac 0) ag)) ag)))))) (j8 "NoRing" (aa (mC (.str "this is no ring of the sheet")) ag)) cz) (aM 2 (ac 2))))
def aO:Fn:=fnM [false,false] 3 bZ
theorem sc_turns_with_ring:FnScope ["sheet","ring","turns"] ["sheet","ring"] (ad bL):=by ac_rfl
theorem gx (B:Bl mg) (D:Def K mg "turns_with_ring" bL) (b:kH P w K mg base "all_turns" 6 ["sheet"] c6) (c:aH P w K mg base "is_ring_by" 4 ["turns","thing","many"] bV) {a:Addr} (e:XName K "NoRing" a) (d:ECls K mg "NoRing" a):kH P w K mg base "turns_with_ring" 7 ["sheet","ring"] aO :=
 jV (k:=6) D sc_turns_with_ring rfl rfl (hb2 fun _ _ _ _ _ _ _ _=>rfl) fun cdv A outer s H E f G W hr hp pa mk =>
  have nd:=sc_turns_with_ring.nd;by and_intros
def iq:SM:=(aM 2 (ak bR (aa (gp aO (aa (ac 0) (aa (ac 1) ag))) (aa (ac 1) (aa (mC (.int (1))) ag)))))
def bS:Fn:=fnM [false,false] 2 iq
theorem sc_low_row:FnScope ["sheet","ring"] ["sheet","ring"] (ad iQ):=by ac_rfl
theorem nE (B:Bl mg) (D:Def K mg "low_row" iQ) (b:aH P w K mg base "side_row" 1 ["turns","ring","way"] bR) (a:kH P w K mg base "turns_with_ring" 7 ["sheet","ring"] aO) {c:Tok} (d:mg "UP"=some (.int (1) c)):kH P w K mg base "low_row" 8 ["sheet","ring"] bS :=
 jV (k:=7) D sc_low_row rfl rfl (hb2 fun _ _ _ _ _ _ _ _=>rfl) fun cdv A outer s H E f G W hr hp pa mk =>
  have nd:=sc_low_row.nd;by and_intros
def fW:SM:=(aM 2 (ak bR (aa (gp aO (aa (ac 0) (aa (ac 1) ag))) (aa (ac 1) (aa (mC (.int (-1))) ag)))))
def bI:Fn:=fnM [false,false] 2 fW
theorem sc_high_row:FnScope ["sheet","ring"] ["sheet","ring"] (ad fK):=by ac_rfl
theorem mW (B:Bl mg) (D:Def K mg "high_row" fK) (c:aH P w K mg base "side_row" 1 ["turns","ring","way"] bR) (a:kH P w K mg base "turns_with_ring" 7 ["sheet","ring"] aO) {b:Tok} (d:mg "DOWN"=some (.int (-1) b)):kH P w K mg base "high_row" 8 ["sheet","ring"] bI :=
 jV (k:=7) D sc_high_row rfl rfl (hb2 fun _ _ _ _ _ _ _ _=>rfl) fun cdv A outer s H E f G W hr hp pa mk =>
  have nd:=sc_high_row.nd;by and_intros
def zW:SM:=(aG (sIf (cB (aj ltI (ac 1) (ay cq (aa (ac 0) ag)))) (aM 2 (aj aF (ac 0) (ac 1))) cz) (aM 2 (mC (.int 0))))
def j4:Fn:=fnM [false,false] 2 zW
theorem sc_l_cell:FnScope ["_law_script","_law_k"] ["_law_script","_law_k"] (ad jE):=by ac_rfl
theorem uF (B:Bl mg) (D:Def K mg "_law_cell" jE):aH P w K mg base "_law_cell" 1 ["_law_script","_law_k"] j4 :=by specialize sc_l_cell
def Cs:SM:=(aG (a7 2 (cn (aa (mC (.int 48271)) (aa (mC (.int 69621)) (aa (mC (.int 16807)) (aa (mC (.int 39373)) (aa (mC (.int 30269)) (aa (mC (.int 40014)) (aa (mC (.int 40692)) (aa (mC (.int 50021)) (aa (mC (.int 61687)) (aa (mC (.int 71993)) (aa (mC (.int 83869)) (aa (mC (.int 95561)) (aa (mC (.int 30307)) ag))))))))))))))) (aG (a7 3 (aj bH (aj bH (aj eR (aj bH (aj tY (ac 0) (mC (.int 2147483647))) (mC (.int 12345))) (aj aF (ac 2) (aj tY (ac 1) (mC (.int 13))))) (aj eR (mC (.int 977)) (ac 1))) (aj eR (mC (.int 7919)) (aj xB (ac 1) (mC (.int 13)))))) (aG (a7 3 (aj tY (ac 3) (mC (.int 1000000007)))) (aM 2 (aj xB (aj tY (aj bH (aj eR (ac 3) (ac 3)) (aj eR (mC (.int 48271)) (ac 1))) (mC (.int 1000000007))) (mC (.int 7)))))))
def lH:Fn:=fnM [false,false] 4 Cs
theorem sc_l_mix:FnScope ["_law_cell_here","_law_k","_law_some","_law_stir"] ["_law_cell_here","_law_k"] (ad lu):=by ac_rfl
theorem xN (B:Bl mg) (D:Def K mg "_law_mix" lu):aH P w K mg base "_law_mix" 1 ["_law_cell_here","_law_k"] lH :=by specialize sc_l_mix
def jq:SM:=(a7 3 (aj bH (aj eR (ac 3) (mC (.int 142857143))) (ak lH (aa (ac 2) (aa (ac 4) ag)))))
def Ct:SM:=(aG (a7 2 (ak j4 (aa (ac 0) (aa (ac 1) ag)))) (aG (sIf (cB (aj eqX (aj tY (ac 2) (mC (.int 2))) (mC (.int 0)))) (aM 2 (cn (aa (aj xB (ay absD (aa (ac 2) ag)) (mC (.int 2))) ag))) cz) (aG (a7 3 (mC (.int 0))) (aG (c8 (bP dS (aa (mC (.int 40)) ag)) (aw 4) jq) (aM 2 (cn (aa (ac 3) ag)))))))
def lJ:Fn:=fnM [false,false] 5 Ct
theorem sc_l_box:FnScope ["_law_script","_law_k","_law_cell_here","_law_number","_law_j"] ["_law_script","_law_k"] (ad lw):=by ac_rfl
theorem xO (B:Bl mg) (D:Def K mg "_law_box" lw) (a:aH P w K mg base "_law_cell" 1 ["_law_script","_law_k"] j4) (b:aH P w K mg base "_law_mix" 1 ["_law_cell_here","_law_k"] lH):aH P w K mg base "_law_box" 2 ["_law_script","_law_k"] lJ :=by specialize sc_l_box
def zV:SM:=(aG (nq (j0 2 (cy (aw 2) (cy (aw 3) j3))) (ay Av (aa (aj aF (ac 0) (mC (.int 0))) (aa (ac 1) ag)))) (aG (nk Br 0 (mC (.int 0)) (ac 2)) (aM 2 (ac 3))))
def aX:Fn:=fnM [false,false] 4 zV
theorem sc_l_take:FnScope ["_law_box_here","_law_many","_law_left","_law_digit"] ["_law_box_here","_law_many"] (ad jA):=by ac_rfl
theorem uB (B:Bl mg) (D:Def K mg "_law_take" jA):aH P w K mg base "_law_take" 1 ["_law_box_here","_law_many"] aX :=by specialize sc_l_take
def wZ:SM:=(aM 1 (i9 (mUn (jQ "int") (ac 0)) (rV (mUn (jQ "bool") (ac 0)))))
def i5:Fn:=fnM [false] 1 wZ
theorem sc_l_whole:FnScope ["_law_thing"] ["_law_thing"] (ad iR):=by ac_rfl
theorem sH (B:Bl mg) (D:Def K mg "_law_whole" iR):aH P w K mg base "_law_whole" 1 ["_law_thing"] i5 :=by specialize sc_l_whole
def ce:M3 Bool:=(cB (aj neX (ac 2) (cn ag)))
def dl:SM:=(gi (pN isL AO 3 (aa (pN isL jn 2 (aa (ak aX (aa (ac 0) (aa (ay cq (aa (ac 2) ag)) ag))) ag)) ag)))
def jO:SM:=(aG (a7 2 (ay Cu (aa (ac 1) ag))) (aG (a7 3 (cn ag)) (aG (fL ce dl) (aM 2 (ac 3)))))
def dH:Fn:=fnM [false,false] 4 jO
theorem sc_l_mixed_up:FnScope ["_law_box_here","_law_some","_law_left","_law_found"] ["_law_box_here","_law_some"] (ad dz):=by ac_rfl
theorem mU (B:Bl mg) (D:Def K mg "_law_mixed_up" dz) (a:aH P w K mg base "_law_take" 1 ["_law_box_here","_law_many"] aX):aH P w K mg base "_law_mixed_up" 2 ["_law_box_here","_law_some"] dH :=by specialize sc_l_mixed_up
def zX:SM:=(aG (nq (j0 2 (cy (aw 3) (cy (aw 4) j3))) (ac 0)) (aG (a7 5 (aj eR (aj fv (aj aF (ac 1) (mC (.int 0))) (ac 3)) (aj fv (aj aF (ac 2) (mC (.int 1))) (ac 4)))) (aM 3 (aj fv (ac 5) (aj eR (aj fv (aj aF (ac 1) (mC (.int 1))) (ac 4)) (aj fv (aj aF (ac 2) (mC (.int 0))) (ac 3)))))))
def d9:Fn:=fnM [false,false,false] 6 zX
theorem sc_l_bend:FnScope ["_law_one","_law_two","_law_three","_law_x","_law_y","_law_wide"] ["_law_one","_law_two","_law_three"] (ad jF):=by ac_rfl
theorem uG (B:Bl mg) (D:Def K mg "_law_bend" jF):aH P w K mg base "_law_bend" 1 ["_law_one","_law_two","_law_three"] d9 :=by specialize sc_l_bend
def dh:SM:=(sIf (cB (aj eqX (ak d9 (aa (ac 4) (aa (ac 3) (aa (ac 1) ag)))) (mC (.int 0)))) (aM 2 (mC (.bl false))) cz)
def eI:SM:=(c8 (bO (mSl slD (ac 0) kR (dW (ac 2)))) (aw 4) dh)
def mB:SM:=(aG (c8 (mG (aa (ac 0) ag)) (j0 2 (cy (aw 2) (cy (aw 3) j3))) eI) (aM 2 (mC (.bl true))))
def fq:Fn:=fnM [false,false] 5 mB
theorem sc_l_free:FnScope ["_law_found","_law_point","_law_at","_law_one","_law_two"] ["_law_found","_law_point"] (ad jD):=by ac_rfl
theorem uE (B:Bl mg) (D:Def K mg "_law_free" jD) (a:aH P w K mg base "_law_bend" 1 ["_law_one","_law_two","_law_three"] d9):aH P w K mg base "_law_free" 2 ["_law_found","_law_point"] fq :=by specialize sc_l_free
def cD:M3 Bool:=(dF (cB (ak fq (aa (ac 5) (aa (bU (aa (ac 4) (aa (ac 9) ag))) ag)))))
def dD:SM:=(a7 9 (aj bH (ac 9) (mC (.int 1))))
def cE:SM:=(aG (a7 4 (aj bH (aj bH (ac 4) (mC (.int 1))) (ak aX (aa (ac 0) (aa (mC (.int 3)) ag))))) (aG (a7 7 (aj fv (ak aX (aa (ac 0) (aa (mC (.int 31)) ag))) (mC (.int 15)))) (aG (a7 8 (cn (aa (ac 7) (aa (ac 7) (aa (aj bH (aj eR (ac 6) (ac 6)) (aj xB (ac 7) (mC (.int 9)))) (aa (aj fv (aj xB (ac 7) (mC (.int 9))) (aj eR (ac 6) (ac 6))) ag)))))) (aG (a7 8 (aj bH (ac 8) (cn (aa (aj eR (aj bH (aj eR (ac 6) (ac 6)) (mC (.int 30))) (aj fv (mC (.int 1)) (aj eR (mC (.int 2)) (aj tY (ac 6) (mC (.int 2)))))) (aa (aj eR (ac 7) (mC (.int 1000))) ag))))) (aG (a7 9 (aj aF (ac 8) (ac 3))) (aG (fL cD dD) (gi (pN isL AO 5 (aa (bU (aa (ac 4) (aa (ac 9) ag))) ag)))))))))
def fS:EM:=(bU (aa (aj bH (aj eR (aj tO (mC (.int 10)) (mC (.int 12))) (ac 0)) (mC (.int 7))) (aa (aj eR (aj tO (mC (.int 10)) (mC (.int 9))) (ac 1)) ag)))
def dC:EM:=(bx (bO (ac 5)) (j0 2 (cy (aw 0) (cy (aw 1) j3))) dE fS [none,none])
def oG:SM:=(aG (a7 2 (aj bH (mC (.int 1)) (ak aX (aa (ac 0) (aa (ac 1) ag))))) (aG (a7 3 (ak aX (aa (ac 0) (aa (mC (.int 6)) ag)))) (aG (a7 4 (aj fv (ak aX (aa (ac 0) (aa (mC (.int 9)) ag))) (mC (.int 4)))) (aG (a7 5 (cn ag)) (aG (c8 (bP dS (aa (ac 2) ag)) (aw 6) cE) (aG (sIf (cB (aj eqX (ak aX (aa (ac 0) (aa (mC (.int 6)) ag))) (mC (.int 5)))) (a7 5 dC) cz) (aM 2 (ay qC (aa (ac 5) ag)))))))))
def i6:Fn:=fnM [false,false] 10 oG
theorem sc_l_sheet:FnScope ["_law_box_here","_law_most","_law_many","_law_kind","_law_x","_law_found","_law_k","_law_given","_law_some","_law_y"] ["_law_box_here","_law_most"] (ad iS):=by ac_rfl
theorem sI (B:Bl mg) (D:Def K mg "_law_sheet" iS) (b:aH P w K mg base "_law_free" 2 ["_law_found","_law_point"] fq) (a:aH P w K mg base "_law_take" 1 ["_law_box_here","_law_many"] aX):aH P w K mg base "_law_sheet" 3 ["_law_box_here","_law_most"] i6 :=by specialize sc_l_sheet
def vC:SM:=(aG (a7 1 (cn (aa (mC .non) (aa (mC (.bl true)) (aa (mC (.bl false)) (aa (mC (.int 0)) (aa (mUn jo (mC (.int 1))) (aa (mC (.int 1)) (aa (mC (.str "")) (aa (mC (.str "1")) (aa (bU ag) (aa (cn ag) (aa (bU (aa (mC (.int 0)) ag)) (aa (bU (aa (mC (.int 0)) (aa (mC (.int 1)) ag))) (aa (cn (aa (mC (.int 0)) ag)) (aa (Fp (.inr "a") 1) ag)))))))))))))))) (aG (a7 1 (aj bH (ac 1) (cn (aa (aj tO (mC (.int 10)) (mC (.int 29))) (aa (bU (aa (bU (aa (mC (.int 0)) (aa (mC (.int 0)) ag))) ag)) (aa (bU (aa (bU (aa (mC (.int 0)) (aa (mC (.int 1)) ag))) (aa (bU (aa (mC (.int 1)) (aa (mC (.int 2)) ag))) ag))) (aa (mC (.str "0,0")) (aa (bU (aa (mC (.int 0)) (aa (mC (.int 1)) (aa (mC (.int 2)) ag)))) (aa (Fo [0,1] 2) ag))))))))) (aM 1 (aj aF (ac 1) (ak aX (aa (ac 0) (aa (mC (.int 20)) ag)))))))
def lG:Fn:=fnM [false] 2 vC
theorem sc_l_odd:FnScope ["_law_box_here","_law_some"] ["_law_box_here"] (ad lq):=by ac_rfl
theorem xM (B:Bl mg) (D:Def K mg "_law_odd" lq) (a:aH P w K mg base "_law_take" 1 ["_law_box_here","_law_many"] aX):aH P w K mg base "_law_odd" 2 ["_law_box_here"] lG :=by specialize sc_l_odd
def Fj:SM:=(aM 4 (aj gtI (ak d9 (aa (aj aF (ac 0) (ac 1)) (aa (aj aF (ac 0) (ac 2)) (aa (aj aF (ac 0) (ac 3)) ag)))) (mC (.int 0))))
def kF:Fn:=fnM [false,false,false,false] 4 Fj
theorem sc_l_up:FnScope ["_law_sheet_here","_law_i","_law_j","_law_k"] ["_law_sheet_here","_law_i","_law_j","_law_k"] (ad pj):=by ac_rfl
theorem AI (B:Bl mg) (D:Def K mg "_law_up" pj) (a:aH P w K mg base "_law_bend" 1 ["_law_one","_law_two","_law_three"] d9):aH P w K mg base "_law_up" 2 ["_law_sheet_here","_law_i","_law_j","_law_k"] kF :=by specialize sc_l_up
def eT:EM:=(ak i5 (aa (ac 0) ag))
def jd:EM:=(bx (bO (ac 0)) (aw 0) dE eT [none])
def eU:M3 Bool:=(cOr (cB (aj ltI (ac 0) (mC (.int 0)))) (cB (aj geI (ac 0) (ac 1))))
def je:EM:=(ac 0)
def jc:EM:=(bx (bO (ac 0)) (aw 0) eU je [none,some 1])
def mz:SM:=(aG (sIf (cOr (dF (cB (mUn (jQ "tuple") (ac 0)))) (dF (cB (ay qr (aa jd ag))))) (aM 2 (mC (.bl false))) cz) (aG (sIf (cB (aj neX jc (cn ag))) (aM 2 (mC (.bl false))) cz) (aM 2 (aj eqX (ay Cu (aa (ac 0) ag)) (ay ssD (aa (ac 0) ag))))))
def aY:Fn:=fnM [false,false] 2 mz
theorem sc_l_rising:FnScope ["_law_thing","_law_many"] ["_law_thing","_law_many"] (ad fF):=by ac_rfl
theorem qh (B:Bl mg) (D:Def K mg "_law_rising" fF) (a:aH P w K mg base "_law_whole" 1 ["_law_thing"] i5):aH P w K mg base "_law_rising" 2 ["_law_thing","_law_many"] aY :=by specialize sc_l_rising
def cF:SM:=(sIf (cB (aj neX (ak kF (aa (ac 0) (aa (aj aF (ac 1) (ac 3)) (aa (aj aF (ac 1) (aj bH (ac 3) (mC (.int 1)))) (aa (aj aF (ac 1) (aj bH (ac 3) (mC (.int 2)))) ag))))) (ac 2))) (aM 3 (mC (.bl false))) cz)
def oH:SM:=(aG (sIf (cOr (dF (cB (ak aY (aa (ac 1) (aa (ay cq (aa (ac 0) ag)) ag))))) (cB (aj ltI (ay cq (aa (ac 1) ag)) (mC (.int 2))))) (aM 3 (mC (.bl false))) cz) (aG (c8 (bP dS (aa (aj fv (ay cq (aa (ac 1) ag)) (mC (.int 2))) ag)) (aw 3) cF) (aM 3 (mC (.bl true)))))
def ft:Fn:=fnM [false,false,false] 4 oH
theorem sc_l_bends:FnScope ["_law_sheet_here","_law_thing","_law_up_here","_law_at"] ["_law_sheet_here","_law_thing","_law_up_here"] (ad iW):=by ac_rfl
theorem sL (B:Bl mg) (D:Def K mg "_law_bends" iW) (a:aH P w K mg base "_law_rising" 2 ["_law_thing","_law_many"] aY) (b:aH P w K mg base "_law_up" 2 ["_law_sheet_here","_law_i","_law_j","_law_k"] kF):aH P w K mg base "_law_bends" 3 ["_law_sheet_here","_law_thing","_law_up_here"] ft :=by specialize sc_l_bends
def pL:EM:=(aj bH (ac 0) (bU (aa (ac 1) ag)))
def pK:EM:=(bx (bO (ac 1)) (aw 0) dE pL [none,some 2])
def fU:SM:=(a7 1 (aj bH (ac 1) pK))
def ke:SM:=(aG (a7 1 (cn (aa (bU ag) ag))) (aG (c8 (bP dS (aa (ac 0) ag)) (aw 2) fU) (aM 1 (ay lP (aa (ac 1) ag)))))
def bb:Fn:=fnM [false] 3 ke
theorem sc_l_parts:FnScope ["_law_many","_law_found","_law_place"] ["_law_many"] (ad iU):=by ac_rfl
theorem sK (B:Bl mg) (D:Def K mg "_law_parts" iU):aH P w K mg base "_law_parts" 1 ["_law_many"] bb :=by specialize sc_l_parts
def rS:SM:=(aG (sIf (cOr (dF (cB (mUn (jR [("NoSheet",true),("NoRing",true)]) (ac 0)))) (dF (cB (mUn (jR [("NoSheet",true),("NoRing",true)]) (ac 0))))) (aM 1 (mC (.str "other"))) cz) (aG (a7 1 (cn (aa (mUn (jR [("NoSheet",true),("NoRing",false)]) (ac 0)) (aa (mUn (jR [("NoSheet",false),("NoRing",false)]) (ac 0)) (aa (mUn (jR [("NoSheet",false),("NoRing",false)]) (ac 0)) (aa (mUn (jR [("NoSheet",false),("NoRing",false)]) (ac 0)) ag)))))) (aG (a7 1 (aj bH (ac 1) (cn (aa (mUn (jR [("NoSheet",false),("NoRing",false)]) (ac 0)) (aa (mUn (jR [("NoSheet",false),("NoRing",true)]) (ac 0)) (aa (mUn (jR [("NoSheet",false),("NoRing",false)]) (ac 0)) (aa (mUn (jR [("NoSheet",false),("NoRing",false)]) (ac 0)) ag))))))) (aG (a7 1 (aj bH (ac 1) (cn (aa (mUn (jR [("NoSheet",false),("NoRing",false)]) (ac 0)) (aa (mUn (jR [("NoSheet",false),("NoRing",false)]) (ac 0)) ag))))) (aG (sIf (cB (aj neX (vD isL Dy (ac 1) (aa (mC (.bl true)) ag)) (mC (.int 1)))) (aM 1 (mC (.str "other"))) cz) (aG (a7 2 (cn (aa (mC (.str "sheet")) (aa (mC (.str "place")) (aa (mC (.str "number")) (aa (mC (.str "row")) (aa (mC (.str "apart")) (aa (mC (.str "ring")) (aa (mC (.str "many")) (aa (mC (.str "bare")) (aa (mC (.str "line")) (aa (mC (.str "text")) ag)))))))))))) (aM 1 (aj aF (ac 2) (vD isL idxD (ac 1) (aa (mC (.bl true)) ag))))))))))
def iM:Fn:=fnM [false] 3 rS
theorem sc_l_marks:FnScope ["_law_e","_law_found","_law_words"] ["_law_e"] (ad iV):=by ac_rfl
theorem nF (B:Bl mg) (D:Def K mg "_law_marks" iV) {j:Addr} (M:mg "Apart"=some (.ref j)) (O:IsX K (.ref j) [("NoSheet",false),("NoRing",false)]) {m:Addr} (Q:mg "Bare"=some (.ref m)) (R:IsX K (.ref m) [("NoSheet",false),("NoRing",false)]) {a:Addr} (o:mg "BentError"=some (.ref a)) (n:IsX K (.ref a) [("NoSheet",true),("NoRing",true)]) {b:Addr} (q:mg "NoNumber"=some (.ref b)) (p:IsX K (.ref b) [("NoSheet",false),("NoRing",false)]) {d:Addr} (u:mg "NoPlace"=some (.ref d)) (x:IsX K (.ref d) [("NoSheet",false),("NoRing",false)]) {h:Addr} (I:mg "NoRing"=some (.ref h)) (C:IsX K (.ref h) [("NoSheet",false),("NoRing",true)]) {l:Addr} (N:mg "NoRow"=some (.ref l)) (L:IsX K (.ref l) [("NoSheet",false),("NoRing",false)]) {c:Addr} (r:mg "NoSheet"=some (.ref c)) (v:IsX K (.ref c) [("NoSheet",true),("NoRing",false)]) {i:Addr} (z:mg "NoText"=some (.ref i)) (F:IsX K (.ref i) [("NoSheet",false),("NoRing",false)]) {g:Addr} (E:mg "OnLine"=some (.ref g)) (J:IsX K (.ref g) [("NoSheet",false),("NoRing",false)]) {e:Addr} (t:mg "TooMany"=some (.ref e)) (y:IsX K (.ref e) [("NoSheet",false),("NoRing",false)]) (Z_ValueError:mg "ValueError"=none) (T_ValueError:IsX K (.type "ValueError") [("NoSheet",true),("NoRing",true)]):C5 P w K mg base "_law_marks" 1 ["_law_e"] iM :=
 CO (k:=0) D sc_l_marks rfl rfl (hb1 fun _ _ _ _ _ _ _=>rfl) fun cdv A outer s H f G hr hD hp =>
  have nd:=sc_l_marks.nd;by and_intros
def eF:M3 Bool:=(cB (aj eqX (ak kF (aa (ac 2) (aa (aj aF (ac 3) (mC (.int 0))) (aa (ac 0) (aa (aj aF (ac 3) (mUn jo (mC (.int 1)))) ag))))) (ac 1)))
def iu:EM:=(ac 0)
def kU:EM:=(bx (bO (mSl slD (ac 1) (dW (mC (.int 1))) (dW (mUn jo (mC (.int 1)))))) (aw 0) eF iu [none,some 2,some 0,some 1])
def rR:SM:=(aG (a7 3 kU) (aM 3 (ay qC (aa (aj bH (aj bH (cn (aa (aj aF (ac 1) (mC (.int 0))) ag)) (ac 3)) (cn (aa (aj aF (ac 1) (mUn jo (mC (.int 1)))) ag))) ag))))
def b8:Fn:=fnM [false,false,false] 4 rR
theorem sc_l_side:FnScope ["_law_sheet_here","_law_some","_law_low","_law_inner"] ["_law_sheet_here","_law_some","_law_low"] (ad jB):=by ac_rfl
theorem uC (B:Bl mg) (D:Def K mg "_law_side" jB) (a:aH P w K mg base "_law_up" 2 ["_law_sheet_here","_law_i","_law_j","_law_k"] kF):aH P w K mg base "_law_side" 3 ["_law_sheet_here","_law_some","_law_low"] b8 :=by specialize sc_l_side
def eG:SM:=(aG (sIf (cOr (dF (cB (ak aY (aa (ac 1) (aa (ay cq (aa (ac 0) ag)) ag))))) (cB (aj ltI (ay cq (aa (ac 1) ag)) (mC (.int 3))))) (aM 2 (mC (.bl false))) cz) (aG (sIf (dF (cB (ak ft (aa (ac 0) (aa (ak b8 (aa (ac 0) (aa (ac 1) (aa (mC (.bl true)) ag)))) (aa (mC (.bl true)) ag)))))) (aM 2 (mC (.bl false))) cz) (aM 2 (ak ft (aa (ac 0) (aa (ak b8 (aa (ac 0) (aa (ac 1) (aa (mC (.bl false)) ag)))) (aa (mC (.bl false)) ag)))))))
def bC:Fn:=fnM [false,false] 2 eG
theorem sc_l_is_ring:FnScope ["_law_sheet_here","_law_thing"] ["_law_sheet_here","_law_thing"] (ad eh):=by ac_rfl
theorem nG (B:Bl mg) (D:Def K mg "_law_is_ring" eh) (b:aH P w K mg base "_law_bends" 3 ["_law_sheet_here","_law_thing","_law_up_here"] ft) (a:aH P w K mg base "_law_rising" 2 ["_law_thing","_law_many"] aY) (c:aH P w K mg base "_law_side" 3 ["_law_sheet_here","_law_some","_law_low"] b8):aH P w K mg base "_law_is_ring" 4 ["_law_sheet_here","_law_thing"] bC :=by specialize sc_l_is_ring
def fT:M3 Bool:=(cB (ak bC (aa (ac 1) (aa (ac 0) ag))))
def jN:EM:=(ac 0)
def jM:EM:=(bx (bO (ak bb (aa (ay cq (aa (ac 0) ag)) ag))) (aw 0) fT jN [none,some 0])
def xb:SM:=(aM 1 jM)
def i7:Fn:=fnM [false] 1 xb
theorem sc_l_rings:FnScope ["_law_sheet_here"] ["_law_sheet_here"] (ad iT):=by ac_rfl
theorem sJ (B:Bl mg) (D:Def K mg "_law_rings" iT) (a:aH P w K mg base "_law_is_ring" 4 ["_law_sheet_here","_law_thing"] bC) (b:aH P w K mg base "_law_parts" 1 ["_law_many"] bb):aH P w K mg base "_law_rings" 5 ["_law_sheet_here"] i7 :=by specialize sc_l_rings
def dg:SM:=(aG (sIf (cB (aj eqX (ac 0) (mC (.int 0)))) (aM 3 (gp bS (aa (ac 1) (aa (ac 2) ag)))) cz) (aM 3 (gp bI (aa (ac 1) (aa (ac 2) ag)))))
def kW:SM:=(aM 3 (ak iM (aa (ac 3) ag)))
def iw:SM:=(pv ["NoSheet","NoRing"] 3 dg kW)
def b9:Fn:=fnM [false,false,false] 4 iw
theorem sc_l_said:FnScope ["_law_kind","_law_sheet_here","_law_ring","_law_e"] ["_law_kind","_law_sheet_here","_law_ring"] (ad jC):=by ac_rfl
theorem uD (B:Bl mg) (D:Def K mg "_law_said" jC) (b:C5 P w K mg base "_law_marks" 1 ["_law_e"] iM) (c:kH P w K mg base "high_row" 8 ["sheet","ring"] bI) (g:kH P w K mg base "low_row" 8 ["sheet","ring"] bS) {a:Addr} (e:mg "BentError"=some (.ref a)) (d:ExX K a ["NoSheet","NoRing"]):aH P w K mg base "_law_said" 9 ["_law_kind","_law_sheet_here","_law_ring"] b9 :=
 CP (k:=8) D sc_l_said rfl rfl (hb3 fun _ _ _ _ _ _ _ _ _=>rfl) fun cdv A outer s H E f G hr hp =>
  have nd:=sc_l_said.nd;by and_intros
def ir:SM:=(aG (sIf (cB (aj neX (ay om (aa (ak b9 (aa (mC (.int 0)) (aa (ac 3) (aa (ac 5) ag)))) ag)) (ay om (aa (ak b8 (aa (ac 3) (aa (ac 5) (aa (mC (.bl true)) ag)))) ag)))) (aM 1 (mC (.bl false))) cz) (sIf (cB (aj neX (ay om (aa (ak b9 (aa (mC (.int 1)) (aa (ac 3) (aa (ac 5) ag)))) ag)) (ay om (aa (ak b8 (aa (ac 3) (aa (ac 5) (aa (mC (.bl false)) ag)))) ag)))) (aM 1 (mC (.bl false))) cz))
def my:M3 Bool:=(cB (aj Ff (ac 0) (ac 1)))
def rQ:EM:=(ac 0)
def rP:EM:=(bx (bO (ak bb (aa (ay cq (aa (ac 3) ag)) ag))) (aw 0) my rQ [none,some 4])
def fg:SM:=(sIf (dF (cB (ak bC (aa (ac 3) (aa (ac 8) ag))))) (sIf (cOr (cB (aj neX (ak b9 (aa (mC (.int 0)) (aa (ac 3) (aa (ac 8) ag)))) (mC (.str "ring")))) (cB (aj neX (ak b9 (aa (mC (.int 1)) (aa (ac 3) (aa (ac 8) ag)))) (mC (.str "ring"))))) (aM 1 (mC (.bl false))) cz) cz)
def jL:SM:=(aG (a7 2 (ak lJ (aa (ac 0) (aa (ac 1) ag)))) (aG (a7 3 (ak i6 (aa (ac 2) (aa (mC (.int 7)) ag)))) (aG (a7 4 (ak i7 (aa (ac 3) ag))) (aG (c8 (bO (mSl slD (ak dH (aa (ac 2) (aa (ac 4) ag))) kR (dW (mC (.int 8))))) (aw 5) ir) (aG (a7 6 rP) (aG (a7 7 (ak lG (aa (ac 2) ag))) (c8 (bO (cn (aa (aj aF (ac 6) (ak aX (aa (ac 2) (aa (ay cq (aa (ac 6) ag)) ag)))) (aa (aj aF (ac 6) (mUn jo (mC (.int 1)))) (aa (mC .non) (aa (cn (aa (mC (.int 0)) (aa (mC (.int 1)) (aa (mC (.int 2)) ag)))) (aa (bU (aa (mC (.int 0)) (aa (mC (.int 1)) ag))) (aa (bU (aa (mC (.bl true)) (aa (mC (.int 2)) (aa (mC (.int 3)) ag)))) (aa (ac 7) ag))))))))) (aw 8) fg)))))))
def m_law:SM:=(aG (c8 (bP dS (aa (ay Dn (aa (mC (.int 1)) (aa (ay Dm (aa (ay cq (aa (ac 0) ag)) (aa (mC (.int 4)) ag))) ag))) ag)) (aw 1) jL) (aM 1 (mC (.bl true))))
def Dz:Fn:=fnM [false] 9 m_law
theorem sc_law:FnScope ["_law_script","_law_k","_law_box_here","_law_sheet_here","_law_rings_here","_law_ring","_law_parts_here","_law_odd_here","_law_thing"] ["_law_script"] (ad ic):=by ac_rfl
theorem CN {f:Addr} {fd:FuncData} (B:Bl mg) (D:Fun K "law" "law" ic f fd) (j:aH P w K mg base "_law_box" 2 ["_law_script","_law_k"] lJ) (b:aH P w K mg base "_law_is_ring" 4 ["_law_sheet_here","_law_thing"] bC) (a:aH P w K mg base "_law_mixed_up" 2 ["_law_box_here","_law_some"] dH) (l:aH P w K mg base "_law_odd" 2 ["_law_box_here"] lG) (d:aH P w K mg base "_law_parts" 1 ["_law_many"] bb) (c:aH P w K mg base "_law_rings" 5 ["_law_sheet_here"] i7) (h:aH P w K mg base "_law_said" 9 ["_law_kind","_law_sheet_here","_law_ring"] b9) (e:aH P w K mg base "_law_sheet" 3 ["_law_box_here","_law_most"] i6) (g:aH P w K mg base "_law_side" 3 ["_law_sheet_here","_law_some","_law_low"] b8) (i:aH P w K mg base "_law_take" 1 ["_law_box_here","_law_many"] aX):FnOk P w K mg base CX0 10 f fd ["_law_script"] (tf K Dz) :=
 FI (k:=9) D sc_law rfl rfl fun cdv A outer s H E f G hr hp =>
  have nd:=sc_law.nd;by and_intros
end
theorem nZ (i:Int):cr [(.int i,.z)]=some (.ok (.bl true,.z),[(.int i,.z)]):=by
 apply aL (ρ:=[some (.int i,.z)]) rfl rfl
 ·nofun
 ·rfl
theorem wF (p:Pt):gf [(Pd p,.z)]=some (.ok (.bl true,.z),[(Pd p,.z)]):=by
 apply aL (ρ:=[some (Pd p,.z)]) rfl rfl
 ·nomatch [(nZ _)]
 ·rfl
theorem vK {f c:L3.D->L3.D->Option (L3.D × Fl)} {ma mb mc:EM} {ra rb rc:R3} {ρ ρ1 ρ2 ρ3:Sto} {da db b e d:L3.D} {fl a:Fl} (h1:ma ρ=some (.ok ra,ρ1)) (h2:mb ρ1=some (.ok rb,ρ2)) (h3:der ra ρ2=some (.ok da,ρ2)) (l:der rb ρ2=some (.ok db,ρ2)) (g:f da db=some (.bl true,fl)) (i:mc ρ2=some (.ok rc,ρ3)) (h:der rb ρ3=some (.ok b,ρ3)) (k:der rc ρ3=some (.ok e,ρ3)) (j:c b e=some (d,a)):eV f c ma mb mc ρ=some (.ok (.val d a),ρ3):=by
 simp only [eV,af,h1,h2,h3,l,g,ba,Option.bind_some,asB,GI,if_true,i,h,k,j]
theorem yR (ps:List Pt) (h0:0 < ps.length) (h1:ps.length<=24):dI [(Shd ps,.z)]=some (.ok (.bl true,.z),[(Shd ps,.z)]):=by
 obtain ⟨τ',e,a,rfl⟩:=iH (bnd:=aw 0) (c:=dE) (elt:=dm) (fun τ=>∃ a,τ=[a]) (fun _=>true) (fun _=>.bl true) (ds:=ps.map Pd) (τ:=[none]) ⟨none,rfl⟩ (by
  rintro d hd τ ⟨a,rfl⟩
  obtain ⟨p,j,rfl⟩:=Gs.mp hd
  exact ⟨[some (Pd p,.z)],_,rfl,rfl,(fun h=>by cases h),fun _=>⟨.val (.bl true) .z,[some (Pd p,.z)],(.bl true,.z),[some (Pd p,.z)],by unfold dm;(nomatch [(wF _)]),rfl,rfl,_,rfl⟩⟩)
 have g:=o8 (ds:=((ps.map Pd).filter fun _=>true).map fun _=>.bl true) (fun d hd=>by obtain ⟨_,_,rfl⟩:=Gs.mp hd;rfl)
 generalize ((ps.map Pd).filter fun _=>true).map (fun _=>L3.D.bl true)=out at *
 have i:gl [some (Shd ps,.z)]=some (.ok (.val (.lst out) .u),[some (Shd ps,.z)]):=bc (im:=bO (ac 0)) (ix:=[none]) (ρ1:=[some (Shd ps,.z)]) (ρ2:=[some (Shd ps,.z)]) (ds:=ps.map Pd) (rs:=[.pl 0]) rfl e (by simp;omega) rfl
 have f:leI (.int 1) (.int ((ps.map Pd).length:Int))=some (.bl true,.z):=by simp [b6];omega
 have b:leI (.int ((ps.map Pd).length:Int)) (.int 24)=some (.bl true,.z):=by simp [b6];omega
 apply aL (ρ:=[some (Shd ps,.z)]) rfl rfl
 ·apply bj
  ·apply pX
   ·apply vK
    ·exact i_c
    ·nofun
    ·rfl
    ·rfl
    ·exact f
    ·exact i_c
    ·rfl
    ·rfl
    ·exact b
   ·rfl
   ·rfl
   ·(repeat' (first | with_reducible exact i | infer_instance | exact g | eq_refl))
  ·rfl
 ·rfl
theorem dO {xs:List L3.D} {k:Int} {d:L3.D} (h:L2.atI xs k=some d):aF (.tup xs) (.int k)=some (d,.z):=by
 show orD ixD k6 (.tup xs) (.int k)=_
 simp [orD,ixD,h]
theorem pg {xs:List L3.D} {k:Int} {d:L3.D} (h:L2.atI xs k=some d):aF (.lst xs) (.int k)=some (d,.z):=by
 show orD ixD k6 (.lst xs) (.int k)=_
 simp [orD,ixD,h]
theorem yK (ps:List Pt) (h0:0 < ps.length) (h1:ps.length<=24) (R:Rising ps):cP [(Shd ps,.z)]=some (.ok (.bl true,.z),[(Shd ps,.z)]):=by
 obtain ⟨τ',e,a,rfl⟩:=iH (bnd:=aw 0) (c:=dE) (elt:=cG) (fun τ=>∃ a,τ=[a,some (Shd ps,.z)]) (fun _=>true) (fun _=>.bl true) (ds:=bE 0 (ps.length - 1)) (τ:=[none,some (Shd ps,.z)]) ⟨none,rfl⟩ (by
  rintro d hd τ ⟨a,rfl⟩
  obtain ⟨i,hi⟩:=List.getElem?_of_mem hd
  obtain ⟨hi,rfl⟩:=fc hi
  have f:ps[i]?=some ps[i]:=Gi _
  have g:ps[i+1]?=some ps[i+1]:=Gi _
  have b:=R i (i+1) _ _ (by omega) f g
  have a1:aF (Shd ps) (.int (0+(i:Int)))=some (Pd ps[i],.z):=dO (by rw [Int.zero_add];exact xQ f)
  have a2:aF (Shd ps) (.int (0+(i:Int)+1))=some (Pd ps[i+1],.z):=dO (by rw [Int.zero_add];exact xQ g)
  have l:ltI (.int ps[i].1) (.int ps[i+1].1)=some (.bl true,.z):=by simp [b6,b]
  generalize (0+(i:Int))=j at *
  refine ⟨[some (.int j,.z),some (Shd ps,.z)],_,rfl,rfl,(fun h=>by cases h),fun _=>⟨.val (.bl true) .z,[some (.int j,.z),some (Shd ps,.z)],(.bl true,.z),[some (.int j,.z),some (Shd ps,.z)],?_,rfl,rfl,_,rfl⟩⟩
  unfold cG
  (exists a1,a2,l))
 have o:((ps.length:Int) - 1).toNat=ps.length - 1:=by omega
 have n:dS [.int (((ps.map Pd).length:Int) - 1)]=some (bE 0 (ps.length - 1)):=eA (by simp;omega) (by simp)
 have k:=o8 (ds:=((bE 0 (ps.length - 1)).filter fun _=>true).map fun _=>.bl true) (fun d hd=>by obtain ⟨_,_,rfl⟩:=Gs.mp hd;rfl)
 generalize ((bE 0 (ps.length - 1)).filter fun _=>true).map (fun _=>L3.D.bl true)=out at *
 have m:eJ [some (Shd ps,.z)]=some (.ok (.val (.lst out) .u),[some (Shd ps,.z)]):=bc (ρ1:=[some (Shd ps,.z)]) (rs:=[]) (by (repeat' (first | with_reducible apply gr (h3:=n) | infer_instance | eq_refl))) e (by rw [dR];omega) rfl
 apply aL (ρ:=[some (Shd ps,.z)]) rfl rfl
 ·unfold iy;(repeat' (first | with_reducible exact m | infer_instance | exact k | eq_refl))
 ·rfl
theorem oe (p q r:Int × Int) (h1:-18446744073709551616 < q.1 - p.1/\q.1 - p.1 < 18446744073709551616) (h2:-18446744073709551616 < q.2 - p.2/\q.2 - p.2 < 18446744073709551616):kG [(Pd p,.z),(Pd q,.z),(Pd r,.z)]=some (.ok (.int (a8 p q r),.z),[(Pd p,.z),(Pd q,.z),(Pd r,.z)]):=by
 apply aL (ρ:=[some (Pd p,.z),some (Pd q,.z),some (Pd r,.z),none]) rfl rfl
 ·apply au
  ·exists gj h1
  ·exists gj h2
 ·rfl
theorem x6 {n i j:Nat} (xs:List L3.D) (k:n<=25) (l:j < n) (elt:EM) (he:∀ (a b c:L3.D),elt [some (c,.z),some (a,.z),some (b,.z)]=some (.ok (.val (.tup [a,b,c]) .z),[some (c,.z),some (a,.z),some (b,.z)])) :
  bx (bP lZ (aa (aj bH (ac 3) (mC (.int 1))) (aa (ac 0) ag))) (aw 0) dE elt [none,some 2,some 3] [some (.int n,.z),some (.lst xs,.u),some (.int i,.z),some (.int j,.z)]=some (.ok (.val (.lst ((nt i j (n - (j+1))).map Td)) .u),[some (.int n,.z),some (.lst xs,.u),some (.int i,.z),some (.int j,.z)]):=by
 obtain ⟨τ',e,a,rfl⟩:=iH (bnd:=aw 0) (c:=dE) (elt:=elt) (fun τ=>∃ a,τ=[a,some (.int i,.z),some (.int j,.z)]) (fun _=>true) (fun d=>.tup [.int i,.int j,d]) (ds:=bE ((j:Int)+1) (n - (j+1))) (τ:=[none,some (.int i,.z),some (.int j,.z)]) ⟨none,rfl⟩ (by
  rintro d hd τ ⟨a,rfl⟩
  exact ⟨[some (d,.z),some (.int i,.z),some (.int j,.z)],_,rfl,rfl,(fun h=>by cases h),fun _=>⟨_,_,(.tup [.int i,.int j,d],.z),_,he _ _ _,rfl,rfl,_,rfl⟩⟩)
 have g:((bE ((j:Int)+1) (n - (j+1))).filter fun _=>true).map (fun d=>L3.D.tup [.int i,.int j,d])=(nt i j (n - (j+1))).map Td:=by
  rw [GR.mpr (fun _ _=>rfl)]
  simp [bE,nt,Function.comp_def]
 rw [g] at e
 have f:lZ [.int ((j:Int)+1),.int n]=some (bE ((j:Int)+1) (n - (j+1))):=uZ (by omega) (by omega) (by omega)
 exact bc (rs:=[]) (by (repeat' (first | with_reducible apply gr (h3:=f) | infer_instance | eq_refl))) e (by rw [dR];omega) rfl
theorem FK {A B:List L3.D} (h:A.length+B.length<=16777216):Ap (.lst A) [.lst B]=some (.lst (A ++ B),.non):=by simp [Ap,h]
theorem AN {A:List L3.D} {d:L3.D} (h:A.length < 16777216):AO (.lst A) [d]=some (.lst (A ++ [d]),.non):=by simp [AO,h]
theorem vZ {A B:List L3.D} (h:A.length+B.length<=16777216):bH (.lst A) (.lst B)=some (.lst (A ++ B),.u):=by simp [orD,b6,sD,sC,sE,h]
theorem vY {A B:List L3.D} (h:A.length+B.length<=16777216):bH (.tup A) (.tup B)=some (.tup (A ++ B),.z):=by simp [orD,b6,sD,sC,sE,h]
theorem wo {n:Nat} (h:n<=25) {b1 b2:SM} (h2:b2=c8 (bP lZ (aa (aj bH (ac 2) (mC (.int 1))) (aa (ac 0) ag))) (aw 3) b1)
  (h1:∀ (i j:Nat) (xs:List L3.D),j < n->xs.length<=20000->b1 [some (.int n,.z),some (.lst xs,.u),some (.int i,.z),some (.int j,.z)]=some (.ok .nx,[some (.int n,.z),some (.lst (xs ++ (nt i j (n - (j+1))).map Td),.u),some (.int i,.z),some (.int j,.z)])) :
  ∃ v2 v3,c8 (bP dS (aa (ac 0) ag)) (aw 2) b2 [some (.int n,.z),some (.lst [],.u),none,none]=some (.ok .nx,[some (.int n,.z),some (.lst ((fu n).map Td),.u),v2,v3]):=by
 have inner:∀ (i:Nat) (xs:List Tri) (v3:Option (L3.D × Fl)),i < n->xs.length<=15625->∃ a,b2 [some (.int n,.z),some (.lst (xs.map Td),.u),some (.int i,.z),v3]=some (.ok .nx,[some (.int n,.z),some (.lst ((xs ++ kb n i (n - (i+1))).map Td),.u),some (.int i,.z),a]):=by
  intro i xs v3 hi l
  obtain ⟨ρ',e,a,rfl⟩:=b7 (bnd:=aw 3) (b:=b1) (fun m ρ=>∃ v3,ρ=[some (.int n,.z),some (.lst ((xs ++ kb n i m).map Td),.u),some (.int i,.z),v3]) (ds:=bE ((i:Int)+1) (n - (i+1))) (ρ:=[some (.int n,.z),some (.lst (xs.map Td),.u),some (.int i,.z),v3]) (k:=0) ⟨v3,by simp [kb]⟩ (by
   rintro m d ρ hd ⟨v3,rfl⟩
   obtain ⟨hm,rfl⟩:=fc hd
   have g:((xs ++ kb n i m).map Td).length<=20000:=by
    have:=tH (n:=n) (i:=i) (m:=m) h (by omega)
    simp only [Go,GF]
    omega
   have c:=h1 i (i+1+m) ((xs ++ kb n i m).map Td) (by omega) g
   rw [show ((i+1+m:Nat):Int)=(i:Int)+1+m by omega,<- List.map_append,List.append_assoc,<- og] at c
   exact ⟨_,_,by rw [GD];rfl,.inl c,_,by rw [GD]⟩)
  refine ⟨a,?_⟩
  rw [dR,GD] at e
  have f:lZ [.int ((i:Int)+1),.int n]=some (bE ((i:Int)+1) (n - (i+1))):=uZ (by omega) (by omega) (by omega)
  rw [h2]
  apply iD
  ·(repeat' (first | with_reducible apply gr (h3:=f) | infer_instance | eq_refl))
  ·rfl
  ·exact e
 obtain ⟨ρ',e,v2,v3,rfl⟩:=b7 (bnd:=aw 2) (b:=b2) (fun m ρ=>∃ v2 v3,ρ=[some (.int n,.z),some (.lst ((pA n m).map Td),.u),v2,v3]) (ds:=bE 0 n) (ρ:=[some (.int n,.z),some (.lst [],.u),none,none]) (k:=0) ⟨none,none,rfl⟩ (by
  rintro m d ρ hd ⟨v2,v3,rfl⟩
  obtain ⟨hm,rfl⟩:=fc hd
  rw [GD,Int.zero_add]
  obtain ⟨a,e⟩:=inner m (pA n m) v3 hm (tJ h (by omega))
  rw [<- oh] at e
  exact ⟨_,_,rfl,.inl e,_,_,rfl⟩)
 rw [dR,GD] at e
 have f:dS [.int (n:Int)]=some (bE 0 n):=eA (by omega) (by omega)
 refine ⟨v2,v3,?_⟩
 apply iD
 ·(repeat' (first | with_reducible apply gr (h3:=f) | infer_instance | eq_refl))
 ·rfl
 ·exact e
theorem lV (n:Nat) (d:n<=25):fm [(.int n,.z)]=some (.ok (.lst ((fu n).map Td),.u),[(.int n,.z)]):=by
 obtain ⟨v2,v3,e⟩:=wo (n:=n) d (b1:=io) (b2:=kT) rfl (by
  intro i j xs f h
  have c:=x6 (n:=n) (i:=i) (j:=j) xs d f il (fun a b c=>by unfold il;(nofun))
  have g:xs.length+((nt i j (n - (j+1))).map Td).length<=16777216:=by
   rw [Go,qS];omega
  unfold io kS
  (repeat' (first | with_reducible exact c | infer_instance | exact FK g | eq_refl)))
 apply aL (ρ:=[some (.int n,.z),none,none,none]) rfl rfl
 ·apply au
  ·nofun
  ·apply au
   ·exact e
   ·nofun
 ·rfl
theorem An {S:List L3.D} {i j k:Int} {p q r:Pt} {v2:Option (L3.D × Fl)} (a1:aF (.tup S) (.int i)=some (Pd p,.z)) (a2:aF (.tup S) (.int j)=some (Pd q,.z)) (m:aF (.tup S) (.int k)=some (Pd r,.z)) (f:Small p) (e:Small q) (h0:a8 p q r ≠ 0):bF [some (.tup S,.z),some (.tup [.int i,.int j,.int k],.z),v2]=some (.ok .nx,[some (.tup S,.z),some (.tup [.int i,.int j,.int k],.z),some (.tup [Pd p,Pd q,Pd r],.z)]):=by
 have b:=oe p q r (Small.sub f e).1 (Small.sub f e).2
 have one:∀ (x d:L3.D) (a:Option (L3.D × Fl)),aF (.tup S) x=some (d,.z)->cj [some (x,.z),some (.tup S,.z)]=some (.ok (.val d .z),[some (x,.z),some (.tup S,.z)]):=fun x d a h=>by unfold cj;(exists h)
 have c:dZ [some (.tup S,.z),some (.tup [.int i,.int j,.int k],.z),v2]=some (.ok (.val (.lst [Pd p,Pd q,Pd r]) .u),[some (.tup S,.z),some (.tup [.int i,.int j,.int k],.z),v2]):=by
  refine bc (ρ1:=[some (.tup S,.z),some (.tup [.int i,.int j,.int k],.z),v2]) (ρ2:=[some (.tup S,.z),some (.tup [.int i,.int j,.int k],.z),v2]) (ds:=[.int i,.int j,.int k]) (rs:=[.pl 1]) (τ:=[some (.int k,.z),some (.tup S,.z)]) rfl ?_ (by simp) rfl
  have e1:=one (.int i) _ none a1
  have l:=one (.int j) _ none a2
  have g:=one (.int k) _ none m
  have n:∀ d a,aw 0 d [a,some (L3.D.tup S,.z)]=some [some (d,.z),some (.tup S,.z)]:=fun _ _=>rfl
  have cs:uu [none,some 0] (aK cL (us [some (L3.D.tup S,.z),some (.tup [.int i,.int j,.int k],.z),v2] (pls [R3.pl 1])) [some (.tup S,.z),some (.tup [.int i,.int j,.int k],.z),v2])=[none,some (.tup S,.z)]:=rfl
  rw [cs]
  simp only [bX,n,dE,af,aZ,if_true,e1,l,g,dy,nol]
 unfold bF
 apply au
 ·(repeat' (first | with_reducible exact c | infer_instance | eq_refl))
 ·apply bW
  ·nomatch [b]
  ·exact GB h0
  ·rfl
theorem BC (ps:List Pt) (n:ps.length<=24) (h:∀ p ∈ ps,Small p) (i:NoLine ps):cg [(Shd ps,.z)]=some (.ok (.non,.z),[(Shd ps,.z)]):=by
 have a:=lV ps.length (by omega)
 rw [show (ps.length:Int)=((ps.map Pd).length:Int) by rw [Go]] at a
 obtain ⟨ρ',e,v1,v2,rfl⟩:=b7 (bnd:=aw 1) (b:=bF) (fun _ ρ=>∃ v1 v2,ρ=[some (Shd ps,.z),v1,v2]) (ds:=(fu ps.length).map Td) (ρ:=[some (Shd ps,.z),none,none]) (k:=0) ⟨none,none,rfl⟩ (by
  rintro m d ρ hd ⟨v1,v2,rfl⟩
  rw [Gu,Ge] at hd
  obtain ⟨t,a,rfl⟩:=hd
  obtain ⟨l,j,o⟩:=rK (Gq a)
  have c:ps[t.1]?=some (ps[t.1]'(by omega)):=Gi _
  have f:ps[t.2.1]?=some (ps[t.2.1]'(by omega)):=Gi _
  have g:ps[t.2.2]?=some (ps[t.2.2]'(by omega)):=Gi _
  have b:=An (v2:=v2) (dO (xQ c)) (dO (xQ f)) (dO (xQ g)) (h _ (Gq c)) (h _ (Gq f)) (i _ _ _ _ _ _ l j c f g)
  exact ⟨[some (Shd ps,.z),some (Td t,.z),v2],_,rfl,.inl b,_,_,rfl⟩)
 apply aL (ρ:=[some (Shd ps,.z),none,none]) rfl rfl
 ·apply au
  ·apply iD
   ·nomatch [a]
   ·rfl
   ·exact e
  ·nofun
 ·rfl
theorem qP {ps:List Pt} (g:GoodSh ps):gc [(Shd ps,.z)]=some (.ok (.bl true,.z),[(Shd ps,.z)]):=by
 have h1:=yR ps g.pos g.most
 have h2:=yK ps g.pos g.most g.rising
 have h3:=BC ps g.most g.small g.noline
 apply aL (ρ:=[some (Shd ps,.z)]) rfl rfl
 ·apply au
  ·apply bW
   ·nomatch [h1]
   ·rfl
   ·rfl
  ·nomatch [h2,h3]
 ·rfl
theorem wI {ps:List Pt} (g:GoodSh ps):ci [(Shd ps,.z)]=some (.ok (.non,.z),[(Shd ps,.z)]):=by
 have h1:=qP g
 apply F_nx (ρ:=[some (Shd ps,.z)]) rfl rfl
 ·apply bW
  ·nomatch [h1]
  ·rfl
  ·rfl
 ·rfl
def qA (p q r:Pt):Int:=if 0 < a8 p q r then 1 else -1
theorem tz {S:List L3.D} {i j k:Int} {p q r:Pt} (a1:aF (.tup S) (.int i)=some (Pd p,.z)) (a2:aF (.tup S) (.int j)=some (Pd q,.z)) (a:aF (.tup S) (.int k)=some (Pd r,.z)) (c:Small p) (d:Small q):dM [(.tup S,.z),(.tup [.int i,.int j,.int k],.z)]=some (.ok (.int (qA p q r),.z),[(.tup S,.z),(.tup [.int i,.int j,.int k],.z)]):=by
 have b:=oe p q r (Small.sub c d).1 (Small.sub c d).2
 by_cases h:0 < a8 p q r
 ·rw [show qA p q r=1 from if_pos h]
  apply aL (ρ:=[some (.tup S,.z),some (.tup [.int i,.int j,.int k],.z)]) rfl rfl
  ·apply bj
   ·apply FD
    ·nomatch [b],[a1,a2,a]
    ·exact GA h
    ·exact i_c
   ·rfl
  ·rfl
 ·rw [show qA p q r = -1 from if_neg h]
  apply aL (ρ:=[some (.tup S,.z),some (.tup [.int i,.int j,.int k],.z)]) rfl rfl
  ·apply bj
   ·apply FE
    ·nomatch [b],[a1,a2,a]
    ·exact GB h
    ·nofun
   ·rfl
  ·rfl
theorem cN (c:Int) (m:Int) (h:0 < m):0<=c % m/\c % m < m:=⟨Int.emod_nonneg _ (by omega),Int.emod_lt_of_pos _ h⟩
theorem ie (n m:Int) (h:0 < m/\m < 1073741824):aX [(.lst [.int n],.u),(.int m,.z)]=some (.ok (.int (n % m),.z),[(.lst [.int (n / m)],.u),(.int m,.z)]):=by
 have hd:Av [.int n,.int m]=some (.tup [.int (n / m),.int (n % m)],.z):=by simp [c2,jT,h]
 apply aL (ρ:=[some (.lst [.int n],.u),some (.int m,.z),none,none]) rfl rfl
 ·apply au
  ·exists hd
  ·apply au
   ·nofun
   ·nofun
 ·rfl
theorem qQ (p q r:Int × Int) (h1:-18446744073709551616 < q.1 - p.1/\q.1 - p.1 < 18446744073709551616) (h2:-18446744073709551616 < q.2 - p.2/\q.2 - p.2 < 18446744073709551616):d9 [(Pd p,.z),(Pd q,.z),(Pd r,.z)]=some (.ok (.int (a8 p q r),.z),[(Pd p,.z),(Pd q,.z),(Pd r,.z)]):=by
 apply aL (ρ:=[some (Pd p,.z),some (Pd q,.z),some (Pd r,.z),none,none,none]) rfl rfl
 ·apply au
  ·nofun
  apply au
  ·exists gj h1
  ·exists gj h2
 ·rfl
theorem yQ (ns:List Int) (k:Nat):∃ n:Int,j4 [(.fls (ns.map .int),.z),(.int k,.z)]=some (.ok (.int n,.z),[(.fls (ns.map .int),.z),(.int k,.z)]):=by
 by_cases h:k < ns.length
 ·refine ⟨ns[k],?_⟩
  have a:aF (.fls (ns.map .int)) (.int (k:Int))=some (.int ns[k],.z):=by
   have:L2.atI (ns.map L3.D.int) (k:Int)=some (.int ns[k]):=we (by simp [h])
   simp [orD,ixD,this]
  have b:(k:Int) < ((ns.map L3.D.int).length:Int):=by simp;omega
  generalize (k:Int)=kk at *
  apply aL (ρ:=[some (.fls (ns.map .int),.z),some (.int kk,.z)]) rfl rfl
  ·apply fD
   apply eK
   ·nofun
   ·exact GA b
   ·exists a
  ·rfl
 ·refine ⟨0,?_⟩
  have b:¬ (k:Int) < ((ns.map L3.D.int).length:Int):=by simp;omega
  generalize (k:Int)=kk at *
  apply aL (ρ:=[some (.fls (ns.map .int),.z),some (.int kk,.z)]) rfl rfl
  ·apply au
   ·apply bW
    ·nofun
    ·exact GB b
    ·rfl
   ·nofun
  ·rfl
theorem BA (c j:Int):∃ n:Int,lH [(.int c,.z),(.int j,.z)]=some (.ok (.int n,.z),[(.int c,.z),(.int j,.z)]):=by
 have a:=cN c 2147483647 (by decide)
 have b:=cN j 13 (by decide)
 obtain ⟨m,hm⟩:∃ m:Nat,j % 13=m:=⟨(j % 13).toNat,by omega⟩
 have d:m < 13:=by omega
 have e:∃ v:Int,aF (.lst [.int 48271,.int 69621,.int 16807,.int 39373,.int 30269,.int 40014,.int 40692,.int 50021,.int 61687,.int 71993,.int 83869,.int 95561,.int 30307]) (.int (j % 13))=some (.int v,.z):=by
  rw [hm]
  clear hm
  match m,d with
  | 0,_=>exact ⟨_,rfl⟩
  | 1,_=>exact ⟨_,rfl⟩
  | 2,_=>exact ⟨_,rfl⟩
  | 3,_=>exact ⟨_,rfl⟩
  | 4,_=>exact ⟨_,rfl⟩
  | 5,_=>exact ⟨_,rfl⟩
  | 6,_=>exact ⟨_,rfl⟩
  | 7,_=>exact ⟨_,rfl⟩
  | 8,_=>exact ⟨_,rfl⟩
  | 9,_=>exact ⟨_,rfl⟩
  | 10,_=>exact ⟨_,rfl⟩
  | 11,_=>exact ⟨_,rfl⟩
  | 12,_=>exact ⟨_,rfl⟩
 obtain ⟨v,f⟩:=e
 have c1:-18446744073709551616 < c % 2147483647+12345/\c % 2147483647+12345 < 18446744073709551616:=by omega
 have c2:∀ z:Int,-18446744073709551616 < z % 1000000007/\z % 1000000007 < 18446744073709551616:=fun z=>by
  have:=cN z 1000000007 (by decide)
  omega
 apply Exists.intro
 apply aL (ρ:=[some (.int c,.z),some (.int j,.z),none,none]) rfl rfl
 ·apply au
  ·nofun
  apply au
  ·exists f,gj (by decide),gj c1
  apply au
  ·nofun
  ·exists gj (by decide),gj (c2 _)
 ·rfl
theorem BD (ns:List Int) (k:Nat):∃ n:Int,lJ [(.fls (ns.map .int),.z),(.int k,.z)]=some (.ok (.lst [.int n],.u),[(.fls (ns.map .int),.z),(.int k,.z)]):=by
 obtain ⟨c,a⟩:=yQ ns k
 generalize L3.D.fls (ns.map .int)=S at *
 generalize L3.D.int (k:Int)=kk at *
 by_cases h:c % 2=0
 ·apply Exists.intro
  apply aL (ρ:=[some (S,.z),some (kk,.z),none,none,none]) rfl rfl
  ·apply au
   ·nomatch [a]
   apply fD
   apply eK
   ·nofun
   ·exact GA h
   ·nofun
  ·rfl
 ·obtain ⟨ρ',e,n,v4,rfl⟩:=b7 (bnd:=aw 4) (b:=jq) (fun _ ρ=>∃ (n:Int) (v4:Option (L3.D × Fl)),ρ=[some (S,.z),some (kk,.z),some (.int c,.z),some (.int n,.z),v4]) (ds:=bE 0 40) (ρ:=[some (S,.z),some (kk,.z),some (.int c,.z),some (.int 0,.z),none]) (k:=0) ⟨0,none,rfl⟩ (by
   rintro i d ρ hd ⟨n,v4,rfl⟩
   obtain ⟨hi,rfl⟩:=fc hd
   obtain ⟨m,hm⟩:=BA c (0+(i:Int))
   generalize (0+(i:Int))=j at *
   exact ⟨_,[some (S,.z),some (kk,.z),some (.int c,.z),some (.int (n * 142857143+m),.z),some (.int j,.z)],rfl,.inl (by unfold jq;(nomatch [hm],[zO (by decide)])),_,_,rfl⟩)
  refine ⟨n,?_⟩
  apply aL (ρ:=[some (S,.z),some (kk,.z),none,none,none]) rfl rfl
  ·apply au
   ·nomatch [a]
   apply au
   ·apply bW
    ·nofun
    ·exact GB h
    ·rfl
   apply au
   ·nofun
   apply au
   ·apply iD
    ·exact gr (by (nofun)) rfl (eA (n:=40) (by decide) (by decide))
    ·rfl
    ·exact e
   ·nofun
  ·rfl
theorem Al {X Z:L3.D} {f:Fl} {k:L3.D} {p q:L3.D} {b:Int} (a:d9 [(p,.z),(q,.z),(Z,.z)]=some (.ok (.int b,.z),[(p,.z),(q,.z),(Z,.z)])) :
  dh [some (X,f),some (Z,.z),some (k,.z),some (q,.z),some (p,.z)]=some (.ok (if b=0 then .rt (.bl false) .z else .nx),[some (X,f),some (Z,.z),some (k,.z),some (q,.z),some (p,.z)]):=by
 by_cases h:b=0
 ·rw [if_pos h]
  apply eK
  ·nomatch [a]
  ·exact GA h
  ·nofun
 ·rw [if_neg h]
  apply bW
  ·nomatch [a]
  ·exact GB h
  ·rfl
theorem yP (ps:List Pt) (z:Pt) (x:∀ p ∈ ps,Small p) (E:ps.length<=24):∃ b:Bool,fq [(.lst (ps.map Pd),.u),(Pd z,.z)]=some (.ok (.bl b,.z),[(.lst (ps.map Pd),.u),(Pd z,.z)])/\(b=true->AX ps z)/\(b=false->∃ (i j:Nat) (p q:Pt),i < j/\ps[i]?=some p/\ps[j]?=some q/\a8 p q z=0):=by
 have inner:∀ (i:Nat) (q:Pt) (v4:Option (L3.D × Fl)),ps[i]?=some q->∃ a,cQ (aw 4) dh ((ps.take i).map Pd) [some (.lst (ps.map Pd),.l),some (Pd z,.z),some (.int i,.z),some (Pd q,.z),v4]=some (.ok .nx,[some (.lst (ps.map Pd),.l),some (Pd z,.z),some (.int i,.z),some (Pd q,.z),a])/\(∀ j p,j < i->ps[j]?=some p->a8 p q z ≠ 0) \/
   cQ (aw 4) dh ((ps.take i).map Pd) [some (.lst (ps.map Pd),.l),some (Pd z,.z),some (.int i,.z),some (Pd q,.z),v4]=some (.ok (.rt (.bl false) .z),[some (.lst (ps.map Pd),.l),some (Pd z,.z),some (.int i,.z),some (Pd q,.z),a])/\∃ j p,j < i/\ps[j]?=some p/\a8 p q z=0:=by
  intro i q v4 n
  have hi:i < ps.length:=(Gp.mp n).1
  obtain ⟨ρ',h⟩:=pZ (bnd:=aw 4) (b:=dh) (fun m ρ=>∃ v4,ρ=[some (.lst (ps.map Pd),.l),some (Pd z,.z),some (.int i,.z),some (Pd q,.z),v4]/\∀ j p,j < m->ps[j]?=some p->a8 p q z ≠ 0)
   (fun m r f ρ=>r=.bl false/\f=.z/\∃ v4,ρ=[some (.lst (ps.map Pd),.l),some (Pd z,.z),some (.int i,.z),some (Pd q,.z),v4]/\∃ p,ps[m]?=some p/\a8 p q z=0)
   (ds:=(ps.take i).map Pd) (ρ:=[some (.lst (ps.map Pd),.l),some (Pd z,.z),some (.int i,.z),some (Pd q,.z),v4]) (k:=0) ⟨v4,rfl,fun j p h=>absurd h (Nat.not_lt_zero _)⟩ (by
    rintro m d ρ hd ⟨v4,rfl,w⟩
    rw [Gu,Ge] at hd
    obtain ⟨p,g,rfl⟩:=hd
    have o:ps[m]?=some p/\m < i:=by
     rw [List.getElem?_take] at g
     split at g
     ·exact ⟨g,by assumption⟩
     ·cases g
    have sm:=Small.sub (x p (Gq o.1)) (x q (Gq n))
    have rb:=qQ p q z sm.1 sm.2
    have rb:=Al (X:=.lst (ps.map Pd)) (f:=.l) (k:=.int (i:Int)) rb
    by_cases h0:a8 p q z=0
    ·rw [if_pos h0] at rb
     exact ⟨_,_,rfl,.inr ⟨.bl false,.z,rb,rfl,rfl,_,rfl,p,by simpa using o.1,h0⟩⟩
    ·rw [if_neg h0] at rb
     refine ⟨_,_,rfl,.inl ⟨.inl rb,_,rfl,fun j C t v=>?_⟩⟩
     by_cases e:j=m
     ·subst e;rw [o.1] at v;cases v;exact h0
     ·exact w j C (by omega) v)
  rcases h with ⟨e,a,rfl,h⟩ | ⟨m,r,f,hm,e,rfl,rfl,a,rfl,p,g,h0⟩
  ·exact ⟨a,.inl ⟨e,fun j p t=>h j p (by simp;omega)⟩⟩
  ·refine ⟨a,.inr ⟨e,m,p,by simp at hm;omega,by simpa using g,h0⟩⟩
 obtain ⟨ρ',h⟩:=pZ (bnd:=j0 2 (cy (aw 2) (cy (aw 3) j3))) (b:=eI) (fun m ρ=>∃ v2 v3 v4,ρ=[some (.lst (ps.map Pd),.l),some (Pd z,.z),v2,v3,v4]/\∀ i j p q,i < j->j < m->ps[i]?=some p->ps[j]?=some q->a8 p q z ≠ 0)
   (fun m r f ρ=>r=.bl false/\f=.z/\∃ v2 v3 v4,ρ=[some (.lst (ps.map Pd),.l),some (Pd z,.z),v2,v3,v4]/\∃ (i j:Nat) (p q:Pt),i < j/\ps[i]?=some p/\ps[j]?=some q/\a8 p q z=0)
   (ds:=iE 0 (ps.map Pd)) (ρ:=[some (.lst (ps.map Pd),.l),some (Pd z,.z),none,none,none]) (k:=0) ⟨_,_,_,rfl,fun i j p q _ h=>absurd h (Nat.not_lt_zero _)⟩ (by
    rintro m d ρ hd ⟨v2,v3,v4,rfl,w⟩
    rw [kA,Gu,Option.map_map,Ge] at hd
    obtain ⟨q,n,rfl⟩:=hd
    have hm:m < ps.length:=(Gp.mp n).1
    obtain ⟨a,h⟩:=inner m q v4 n
    have sl:=CV (xs:=ps.map Pd) (m:=m) (by simp;omega)
    rw [<- List.map_take] at sl
    rcases h with ⟨e,h⟩ | ⟨e,j,p,t,g,h0⟩
    ·refine ⟨_,[some (.lst (ps.map Pd),.l),some (Pd z,.z),some (.int m,.z),some (Pd q,.z),a],by simp [aw,j0,cy,j3];rfl,.inl ⟨.inl (by simp [eI,af,aZ,ba,der,ac,mC,aj,mUn,ag,aa,cR,ay,cz,aG,aM,uW,a7,nq,sIf,gi,dy,lowAt,nol,frz,xr,pls,gives,rT,orD,b6,ixD,k6,aw,j3,cy,j0,fnM,fn0,d6,du,lf,c1,c2,jT,nk,qN,tR,kP,mSl,slD,kR,dW,asI,cB,C0,cOr,dF,i9,mOr,rV,mIf,eV,asB,eqS,eqA,ak,prs,d7,back,jQ,oM,lg,jo,isN,Cn,kZ,mD,AR,xY,z4,orC,sD,sC,sE,L2.atI,ixN,c8,bO,uV,-List.map_take,sl,aK,us,e]),_,_,_,rfl,fun i j p B c t hi s=>?_⟩⟩
     by_cases A:j=m
     ·subst A;rw [n] at s;cases s;exact h i p c hi
     ·exact w i j p B c (by omega) hi s
    ·refine ⟨_,[some (.lst (ps.map Pd),.l),some (Pd z,.z),some (.int m,.z),some (Pd q,.z),a],by simp [aw,j0,cy,j3];rfl,.inr ⟨.bl false,.z,by simp [eI,af,aZ,ba,der,ac,mC,aj,mUn,ag,aa,cR,ay,cz,aG,aM,uW,a7,nq,sIf,gi,dy,lowAt,nol,frz,xr,pls,gives,rT,orD,b6,ixD,k6,aw,j3,cy,j0,fnM,fn0,d6,du,lf,c1,c2,jT,nk,qN,tR,kP,mSl,slD,kR,dW,asI,cB,C0,cOr,dF,i9,mOr,rV,mIf,eV,asB,eqS,eqA,ak,prs,d7,back,jQ,oM,lg,jo,isN,Cn,kZ,mD,AR,xY,z4,orC,sD,sC,sE,L2.atI,ixN,c8,bO,uV,-List.map_take,sl,aK,us,e],rfl,rfl,_,_,_,rfl,j,m,p,q,t,g,n,h0⟩⟩)
 rcases h with ⟨e,v2,v3,v4,rfl,h⟩ | ⟨m,r,f,hm,e,rfl,rfl,v2,v3,v4,rfl,y⟩
 ·refine ⟨true,?_,fun _ i j p q c hi t=>h i j p q c ?_ hi t,fun h=>by cases h⟩
  ·simp [fq,mB,af,aZ,ba,der,ac,mC,aj,mUn,ag,aa,cR,ay,cz,aG,aM,uW,a7,nq,sIf,gi,dy,lowAt,nol,frz,xr,pls,gives,rT,orD,b6,ixD,k6,aw,j3,cy,j0,fnM,fn0,d6,du,lf,c1,c2,jT,nk,qN,tR,kP,mSl,slD,kR,dW,asI,cB,C0,cOr,dF,i9,mOr,rV,mIf,eV,asB,eqS,eqA,ak,prs,d7,back,jQ,oM,lg,jo,isN,Cn,kZ,mD,AR,xY,z4,orC,sD,sC,sE,L2.atI,ixN,c8,mG,aK,us,jK,cL,gv,e]
  ·have:=(Gp.mp t).1
   simp [kz];omega
 ·refine ⟨false,?_,fun h=>(by cases h),fun _=>y⟩
  simp [fq,mB,af,aZ,ba,der,ac,mC,aj,mUn,ag,aa,cR,ay,cz,aG,aM,uW,a7,nq,sIf,gi,dy,lowAt,nol,frz,xr,pls,gives,rT,orD,b6,ixD,k6,aw,j3,cy,j0,fnM,fn0,d6,du,lf,c1,c2,jT,nk,qN,tR,kP,mSl,slD,kR,dW,asI,cB,C0,cOr,dF,i9,mOr,rV,mIf,eV,asB,eqS,eqA,ak,prs,d7,back,jQ,oM,lg,jo,isN,Cn,kZ,mD,AR,xY,z4,orC,sD,sC,sE,L2.atI,ixN,c8,mG,aK,us,jK,cL,gv,e]
theorem sq_le {i:Nat} (h:i < 12):0<=(i:Int) * (i:Int)/\(i:Int) * (i:Int)<=144:=by
 have h1:i * i<=12 * 12:=Nat.mul_le_mul (by omega) (by omega)
 grind
theorem A3 {i:Nat} {g kd:Int} (hi:i < 12) (d:-15<=g) (g1:g<=15) (k0:0<=kd) (k1:kd < 6) :
  ∃ y:Int,aF (.lst [.int g,.int g,.int ((i:Int) * i+g / 9),.int (g / 9 - (i:Int) * i),.int (((i:Int) * i+30) * (1 - 2 * ((i:Int) % 2))),.int (g * 1000)]) (.int kd)=some (.int y,.z)/\-16000<=y/\y<=16000:=by
 obtain ⟨b,c⟩:=sq_le hi
 obtain ⟨j,rfl⟩:∃ j:Nat,kd=(j:Int):=⟨kd.toNat,by omega⟩
 have a:j < 6:=by omega
 generalize (i:Int) * (i:Int)=qq at *
 have hm:(qq+30) * (1 - 2 * ((i:Int) % 2))<=16000/\-16000<=(qq+30) * (1 - 2 * ((i:Int) % 2)):=by
  rcases Int.emod_two_eq (i:Int) with e | e
  ·rw [e];simp;omega
  ·rw [e];simp;omega
 generalize (qq+30) * (1 - 2 * ((i:Int) % 2))=zz at *
 match j,a with
 | 0,_=>exact ⟨_,rfl,by omega,by omega⟩
 | 1,_=>exact ⟨_,rfl,by omega,by omega⟩
 | 2,_=>exact ⟨_,rfl,by omega,by omega⟩
 | 3,_=>exact ⟨_,rfl,by omega,by omega⟩
 | 4,_=>exact ⟨_,rfl,by omega,by omega⟩
 | 5,_=>exact ⟨_,rfl,by omega,by omega⟩
abbrev cU (n most many kd x:Int) (ps:List Pt) (v6 v7 v8 v9:Option (L3.D × Fl)):Sto:=[some (.lst [.int n],.u),some (.int most,.z),some (.int many,.z),some (.int kd,.z),some (.int x,.z),some (.lst (ps.map Pd),.u),v6,v7,v8,v9]
theorem tD {n most many kd x y0:Int} {ps:List Pt} {v6 v7 v8:Option (L3.D × Fl)} (R:Rising ps) (o:∀ p ∈ ps,Small p) (r:ps.length<=12) :
  ∃ y,fL cD dD (cU n most many kd x ps v6 v7 v8 (some (.int y0,.z)))=some (.ok .nx,cU n most many kd x ps v6 v7 v8 (some (.int y,.z)))/\AX ps (x,y)/\y0<=y/\y<=y0+144:=by
 have g:above ps x y0<=144:=by
  have h1:=AT ps x y0
  have h2:ps.length * ps.length<=12 * 12:=Nat.mul_le_mul (by omega) (by omega)
  omega
 obtain ⟨ρ',e,y,rfl,hf,h1,h2⟩:=nK (c:=cD) (b:=dD) (fun m ρ=>∃ y:Int,ρ=cU n most many kd x ps v6 v7 v8 (some (.int y,.z))/\m=above ps x y/\y0<=y/\y+(above ps x y:Int)<=y0+(above ps x y0:Int))
  (fun ρ=>∃ y:Int,ρ=cU n most many kd x ps v6 v7 v8 (some (.int y,.z))/\AX ps (x,y)/\y0<=y/\y<=y0+144) (ρ:=cU n most many kd x ps v6 v7 v8 (some (.int y0,.z))) ⟨y0,rfl,rfl,Int.le_refl _,Int.le_refl _⟩ (by
   rintro m ρ ⟨y,rfl,rfl,h1,h2⟩
   obtain ⟨b,h,l,hf⟩:=yP ps (x,y) o (by omega)
   have f:cD (cU n most many kd x ps v6 v7 v8 (some (.int y,.z)))=some (.ok (!b),cU n most many kd x ps v6 v7 v8 (some (.int y,.z))):=by
    unfold cD
    nomatch [h]
   cases b with
   | true=>exact .inl ⟨_,f,y,rfl,l rfl,h1,by omega⟩
   | false =>
    obtain ⟨i,j,p,q,d,e1,k,h0⟩:=hf rfl
    have a:=AS R d e1 k h0
    exact .inr ⟨_,cU n most many kd x ps v6 v7 v8 (some (.int (y+1),.z)),_,f,.inl (by unfold dD;(nofun)),a,y+1,rfl,rfl,by omega,by omega⟩)
 exact ⟨y,e,hf,h1,h2⟩
theorem yJ {n most many kd x:Int} {i:Nat} {ps:List Pt} {v7 v8 v9:Option (L3.D × Fl)} (R:Rising ps) (q:∀ p ∈ ps,Small p) (r:ps.length<=12) (hi:i < 12) (k0:0<=kd) (k1:kd < 6) :
  ∃ (k d y:Int) (b c e:Option (L3.D × Fl)),cE (cU n most many kd x ps (some (.int i,.z)) v7 v8 v9)=some (.ok .nx,cU k most many kd (x+1+d) (ps ++ [(x+1+d,y)]) (some (.int i,.z)) b c e)/\0<=d/\d < 3/\AX ps (x+1+d,y)/\-16000<=y/\y<=16144:=by
 have t:=ie
 have B:=cN (n / 3) 31 (by decide)
 have f:=cN n 3 (by decide)
 generalize o:n / 3 % 31 - 15=G at *
 obtain ⟨y0,s,w,A⟩:=A3 (i:=i) (g:=G) (kd:=kd) hi (by omega) (by omega) k0 k1
 have h:-18446744073709551616 < (i:Int)/\(i:Int) < 18446744073709551616:=by omega
 have m:-18446744073709551616 < 1 - 2 * ((i:Int) % 2)/\1 - 2 * ((i:Int) % 2) < 18446744073709551616:=by omega
 generalize a:x+1+n % 3=X at *
 obtain ⟨y,l,hf,h1,h2⟩:=tD (n:=n / 3 / 31) (most:=most) (many:=many) (kd:=kd) (x:=X) (y0:=y0) (ps:=ps) (v6:=some (.int i,.z)) (v7:=some (.int G,.z)) (v8:=some (.lst [.int G,.int G,.int ((i:Int) * i+G / 9),.int (G / 9 - (i:Int) * i),.int (((i:Int) * i+30) * (1 - 2 * ((i:Int) % 2))),.int (G * 1000)],.u)) R q r
 refine ⟨n / 3 / 31,n % 3,y,some (.int G,.z),some (.lst [.int G,.int G,.int ((i:Int) * i+G / 9),.int (G / 9 - (i:Int) * i),.int (((i:Int) * i+30) * (1 - 2 * ((i:Int) % 2))),.int (G * 1000)],.u),some (.int y,.z),?_,f.1,f.2,by rw [a];exact hf,by omega,by omega⟩
 rw [a]
 have v:(ps.map Pd).length < 16777216:=by simp;omega
 have j:=AN (d:=Pd (X,y)) v
 rw [show ps.map Pd ++ [Pd (X,y)]=(ps ++ [(X,y)]).map Pd by simp] at j
 clear hi
 generalize (i:Int)=zi at *
 unfold cE
 apply au (ρ1:=cU (n / 3) most many kd X ps (some (.int zi,.z)) v7 v8 v9)
 ·rw [<- a]
  nomatch [(t _ _ (by decide))]
 apply au (ρ1:=cU (n / 3 / 31) most many kd X ps (some (.int zi,.z)) (some (.int G,.z)) v8 v9)
 ·rw [<- o]
  nomatch [(t _ _ (by decide))]
 apply au (ρ1:=cU (n / 3 / 31) most many kd X ps (some (.int zi,.z)) (some (.int G,.z)) (some (.lst [.int G,.int G,.int (zi * zi+G / 9),.int (G / 9 - zi * zi)],.u)) v9)
 ·exists gj h
 apply au (ρ1:=cU (n / 3 / 31) most many kd X ps (some (.int zi,.z)) (some (.int G,.z)) (some (.lst [.int G,.int G,.int (zi * zi+G / 9),.int (G / 9 - zi * zi),.int ((zi * zi+30) * (1 - 2 * (zi % 2))),.int (G * 1000)],.u)) v9)
 ·exists gj h,gj (by decide),zO m,zO (by decide)
 apply au (ρ1:=cU (n / 3 / 31) most many kd X ps (some (.int zi,.z)) (some (.int G,.z)) (some (.lst [.int G,.int G,.int (zi * zi+G / 9),.int (G / 9 - zi * zi),.int ((zi * zi+30) * (1 - 2 * (zi % 2))),.int (G * 1000)],.u)) (some (.int y0,.z)))
 ·exists s
 apply au
 ·exact l
 ·exists j
theorem yN {n most many kd x:Int} (hm:0<=many/\many<=12) (k0:0<=kd) (k1:kd < 6) (x0:-4<=x) (x1:x<=4) :
  ∃ (g j:Int) (ps:List Pt) (v6 v7 v8 v9:Option (L3.D × Fl)),c8 (bP dS (aa (ac 2) ag)) (aw 6) cE (cU n most many kd x [] none none none none)=some (.ok .nx,cU g most many kd j ps v6 v7 v8 v9)/\(ps.length:Int)=many/\Rising ps/\NoLine ps/\(∀ q ∈ ps,-5<=q.1/\q.1<=100/\-17000<=q.2/\q.2<=17000):=by
 obtain ⟨ρ',e,g,j,ps,v6,v7,v8,v9,rfl,o,c,f,bnd,h1,h2⟩:=b7 (bnd:=aw 6) (b:=cE) (fun i ρ=>∃ (n x:Int) (ps:List Pt) (v6 v7 v8 v9:Option (L3.D × Fl)),ρ=cU n most many kd x ps v6 v7 v8 v9/\ps.length=i/\Rising ps/\NoLine ps/\(∀ q ∈ ps,q.1<=x/\-5<=q.1/\-17000<=q.2/\q.2<=17000)/\-4<=x/\x<=4+3 * (i:Int))
  (ds:=bE 0 many.toNat) (ρ:=cU n most many kd x [] none none none none) (k:=0) ⟨n,x,[],none,none,none,none,rfl,rfl,fun _ _ _ _ _ e _=>by simp at e,fun _ _ _ _ _ _ _ _ e _ _=>by simp at e,fun _ e=>by simp at e,by omega,by omega⟩ (by
   rintro i d ρ hd ⟨n,x,ps,v6,v7,v8,v9,rfl,o,c,f,bnd,h1,h2⟩
   obtain ⟨hi,rfl⟩:=fc hd
   have h:∀ q ∈ ps,Small q:=fun q a=>by
    obtain ⟨a1,a2,m,l⟩:=bnd q a
    exact ⟨by omega,by omega,by omega,by omega⟩
   obtain ⟨g,dd,y,p,s,t,e,u,w,fr,y0,v⟩:=yJ (n:=n) (most:=most) (many:=many) (kd:=kd) (x:=x) (i:=i) (ps:=ps) (v7:=v7) (v8:=v8) (v9:=v9) c h (by omega) (by omega) k0 k1
   refine ⟨cU n most many kd x ps (some (.int i,.z)) v7 v8 v9,_,by rw [Int.zero_add];rfl,.inl e,g,x+1+dd,ps ++ [(x+1+dd,y)],_,_,_,_,rfl,by simp;omega,c.snoc fun q a=>?_,f.snoc fr,fun q a=>?_,by omega,by omega⟩
   ·show q.1 < x+1+dd
    have:=(bnd q a).1
    omega
   ·rcases Gk.mp a with a | a
    ·obtain ⟨a1,a2,m,l⟩:=bnd q a
     exact ⟨by omega,by omega,by omega,by omega⟩
    ·have e:q=(x+1+dd,y):=by simpa using a
     subst e
     exact ⟨Int.le_refl _,by show -5<=x+1+dd;omega,by show -17000<=y;omega,by show y<=17000;omega⟩)
 rw [dR] at o h2
 have r:dS [.int many]=some (bE 0 many.toNat):=eA (by omega) rfl
 refine ⟨g,j,ps,v6,v7,v8,v9,?_,by omega,c,f,fun q a=>?_⟩
 ·apply iD
  ·(repeat' (first | with_reducible apply gr (h3:=r) | infer_instance | eq_refl))
  ·rfl
  ·exact e
 ·obtain ⟨a1,a2,m,l⟩:=bnd q a
  exact ⟨by omega,by omega,by omega,by omega⟩
abbrev scJ (p:Pt):Pt:=jj 1000000000000 1000000000 7 p
theorem pow12:tO (.int 10) (.int 12)=some (.int 1000000000000,.z):=rfl
theorem pow9:tO (.int 10) (.int 9)=some (.int 1000000000,.z):=rfl
theorem wD (ps:List Pt) (f:ps.length<=24) {n most many kd x:Int} {v6 v7 v8 v9:Option (L3.D × Fl)}:a7 5 dC (cU n most many kd x ps v6 v7 v8 v9)=some (.ok .nx,cU n most many kd x (ps.map scJ) v6 v7 v8 v9):=by
 obtain ⟨τ',e,a,b,rfl⟩:=bz (bnd:=j0 2 (cy (aw 0) (cy (aw 1) j3))) (c:=dE) (elt:=fS) (fun τ=>∃ a b,τ=[a,b]) Pd (fun _=>true) (fun p=>Pd (scJ p)) (xs:=ps) (τ:=[none,none]) ⟨none,none,rfl⟩ (by
  rintro p g τ ⟨a,b,rfl⟩
  exact ⟨[some (.int p.1,.z),some (.int p.2,.z)],_,rfl,rfl,(fun h=>by cases h),fun _=>⟨.val (Pd (scJ p)) .z,[some (.int p.1,.z),some (.int p.2,.z)],(Pd (scJ p),.z),_,by unfold fS;(exists pow12,pow9,gj (by decide)),rfl,rfl,_,_,rfl⟩⟩)
 rw [GR.mpr (fun _ _=>rfl)] at e
 have d:dC (cU n most many kd x ps v6 v7 v8 v9)=some (.ok (.val (.lst (ps.map fun p=>Pd (scJ p))) .u),cU n most many kd x ps v6 v7 v8 v9):=bc (rs:=[.pl 5]) (ρ1:=cU n most many kd x ps v6 v7 v8 v9) (ρ2:=[some (.lst [.int n],.u),some (.int most,.z),some (.int many,.z),some (.int kd,.z),some (.int x,.z),some (.lst (ps.map Pd),.l),v6,v7,v8,v9]) rfl e (by simp;omega) rfl
 rw [show (ps.map fun p=>Pd (scJ p))=(ps.map scJ).map Pd by simp] at d
 exact mI d rfl (Nat.le_of_ble_eq_true rfl) rfl
theorem wC (n most:Int) (h1:1<=most) (h2:most<=12):∃ (b:Int) (ps:List Pt),i6 [(.lst [.int n],.u),(.int most,.z)]=some (.ok (.tup (ps.map Pd),.z),[(.lst [.int b],.u),(.int most,.z)])/\GoodSh ps/\(ps.length:Int)<=most:=by
 have t:=ie
 have a0:=cN n most (by omega)
 have b0:=cN (n / most) 6 (by decide)
 have m:=cN (n / most / 6) 9 (by decide)
 obtain ⟨b,j,ps,v6,v7,v8,v9,e,l,d,c,bnd⟩:=yN (n:=n / most / 6 / 9) (most:=most) (many:=1+n % most) (kd:=n / most % 6) (x:=n / most / 6 % 9 - 4) ⟨by omega,by omega⟩ b0.1 b0.2 (by omega) (by omega)
 have good:GoodSh ps:=⟨by omega,by omega,fun q f=>by
  obtain ⟨a1,a2,k,i⟩:=bnd q f
  exact ⟨by omega,by omega,by omega,by omega⟩,d,c⟩
 have a:GoodSh (ps.map scJ):=⟨by simpa using good.pos,by simpa using good.most,fun q f=>by
  obtain ⟨r,g,rfl⟩:=Gs.mp f
  obtain ⟨a1,a2,k,i⟩:=bnd r g
  exact ⟨by show -(2 ^ 62) < (1000000000000:Int) * r.1+7;omega,by show (1000000000000:Int) * r.1+7 < 2 ^ 62;omega,by show -(2 ^ 62) < (1000000000:Int) * r.2;omega,by show (1000000000:Int) * r.2 < 2 ^ 62;omega⟩,d.scale (by decide),c.scale (by decide) (by decide)⟩
 have pre:∀ {r:Option (Except L3.D Flw × Sto)},aG (sIf (cB (aj eqX (ak aX (aa (ac 0) (aa (mC (.int 6)) ag))) (mC (.int 5)))) (a7 5 dC) cz) (aM 2 (ay qC (aa (ac 5) ag))) (cU b most (1+n % most) (n / most % 6) j ps v6 v7 v8 v9)=r->oG [some (.lst [.int n],.u),some (.int most,.z),none,none,none,none,none,none,none,none]=r:=by
  intro r g
  apply au (ρ1:=[some (.lst [.int (n / most)],.u),some (.int most,.z),some (.int (1+n % most),.z),none,none,none,none,none,none,none])
  ·nomatch [(t n most (by omega))]
  apply au (ρ1:=[some (.lst [.int (n / most / 6)],.u),some (.int most,.z),some (.int (1+n % most),.z),some (.int (n / most % 6),.z),none,none,none,none,none,none])
  ·nomatch [(t _ _ (by decide))]
  apply au (ρ1:=[some (.lst [.int (n / most / 6 / 9)],.u),some (.int most,.z),some (.int (1+n % most),.z),some (.int (n / most % 6),.z),some (.int (n / most / 6 % 9 - 4),.z),none,none,none,none,none])
  ·nomatch [(t _ _ (by decide))]
  apply au (ρ1:=cU (n / most / 6 / 9) most (1+n % most) (n / most % 6) (n / most / 6 % 9 - 4) [] none none none none)
  ·nofun
  exact au e g
 by_cases h:b % 6=5
 ·refine ⟨b / 6,ps.map scJ,?_,a,by rw [Go];omega⟩
  apply aL (ρ:=[some (.lst [.int n],.u),some (.int most,.z),none,none,none,none,none,none,none,none]) rfl rfl
  ·apply pre
   apply au
   ·apply eK
    ·nomatch [(t _ _ (by decide))]
    ·exact GA h
    ·exact wD ps (by omega)
   ·nofun
  ·rfl
 ·refine ⟨b / 6,ps,?_,good,by omega⟩
  apply aL (ρ:=[some (.lst [.int n],.u),some (.int most,.z),none,none,none,none,none,none,none,none]) rfl rfl
  ·apply pre
   apply au
   ·apply bW
    ·nomatch [(t _ _ (by decide))]
    ·exact GB h
    ·rfl
   ·nofun
  ·rfl
section
variable {ρ ρ1 ρ2:Sto} {ms:M3 (List R3)} {rs:List R3} {d:L3.D} {fl:Fl} {e:L3.D} {m:EM} {sa sb:SM} {n:Nat}
theorem fY {F:Fn} {ps qs:List (L3.D × Fl)} (b:F ps=some (.ok (d,fl),qs)) (h1:ms ρ=some (.ok rs,ρ1)) (h2:prs (frz (d7 rs) ρ1) rs=some ps) (h3:qs.length=ps.length) (a:back rs ps qs (frz (d7 rs) ρ1) = ρ2):gp F ms ρ=some (.ok (.val d fl),ρ2):=by
 simp only [gp,af,h1,h2,b,h3,if_true,a]
theorem lC {F:Fn} {ps qs:List (L3.D × Fl)} (b:F ps=some (.error e,qs)) (h1:ms ρ=some (.ok rs,ρ1)) (h2:prs (frz (d7 rs) ρ1) rs=some ps) (h3:qs.length=ps.length) (a:back rs ps qs (frz (d7 rs) ρ1) = ρ2):gp F ms ρ=some (.error e,ρ2):=by
 simp only [gp,af,h1,h2,b,h3,if_true,a]
theorem Ae (h:sa ρ=some (.error e,ρ1)):aG sa sb ρ=some (.error e,ρ1):=by simp only [aG,af,h]
theorem pW (h:m ρ=some (.error e,ρ1)):aM n m ρ=some (.error e,ρ1):=by simp only [aM,af,h]
theorem CF {c:String} (h:ms ρ=some (.ok rs,ρ1)) (a:rs.length<=1000):j8 c ms ρ=some (.error (.exc c []),ρ1):=by simp only [j8,af,h,a,if_true]
theorem AY {mask:List Bool} {ps qs:List (L3.D × Fl)} (h1:ps.length=mask.length) (h0:d6 n (List.zipWith lf mask ps) = ρ) (h2:sa ρ=some (.error e,ρ1)) (h3:du ρ1 0 (List.zipWith lf mask ps)=some qs):fnM mask n sa ps=some (.error e,qs):=by
 subst h0;simp only [fnM,h1,if_true,fn0,h2,h3,GI]
theorem Ad {cs:List String} {i:Nat} {c:String} (h1:sa ρ=some (.error (.exc c []),ρ1)) (a:c ∈ cs) (h2:sb (ρ1.set i (some (.exc c [],.z)))=some (.ok (.rt d fl),ρ2)):pv cs i sa sb ρ=some (.ok (.rt d fl),ρ2):=by
 simp only [pv,h1,a,if_true,h2]
theorem Ac {cs:List String} {i:Nat} (h1:sa ρ=some (.ok (.rt d fl),ρ1)):pv cs i sa sb ρ=some (.ok (.rt d fl),ρ1):=by
 simp only [pv,h1]
theorem CG {f:Flw} (h:sa ρ=some (.ok f,ρ1)):quiet sa ρ=some (.ok f,ρ1):=by simp only [quiet,h]
end
def bA (ps:List Pt) (i:Nat):Pt:=ps.getD i (0,0)
theorem qY {ps:List Pt} {i:Nat} (h:i < ps.length):ps[i]?=some (bA ps i):=by
 simp [bA,List.getD,Gi h]
theorem fO {ps:List Pt} {i:Nat} (a:∀ p ∈ ps,Small p) (h:i < ps.length):Small (bA ps i):=a _ (Gq (qY h))
theorem j6 {ps:List Pt} {i:Nat} (h:i < ps.length):aF (Shd ps) (.int i)=some (Pd (bA ps i),.z):=dO (xQ (qY h))
def tq (ps:List Pt) (t:Tri):Int:=qA (bA ps t.1) (bA ps t.2.1) (bA ps t.2.2)
abbrev tk (t:Tri):List Key:=[.inl (t.1:Int),.inl (t.2.1:Int),.inl (t.2.2:Int)]
theorem x4 {t u:Tri} (h:tk t=tk u):t=u:=by grind
def tb (ps:List Pt) (l:List Tri):List (List Key × L3.D):=l.map fun t=>(tk t,.int (tq ps t))
theorem EF {ps:List Pt} {l:List Tri} {t:Tri} (h:t ∉ l):qX (tb ps l) (tk t) (.int (tq ps t))=tb ps (l ++ [t]):=by
 have a:¬ ((tb ps l).any fun d=>decide (d.1=tk t))=true:=by
  intro b
  obtain ⟨x,c,e⟩:=List.any_eq_true.mp b
  obtain ⟨u,hu,rfl⟩:=Gs.mp c
  exact h (x4 (of_decide_eq_true e) ▸ hu)
 unfold qX
 rw [if_neg a]
 unfold tb
 rw [List.map_append]
 rfl
theorem Ak {ps:List Pt} {t:Tri}:∀ {l:List Tri},t ∈ l->mJ (tb ps l) (tk t)=some (.int (tq ps t))
 | u :: l,h=>by
  unfold mJ tb
  rw [Gz,List.find?_cons]
  by_cases e:tk u=tk t
  ·rw [x4 e];simp
  ·have:t ∈ l:=by
    rcases Gh.mp h with rfl | h
    ·exact absurd rfl e
    ·exact h
   have a:=Ak (ps:=ps) this
   unfold mJ tb at a
   simp only [e,decide_false]
   exact a
theorem Eb {ps:List Pt} {l:List Tri} {t:Tri} (h:t ∉ l) (a:l.length < 16777216):Br (.dt (tb ps l)) [Td t,.int (tq ps t)]=some (.dt (tb ps (l ++ [t])),.non):=by
 show (if (tb ps l).length < 16777216 then some (L3.D.dt (qX (tb ps l) (tk t) (.int (tq ps t))),L3.D.non) else none)=_
 rw [if_pos (by unfold tb;rw [Go];exact a),EF h]
theorem sX:∀ n:Nat,n<=8->(fu n).Nodup
 | 0,_=>by decide +kernel
 | 1,_=>by decide +kernel
 | 2,_=>by decide +kernel
 | 3,_=>by decide +kernel
 | 4,_=>by decide +kernel
 | 5,_=>by decide +kernel
 | 6,_=>by decide +kernel
 | 7,_=>by decide +kernel
 | 8,_=>by decide +kernel
 | n+9,h=>absurd h (by omega)
theorem xZ:∀ n:Nat,n<=8->(fu n).length<=56
 | 0,_=>by decide +kernel
 | 1,_=>by decide +kernel
 | 2,_=>by decide +kernel
 | 3,_=>by decide +kernel
 | 4,_=>by decide +kernel
 | 5,_=>by decide +kernel
 | 6,_=>by decide +kernel
 | 7,_=>by decide +kernel
 | 8,_=>by decide +kernel
 | n+9,h=>absurd h (by omega)
theorem wq {α:Type} {l:List α} {m:Nat} {t:α} (h:l[m]?=some t):l.take (m+1)=l.take m ++ [t]:=by
 rw [List.take_add_one,h];rfl
theorem tW {α:Type} {l:List α} {m:Nat} {t:α} (nd:l.Nodup) (h:l[m]?=some t):t ∉ l.take m:=by
 rw [<- List.take_append_drop m l] at nd
 intro hm
 refine (List.nodup_append.mp nd).2.2 t hm t ?_ rfl
 refine Gq (i:=0) ?_
 rw [List.getElem?_drop]
 exact h
theorem xS {ps:List Pt} (g:GoodSh ps) {t:Tri} (h1:t.1 < t.2.1) (h2:t.2.1 < t.2.2) (h3:t.2.2 < ps.length) {l:List Tri} (c:t ∉ l) (b:l.length < 16777216):bT [some (Shd ps,.z),some (.dt (tb ps l),.u),some (Td t,.z)]=some (.ok .nx,[some (Shd ps,.z),some (.dt (tb ps (l ++ [t])),.u),some (Td t,.z)]):=by
 obtain ⟨i,j,k⟩:=t
 dsimp only at h1 h2 h3
 have f:dM [(Shd ps,.z),(Td (i,j,k),.z)]=some (.ok (.int (tq ps (i,j,k)),.z),[(Shd ps,.z),(Td (i,j,k),.z)]):=tz (j6 (ps:=ps) (i:=i) (by omega)) (j6 (ps:=ps) (i:=j) (by omega)) (j6 (ps:=ps) (i:=k) (by omega)) (fO g.small (show i < ps.length by omega)) (fO g.small (show j < ps.length by omega))
 have e:=Eb (ps:=ps) c b
 unfold bT
 have a:ak dM (aa (ac 0) (aa (ac 2) ag)) [some (Shd ps,.z),some (.dt (tb ps l),.u),some (Td (i,j,k),.z)]=some (.ok (.val (.int (tq ps (i,j,k))) .z),[some (Shd ps,.z),some (.dt (tb ps l),.u),some (Td (i,j,k),.z)]):=by (nomatch [f])
 exact Do (i:=1) (ρ2:=[some (Shd ps,.z),some (.dt (tb ps l),.u),some (Td (i,j,k),.z)]) (ρ3:=[some (Shd ps,.z),some (.dt (tb ps l),.u),some (Td (i,j,k),.z)]) a rfl (aB (i:=2) rfl) rfl rfl e
theorem qR {ps:List Pt} (g:GoodSh ps) (f:ps.length<=8):c6 [(Shd ps,.z)]=some (.ok (.dt (tb ps (fu ps.length)),.u),[(Shd ps,.z)]):=by
 have nd:=sX ps.length f
 have l:=xZ ps.length f
 obtain ⟨ρ',e,v2,rfl⟩:=b7 (bnd:=aw 2) (b:=bT) (fun m ρ=>∃ v2,ρ=[some (Shd ps,.z),some (.dt (tb ps ((fu ps.length).take m)),.u),v2]) (ds:=(fu ps.length).map Td) (ρ:=[some (Shd ps,.z),some (.dt [],.u),none]) (k:=0) ⟨none,rfl⟩ (by
  rintro m d ρ hd ⟨v2,rfl⟩
  rw [GD]
  rw [Gu] at hd
  obtain ⟨t,a,rfl⟩:=Ge.mp hd
  obtain ⟨j,h,i⟩:=rK (Gq a)
  rw [wq a]
  exact ⟨_,_,rfl,.inl (xS g j h i (tW nd a) (by rw [GH];omega)),_,rfl⟩)
 rw [GD,Go,List.take_length] at e
 have c:=wI g
 have th:=lV ps.length (by omega)
 have hlen:cq [Shd ps]=some (.int (ps.length:Nat),.z):=by simp [mD,c1]
 apply aL (ρ:=[some (Shd ps,.z),none,none]) rfl rfl
 ·apply au (ρ1:=[some (Shd ps,.z),none,none])
  ·exact uj (fY c (aq (aB rfl) aP) rfl rfl rfl)
  ·apply au (ρ1:=[some (Shd ps,.z),some (.dt [],.u),none])
   ·rfl
   ·apply au
    ·apply CG
     apply iD
     ·nomatch [th],[hlen]
     ·rfl
     ·exact e
    ·nofun
 ·rfl
abbrev k3 (i j k:Nat):List Key:=[.inl (i:Int),.inl (j:Int),.inl (k:Int)]
structure Sg where
 length:Nat
 f:Nat->Nat->Nat->Int
def trn (ps:Sg) (i j k:Nat):Int:=ps.f i j k
def sP (ps:Sg) (T:List (List Key × L3.D)):Prop:=∀ i j k,i < j->j < k->k < ps.length->mJ T (k3 i j k)=some (.int (trn ps i j k))
theorem wW {n i j k:Nat} (h1:i < j) (h2:j < k) (h3:k < n):(i,j,k) ∈ fu n:=by
 refine GS.mpr ⟨i,List.mem_range.mpr (by omega),GS.mpr ⟨j - (i+1),List.mem_range.mpr (by omega),Gs.mpr ⟨k - (j+1),List.mem_range.mpr (by omega),?_⟩⟩⟩
 refine Prod.ext rfl (Prod.ext ?_ ?_) <;> simp <;> omega
theorem sub3 {kvs:List (List Key × L3.D)} {i j k:Nat} {d:L3.D} (h:mJ kvs (k3 i j k)=some d):aF (.dt kvs) (.tup [.int i,.int j,.int k])=some (d,.z):=by
 show (mJ kvs (k3 i j k)).map (fun d=>(d,Fl.z))=_
 rw [h];rfl
def sgn (ps:List Pt):Sg:=⟨ps.length,fun i j k=>qA (bA ps i) (bA ps j) (bA ps k)⟩
theorem jx (ps:List Pt):sP (sgn ps) (tb ps (fu ps.length)):=fun i j k h1 h2 h3=>Ak (t:=(i,j,k)) (wW h1 h2 h3)
abbrev Nd (l:List Nat):List L3.D:=l.map fun (i:Nat)=>L3.D.int (i:Int)
def el (L:List Nat) (i:Nat):Nat:=L.getD i 0
theorem p8 {L:List Nat} {i:Nat} (h:i < L.length):L[i]?=some (el L i):=by simp [el,List.getD,h]
theorem p7 {L:List Nat} {i:Nat} (h:i < L.length):el L i ∈ L:=Gq (p8 h)
theorem wG {i n:Int} (h0:0<=i) (h1:i < n):gg [(.int i,.z),(.int n,.z)]=some (.ok (.bl true,.z),[(.int i,.z),(.int n,.z)]):=by
 have b:leI (.int 0) (.int i)=some (.bl true,.z):=by simp [b6,h0]
 have a:ltI (.int i) (.int n)=some (.bl true,.z):=by simp [b6,h1]
 apply aL (ρ:=[some (.int i,.z),some (.int n,.z)]) rfl rfl
 ·apply bj
  ·apply pX
   ·nomatch [(nZ _)]
   ·rfl
   ·rfl
   ·exact vK i_c (aB rfl) rfl rfl b (aB rfl) rfl rfl a
  ·rfl
 ·rfl
theorem wj {α:Type} (b:α->Bool):∀ xs:List α,eO (xs.map fun x=>L3.D.bl (b x))=some (xs.map b)
 | []=>rfl
 | x :: xs=>by simp [eO,wj b xs]
theorem m9 {α:Type} (b:α->Bool) (xs:List α):qr [.lst (xs.map fun x=>L3.D.bl (b x))]=some (.bl (xs.all b),.z):=by
 show (eO _).map _=_
 rw [wj]
 simp [List.all_map]
theorem qo {xs:List L3.D} {i:Nat} {d:L3.D} (h:xs[i]?=some d):L2.atI xs (i:Int)=some d:=by
 have lt:=(Gp.mp h).1
 unfold L2.atI L2.ixN
 rw [if_pos (by omega),if_pos (by omega)]
 simpa using h
theorem AV {r:List Nat} {i:Nat} (h:i < r.length):(Nd r)[i]?=some (.int (el r i)):=by rw [Gu,p8 h];rfl
theorem lM {r:List Nat} {i:Nat} (h:i < r.length):aF (.tup (Nd r)) (.int (i:Int))=some (.int (el r i),.z):=dO (qo (AV h))
theorem qp {xs:List L3.D} {d:L3.D} (h:xs[xs.length - 1]?=some d):L2.atI xs (-1)=some d:=by
 have lt:=(Gp.mp h).1
 unfold L2.atI L2.ixN
 rw [if_neg (by decide),if_pos (by omega)]
 rw [show ((-1:Int)+(xs.length:Int)).toNat=xs.length - 1 by omega,Option.bind_some]
 exact h
structure Ris (n:Nat) (r:List Nat):Prop where
 up:r.Pairwise (· < ·)
 lt:∀ x ∈ r,x < n
theorem Ris.at {n:Nat} {r:List Nat} (h:Ris n r) {i j:Nat} (a:i < j) (c:j < r.length):el r i < el r j:=by
 have:=List.pairwise_iff_getElem.mp h.up i j (by omega) c a
 have e1:=p8 (L:=r) (i:=i) (by omega)
 have b:=p8 (L:=r) (i:=j) c
 rw [Gi (by omega)] at e1 b
 injection e1 with e1
 injection b with b
 omega
theorem Ris.sub {n:Nat} {r q:List Nat} (h:Ris n r) (s:q.Sublist r):Ris n q:=⟨h.up.sublist s,fun x a=>h.lt x (s.subset a)⟩
theorem u3 {n:Nat}:∀ (r:List Nat) (a:Nat),r.Pairwise (· < ·)->(∀ x ∈ r,a<=x/\x < n)->r.length<=n - a
 | [],a,_,_=>Nat.zero_le _
 | x :: r,a,hp,hb=>by
  rw [List.pairwise_cons] at hp
  have h0:=hb x Ga
  have:=u3 r (x+1) hp.2 fun y b=>⟨hp.1 y b,(hb y (Gb _ b)).2⟩
  rw [GG]
  omega
theorem Ris.len {n:Nat} {r:List Nat} (h:Ris n r):r.length<=n:=u3 r 0 h.up fun x a=>⟨Nat.zero_le _,h.lt x a⟩
theorem uX {n:Nat} {r:List Nat} (h:Ris n r) (o:n<=24):aA [(.tup (Nd r),.z),(.int (n:Int),.z)]=some (.ok (.bl true,.z),[(.tup (Nd r),.z),(.int (n:Int),.z)]):=by
 have m:=h.len
 obtain ⟨τ',e,a,rfl⟩:=bz (bnd:=aw 0) (c:=dE) (elt:=bG) (fun τ=>∃ a,τ=[a,some (.int (n:Int),.z)]) (fun i:Nat=>L3.D.int (i:Int)) (fun _=>true) (fun _=>.bl true) (xs:=r) (τ:=[none,some (.int (n:Int),.z)]) ⟨none,rfl⟩ (by
  rintro k d τ ⟨a,rfl⟩
  have:=h.lt k d
  have pl:=wG (i:=(k:Int)) (n:=(n:Int)) (by omega) (by omega)
  exact ⟨[some (.int (k:Int),.z),some (.int (n:Int),.z)],_,rfl,rfl,(fun h=>by cases h),fun _=>⟨.val (.bl true) .z,[some (.int (k:Int),.z),some (.int (n:Int),.z)],(.bl true,.z),_,by unfold bG;(nomatch [pl]),rfl,rfl,_,rfl⟩⟩)
 rw [GR.mpr (fun _ _=>rfl)] at e
 have e1:cI [some (.tup (Nd r),.z),some (.int (n:Int),.z)]=some (.ok (.val (.lst (r.map fun _=>.bl true)) .u),[some (.tup (Nd r),.z),some (.int (n:Int),.z)]):=bc (rs:=[.pl 0]) (ρ1:=[some (.tup (Nd r),.z),some (.int (n:Int),.z)]) (ρ2:=[some (.tup (Nd r),.z),some (.int (n:Int),.z)]) rfl e (by rw [Go];omega) rfl
 have a1:=m9 (fun _:Nat=>true) r
 rw [List.all_eq_true.mpr (fun _ _=>rfl)] at a1
 obtain ⟨τ2,f,b,rfl⟩:=bz (bnd:=aw 0) (c:=dE) (elt:=cJ) (fun τ=>∃ a,τ=[a,some (.tup (Nd r),.z)]) (fun i:Nat=>L3.D.int (0+(i:Int))) (fun _=>true) (fun _=>.bl true) (xs:=List.range (r.length - 1)) (τ:=[none,some (.tup (Nd r),.z)]) ⟨none,rfl⟩ (by
  rintro k d τ ⟨a,rfl⟩
  rw [List.mem_range] at d
  rw [Int.zero_add]
  have g1:=lM (r:=r) (i:=k) (by omega)
  have g2:aF (.tup (Nd r)) (.int ((k:Int)+1))=some (.int (el r (k+1)),.z):=by
   have:=lM (r:=r) (i:=k+1) (by omega)
   rw [Int.natCast_add] at this
   exact this
  have g:ltI (.int (el r k)) (.int (el r (k+1)))=some (.bl true,.z):=by
   have:=h.at (show k < k+1 by omega) (by omega)
   simp [b6];omega
  exact ⟨[some (.int (k:Int),.z),some (.tup (Nd r),.z)],_,rfl,rfl,(fun h=>by cases h),fun _=>⟨.val (.bl true) .z,[some (.int (k:Int),.z),some (.tup (Nd r),.z)],(.bl true,.z),_,eL (eL (aB rfl) (aB rfl) rfl rfl g1) (eL (aB rfl) (eL (aB rfl) i_c rfl rfl rfl) rfl rfl g2) rfl rfl g,rfl,rfl,_,rfl⟩⟩)
 rw [GR.mpr (fun _ _=>rfl)] at f
 have l:dS [.int (((Nd r).length:Int) - 1)]=some (bE 0 (r.length - 1)):=eA (by first | (simp;done) | (simp;omega)) (by first | (simp;done) | (simp;omega))
 have j:cH [some (.tup (Nd r),.z),some (.int (n:Int),.z)]=some (.ok (.val (.lst ((List.range (r.length - 1)).map fun _=>.bl true)) .u),[some (.tup (Nd r),.z),some (.int (n:Int),.z)]):=bc (rs:=[]) (ρ1:=[some (.tup (Nd r),.z),some (.int (n:Int),.z)]) (ds:=bE 0 (r.length - 1)) (by (repeat' (first | with_reducible apply gr (h3:=l) | infer_instance | eq_refl))) f (by rw [dR];omega) rfl
 have a2:=m9 (fun _:Nat=>true) (List.range (r.length - 1))
 rw [List.all_eq_true.mpr (fun _ _=>rfl)] at a2
 apply aL (ρ:=[some (.tup (Nd r),.z),some (.int (n:Int),.z)]) rfl rfl
 ·apply au (ρ1:=[some (.tup (Nd r),.z),some (.int (n:Int),.z)])
  ·apply bW
   ·apply jf (b:=false)
    ·nofun
    ·rfl
    ·exact bQ (ee (bp (aq e1 aP) rfl a1) rfl)
   ·rfl
   ·rfl
  ·exact bj (bp (aq j aP) rfl a2) rfl
 ·rfl
theorem cut3 {xs:List L3.D} {a:Nat} (b:a+3<=xs.length):slD (.tup xs) (some (a:Int)) (some ((a:Int)+3))=some (.tup ((xs.drop a).take 3),.z):=by
 have e:fj xs (some (a:Int)) (some ((a:Int)+3))=(xs.drop a).take 3:=by
  unfold fj
  rw [show ((a:Int)+3)=((a+3:Nat):Int) by omega,HT.sIx_nat,HT.sIx_nat]
  grind
 show some ((.tup (fj xs (some (a:Int)) (some ((a:Int)+3))),.z):L3.D × Fl)=_
 rw [e]
theorem x5 {r:List Nat} {a:Nat} (h:a+3<=r.length):((Nd r).drop a).take 3=[.int (el r a),.int (el r (a+1)),.int (el r (a+2))]:=by
 have e:∀ i,i < r.length->(Nd r)[i]?=some (.int (el r i)):=fun i hi=>AV hi
 have l:(Nd r).length=r.length:=by simp
 apply List.ext_getElem?
 grind
def rb (s:Sg) (row:List Nat) (way:Int):Bool:=(List.range (row.length - 2)).all fun a=>decide (s.f (el row a) (el row (a+1)) (el row (a+2))=way)
theorem Ef {s:Sg} {T:List (List Key × L3.D)} (b:sP s T) {row:List Nat} (h:Ris s.length row) (o:s.length<=24) {way:Int}:eP [(.dt T,.u),(.tup (Nd row),.z),(.int way,.z)]=some (.ok (.bl (rb s row way),.z),[(.dt T,.u),(.tup (Nd row),.z),(.int way,.z)]):=by
 have n:=h.len
 have l:(Nd row).length=row.length:=by simp
 obtain ⟨τ',e,a,rfl⟩:=bz (bnd:=aw 0) (c:=dE) (elt:=dY) (fun τ=>∃ a,τ=[a,some (.int way,.z),some (.dt T,.u),some (.tup (Nd row),.z)]) (fun i:Nat=>L3.D.int (0+(i:Int))) (fun _=>true) (fun a=>.bl (decide (s.f (el row a) (el row (a+1)) (el row (a+2))=way))) (xs:=List.range (row.length - 2)) (τ:=[none,some (.int way,.z),some (.dt T,.u),some (.tup (Nd row),.z)]) ⟨none,rfl⟩ (by
  rintro k m τ ⟨a,rfl⟩
  rw [List.mem_range] at m
  rw [Int.zero_add]
  have c:=cut3 (xs:=Nd row) (a:=k) (by omega)
  rw [x5 (by omega)] at c
  have g:=sub3 (b (el row k) (el row (k+1)) (el row (k+2)) (h.at (by omega) (by omega)) (h.at (by omega) (by omega)) (h.lt _ (p7 (by omega))))
  have q:eqX (.int (s.f (el row k) (el row (k+1)) (el row (k+2)))) (.int way)=some (.bl (decide (s.f (el row k) (el row (k+1)) (el row (k+2))=way)),.z):=rfl
  refine ⟨[some (.int (k:Int),.z),some (.int way,.z),some (.dt T,.u),some (.tup (Nd row),.z)],_,rfl,rfl,(fun h=>by cases h),fun _=>⟨.val (.bl _) .z,[some (.int (k:Int),.z),some (.int way,.z),some (.dt T,.u),some (.tup (Nd row),.z)],(.bl _,.z),_,?_,rfl,rfl,_,rfl⟩⟩
  unfold dY
  (exists c,g,q))
 rw [GR.mpr (fun _ _=>rfl)] at e
 have j:dS [.int (((Nd row).length:Int) - 2)]=some (bE 0 (row.length - 2)):=eA (by omega) (by omega)
 have d:ip [some (.dt T,.u),some (.tup (Nd row),.z),some (.int way,.z)]=some (.ok (.val (.lst ((List.range (row.length - 2)).map fun a=>.bl (decide (s.f (el row a) (el row (a+1)) (el row (a+2))=way)))) .u),[some (.dt T,.u),some (.tup (Nd row),.z),some (.int way,.z)]):=bc (rs:=[]) (ρ1:=[some (.dt T,.u),some (.tup (Nd row),.z),some (.int way,.z)]) (ds:=bE 0 (row.length - 2)) (by (repeat' (first | with_reducible apply gr (h3:=j) | infer_instance | eq_refl))) e (by rw [dR];omega) rfl
 have al:=m9 (fun a=>decide (s.f (el row a) (el row (a+1)) (el row (a+2))=way)) (List.range (row.length - 2))
 apply aL (ρ:=[some (.dt T,.u),some (.tup (Nd row),.z),some (.int way,.z)]) rfl rfl
 ·exact bj (bp (aq d aP) rfl al) rfl
 ·rfl
def sd (s:Sg) (a:Nat) (b:List Nat) (z:Nat) (way:Int):List Nat:=[a] ++ b.filter (fun p=>decide (s.f a p z=way)) ++ [z]
theorem vU (a z:Nat) (b:List Nat):slD (.tup (Nd ([a] ++ b ++ [z]))) (some 1) (some (-1))=some (.tup (Nd b),.z):=by
 have e:fj (Nd ([a] ++ b ++ [z])) (some 1) (some (-1))=Nd b:=by
  unfold fj
  have l:(Nd ([a] ++ b ++ [z])).length=b.length+2:=by simp
  rw [l]
  have h1:HT.sIx (b.length+2) 0 (some 1)=1:=by
   have:=HT.sIx_nat (b.length+2) 0 1
   grind
  have h2:HT.sIx (b.length+2) (b.length+2) (some (-1))=b.length+1:=by
   unfold HT.sIx
   simp
   omega
  rw [h1,h2]
  simp
 show some ((.tup (fj (Nd ([a] ++ b ++ [z])) (some 1) (some (-1))),.z):L3.D × Fl)=_
 rw [e]
theorem zR {n a z:Nat} {b:List Nat} (h:Ris n ([a] ++ b ++ [z])):z < n/\a < z/\∀ x ∈ b,a < x/\x < z:=by
 have p:=h.up
 rw [List.pairwise_append] at p
 obtain ⟨d,_,f⟩:=p
 have e:∀ x ∈ [a] ++ b,x < z:=fun x c=>f x c z (by simp)
 rw [List.singleton_append,List.pairwise_cons] at d
 exact ⟨h.lt z (by simp),e a (by simp),fun x c=>⟨d.1 x c,e x (by simp [c])⟩⟩
theorem lS {s:Sg} {a z:Nat} {b:List Nat} {way:Int} (h:Ris s.length ([a] ++ b ++ [z])):Ris s.length (sd s a b z way) :=
 h.sub (((List.Sublist.refl [a]).append List.filter_sublist).append (List.Sublist.refl [z]))
theorem lW {s:Sg} {T:List (List Key × L3.D)} (l:sP s T) {a z:Nat} {b:List Nat} (h:Ris s.length ([a] ++ b ++ [z])) (G:s.length<=24) {way:Int}:bR [(.dt T,.u),(.tup (Nd ([a] ++ b ++ [z])),.z),(.int way,.z)]=some (.ok (.tup (Nd (sd s a b z way)),.z),[(.dt T,.u),(.tup (Nd ([a] ++ b ++ [z])),.z),(.int way,.z)]):=by
 obtain ⟨hz,m,hm⟩:=zR h
 have B:=h.len
 have w:b.length<=24:=by simp at B;omega
 have fl:(b.filter fun p=>decide (s.f a p z=way)).length<=24:=GQ (List.length_filter_le _ _) w
 have y:=vU a z b
 have C:aF (.tup (Nd ([a] ++ b ++ [z]))) (.int 0)=some (.int a,.z):=dO (qo (i:=0) (by simp))
 have g1:aF (.tup (Nd ([a] ++ b ++ [z]))) (.int (-1))=some (.int z,.z):=dO (qp (by simp))
 obtain ⟨τ',e,v,rfl⟩:=bz (bnd:=aw 0) (c:=cY) (elt:=eS) (fun τ=>∃ v,τ=[v,some (.int way,.z),some (.dt T,.u),some (.int a,.z),some (.int z,.z)]) (fun i:Nat=>L3.D.int (i:Int)) (fun p=>decide (s.f a p z=way)) (fun i:Nat=>L3.D.int (i:Int)) (xs:=b) (τ:=[none,some (.int way,.z),some (.dt T,.u),some (.int a,.z),some (.int z,.z)]) ⟨none,rfl⟩ (by
  rintro x k τ ⟨v,rfl⟩
  have g:=sub3 (l a x z (hm x k).1 (hm x k).2 hz)
  have q:eqX (.int (trn s a x z)) (.int way)=some (.bl (decide (s.f a x z=way)),.z):=rfl
  refine ⟨[some (.int (x:Int),.z),some (.int way,.z),some (.dt T,.u),some (.int a,.z),some (.int z,.z)],[some (.int (x:Int),.z),some (.int way,.z),some (.dt T,.u),some (.int a,.z),some (.int z,.z)],rfl,?_,fun _=>⟨_,rfl⟩,fun _=>⟨_,_,(.int (x:Int),.z),[some (.int (x:Int),.z),some (.int way,.z),some (.dt T,.u),some (.int a,.z),some (.int z,.z)],aB rfl,rfl,rfl,_,rfl⟩⟩
  unfold cY
  (exists g,q))
 have d:(Nd b).length < 16777216:=by rw [Go];omega
 have j:Nd (sd s a b z way)=([.int a] ++ Nd (b.filter fun p=>decide (s.f a p z=way))) ++ [.int z]:=by simp [sd]
 rw [j]
 generalize I:b.filter (fun p=>decide (s.f a p z=way))=F at *
 have k1:bH (.tup [.int a]) (.tup (Nd F))=some (.tup ([.int a] ++ Nd F),.z):=vY (by simp;omega)
 have k2:bH (.tup ([.int a] ++ Nd F)) (.tup [.int z])=some (.tup (([.int a] ++ Nd F) ++ [.int z]),.z):=vY (by simp;omega)
 have t:qC [.lst (Nd F)]=some (.tup (Nd F),.z):=rfl
 generalize H:L3.D.tup (Nd ([a] ++ b ++ [z]))=R at *
 generalize o:Nd b=M at *
 have r:bX (aw 0) cY eS M [none,some (.int way,.z),some (.dt T,.u),some (.int a,.z),some (.int z,.z)]=some (.ok (Nd F),[v,some (.int way,.z),some (.dt T,.u),some (.int a,.z),some (.int z,.z)]):=by rw [<- o];exact e
 have A:jb [some (.dt T,.u),some (R,.z),some (.int way,.z),some (.int a,.z),some (.int z,.z)]=some (.ok (.val (.lst (Nd F)) .u),[some (.dt T,.u),some (R,.z),some (.int way,.z),some (.int a,.z),some (.int z,.z)]):=bc (rs:=[.val (.tup M) .z]) (ρ1:=[some (.dt T,.u),some (R,.z),some (.int way,.z),some (.int a,.z),some (.int z,.z)]) (by (exists y)) r d rfl
 apply aL (ρ:=[some (.dt T,.u),some (R,.z),some (.int way,.z),none,none]) (ρ1:=[some (.dt T,.u),some (R,.z),some (.int way,.z),some (.int a,.z),some (.int z,.z)]) rfl rfl
 ·unfold mx
  apply au (ρ1:=[some (.dt T,.u),some (R,.z),some (.int way,.z),some (.int a,.z),none])
  ·exists C
  apply au (ρ1:=[some (.dt T,.u),some (R,.z),some (.int way,.z),some (.int a,.z),some (.int z,.z)])
  ·exists g1
  ·have E:(bU (aa (ac 3) ag)) [some (.dt T,.u),some (R,.z),some (.int way,.z),some (.int a,.z),some (.int z,.z)]=some (.ok (.val (.tup [.int a]) .z),[some (.dt T,.u),some (R,.z),some (.int way,.z),some (.int a,.z),some (.int z,.z)]):=by (nofun)
   have n:(bU (aa (ac 4) ag)) [some (.dt T,.u),some (R,.z),some (.int way,.z),some (.int a,.z),some (.int z,.z)]=some (.ok (.val (.tup [.int z]) .z),[some (.dt T,.u),some (R,.z),some (.int way,.z),some (.int a,.z),some (.int z,.z)]):=by (nofun)
   exact bj (eL (eL E (bp (aq A aP) rfl t) rfl rfl k1) n rfl rfl k2) rfl
 ·rfl
def l4 (s:Sg) (a:Nat) (b:List Nat) (z:Nat):Bool:=rb s (sd s a b z 1) 1 && rb s (sd s a b z (-1)) (-1)
theorem yM {s:Sg} {T:List (List Key × L3.D)} (j:sP s T) {a z:Nat} {d:List Nat} (h:Ris s.length ([a] ++ d ++ [z])) (h3:d ≠ []) (i:s.length<=24):bV [(.dt T,.u),(.tup (Nd ([a] ++ d ++ [z])),.z),(.int (s.length:Int),.z)]=some (.ok (.bl (l4 s a d z),.z),[(.dt T,.u),(.tup (Nd ([a] ++ d ++ [z])),.z),(.int (s.length:Int),.z)]):=by
 have l:=uX h i
 have n:=h.len
 have f:∀ way:Int,cf [some (.int way,.z),some (.dt T,.u),some (.tup (Nd ([a] ++ d ++ [z])),.z)]=some (.ok (.val (.bl (rb s (sd s a d z way) way)) .z),[some (.int way,.z),some (.dt T,.u),some (.tup (Nd ([a] ++ d ++ [z])),.z)]):=fun way=>by
  have e1:=lW (way:=way) j h i
  have g:=Ef (way:=way) j (lS (way:=way) h) i
  generalize L3.D.tup (Nd ([a] ++ d ++ [z]))=R at *
  generalize L3.D.tup (Nd (sd s a d z way))=R2 at *
  unfold cf
  nomatch [g,e1]
 have k:ltI (.int ((Nd ([a] ++ d ++ [z])).length:Int)) (.int 3)=some (.bl false,.z):=by
  have:0 < d.length:=List.length_pos_iff.mpr h3
  simp [b6];omega
 have ln:cq [.tup (Nd ([a] ++ d ++ [z]))]=some (.int ((Nd ([a] ++ d ++ [z])).length:Int),.z):=rfl
 generalize ((Nd ([a] ++ d ++ [z])).length:Int)=N at *
 generalize L3.D.tup (Nd ([a] ++ d ++ [z]))=R at *
 obtain ⟨τ',e,v,rfl⟩:=bz (bnd:=aw 0) (c:=dE) (elt:=cf) (fun τ=>∃ v,τ=[v,some (.dt T,.u),some (R,.z)]) L3.D.int (fun _=>true) (fun way=>.bl (rb s (sd s a d z way) way)) (xs:=[1,-1]) (τ:=[none,some (.dt T,.u),some (R,.z)]) ⟨none,rfl⟩ (by
  rintro way hw τ ⟨v,rfl⟩
  exact ⟨[some (.int way,.z),some (.dt T,.u),some (R,.z)],_,rfl,rfl,(fun h=>by cases h),fun _=>⟨_,[some (.int way,.z),some (.dt T,.u),some (R,.z)],(.bl _,.z),_,f way,rfl,rfl,_,rfl⟩⟩)
 rw [GR.mpr (fun _ _=>rfl)] at e
 have g:gk [some (.dt T,.u),some (R,.z),some (.int (s.length:Int),.z)]=some (.ok (.val (.lst ([1,-1].map fun way=>.bl (rb s (sd s a d z way) way))) .u),[some (.dt T,.u),some (R,.z),some (.int (s.length:Int),.z)]):=bc (rs:=[.val (.tup [.int 1,.int (-1)]) .z]) (ρ1:=[some (.dt T,.u),some (R,.z),some (.int (s.length:Int),.z)]) (by (nofun)) e (by decide) rfl
 have al:=m9 (fun way=>rb s (sd s a d z way) way) [1,-1]
 have m:[1,-1].all (fun way=>rb s (sd s a d z way) way)=l4 s a d z:=by simp [l4]
 rw [m] at al
 generalize L3.D.int (s.length:Int)=LN at *
 apply aL (ρ:=[some (.dt T,.u),some (R,.z),some (LN,.z)]) rfl rfl
 ·apply au (ρ1:=[some (.dt T,.u),some (R,.z),some (LN,.z)])
  ·refine bW (b:=false) (jf (b:=false) (ρ1:=[some (.dt T,.u),some (R,.z),some (LN,.z)]) ?_ rfl ?_) rfl rfl
   ·exact bQ (ee (av l (aq (aB rfl) (aq (aB rfl) aP)) rfl rfl rfl) rfl)
   ·exists ln,k
  ·exact bj (bp (aq g aP) rfl al) rfl
 ·rfl
theorem fl_nx {bnd:L3.D->Sto->Option Sto} {b:SM} {d:L3.D} {ds:List L3.D} {ρ ρ1 ρ2:Sto} {x:Option (Except L3.D Flw × Sto)} (h1:bnd d ρ=some ρ1) (h2:b ρ1=some (.ok .nx,ρ2)) (h3:cQ bnd b ds ρ2=x):cQ bnd b (d :: ds) ρ=x:=by
 simp only [cQ,h1,af,h2,h3]
theorem fl_rt {bnd:L3.D->Sto->Option Sto} {b:SM} {d:L3.D} {ds:List L3.D} {ρ ρ1 ρ2:Sto} {y:L3.D} {g:Fl} (h1:bnd d ρ=some ρ1) (h2:b ρ1=some (.ok (.rt y g),ρ2)):cQ bnd b (d :: ds) ρ=some (.ok (.rt y g),ρ2):=by
 simp only [cQ,h1,af,h2];rfl
theorem zk {α:Type} (f:α->Int):∀ l:List α,∃ qs,jm (l.map fun x=>L3.D.int (f x))=some qs/\PyData.canLayAll0 qs=true/\PyData.depthAll qs<=10/\qs.length=l.length
 | []=>⟨[],rfl,rfl,by decide,rfl⟩
 | x :: l=>by
  obtain ⟨qs,e1,b,c,a⟩:=zk f l
  refine ⟨.int (f x) :: qs,?_,?_,?_,?_⟩
  ·show (match pyD (.int (f x)),jm (l.map fun x=>L3.D.int (f x)) with | some p,some ps=>some (p :: ps) | _,_=>none)=_
   rw [e1];rfl
  ·simp [PyData.canLayAll0,PyData.canLay0,b]
  ·simp [PyData.depthAll,PyData.depth];omega
  ·simp [a]
theorem xz {d:L3.D} {p:PyData} (b:eqS d d=none) (h:pyD d=some p) (a:p.canLay0=true) (hd:p.depth<=30):eqX d d=some (.bl true,.z):=by
 have h1:eqA d d=some true:=by
  unfold eqA
  rw [b]
  exact At h a hd
 show (eqA d d).map _=_
 rw [h1];rfl
theorem vA:∀ (l ns:List Int),l.Nodup->(∀ x ∈ l,x ∉ ns)->l.foldl met ns=ns ++ l
 | [],ns,_,_=>by simp
 | x :: l,ns,hd,hx=>by
  rw [List.nodup_cons] at hd
  rw [List.foldl_cons,show met ns x=ns ++ [x] from if_neg (hx x Ga),vA l (ns ++ [x]) hd.2 fun y a h=>?_]
  ·simp
  ·rcases Gk.mp h with h | h
   ·exact hx y (Gb _ a) h
   ·exact hd.1 (GK.mp h ▸ a)
theorem ss_is {n:Nat} {r:List Nat} (h:Ris n r) (d:n<=24):ssD [.tup (Nd r)]=some (.lst (Nd r),.u):=by
 have c:=h.len
 have b:aT (Nd r)=some (r.map fun x:Nat=>(x:Int)):=by
  clear h c
  induction r with
  | nil=>rfl
  | cons x r ih=>simp [aT,ih]
 have up:(r.map fun x:Nat=>(x:Int)).Pairwise (· < ·):=List.pairwise_map.mpr (h.up.imp fun a=>by omega)
 have m:=vA (r.map fun x:Nat=>(x:Int)) [] (up.imp fun a=>by omega) (fun _ _=>List.not_mem_nil)
 rw [List.nil_append] at m
 have st:srt (r.map fun x:Nat=>(x:Int))=r.map fun x:Nat=>(x:Int):=hU (lO _) (ji _) (up.imp fun a=>by omega)
 show (aT (Nd r)).bind _=_
 rw [b]
 show (if (r.map fun x:Nat=>(x:Int)).length < 64 then some ((.lst ((srt ((r.map fun x:Nat=>(x:Int)).foldl met [])).map .int),.u):L3.D × Fl) else none)=_
 rw [if_pos (by rw [Go];omega),m,st,GT]
 rfl
theorem CT (r:List Nat):eqX (.lst (Nd r)) (.lst (Nd r))=some (.bl true,.z):=by
 obtain ⟨qs,e1,a,d,c⟩:=zk (fun i:Nat=>(i:Int)) r
 have b:pyD (.lst (Nd r))=some (.list qs):=by unfold pyD;rw [e1];rfl
 exact xz rfl b (by simp [PyData.canLay0,a]) (by simp [PyData.depth];omega)
theorem sg {α:Type} {bnd:L3.D->Sto->Option Sto} {b:SM} (D:α->L3.D) (t:α->Bool) (P:Sto->Prop) {r:L3.D} {f:Fl}:∀ {xs:List α} {ρ:Sto},P ρ->(∀ x ∈ xs,∀ ρ,P ρ->∃ ρ1 ρ2,bnd (D x) ρ=some ρ1/\b ρ1=some (.ok (if t x=true then .nx else .rt r f),ρ2)/\P ρ2)->∃ ρ',cQ bnd b (xs.map D) ρ=some (.ok (if xs.all t=true then .nx else .rt r f),ρ')/\P ρ'
 | [],ρ,h0,_=>⟨ρ,rfl,h0⟩
 | x :: xs,ρ,h0,hs=>by
  obtain ⟨ρ1,ρ2,e1,a,h1⟩:=hs x Ga ρ h0
  rw [Gz,List.all_cons]
  cases c:t x with
  | true =>
   rw [c] at a
   obtain ⟨ρ',d,h3⟩:=sg D t P (xs:=xs) (ρ:=ρ2) h1 fun y e=>hs y (Gb _ e)
   exact ⟨ρ',fl_nx e1 a (by rw [Bool.true_and];exact d),h3⟩
  | false =>
   rw [c] at a
   exact ⟨ρ2,fl_rt e1 a,h1⟩
theorem tF (i:Int):i5 [(.int i,.z)]=some (.ok (.bl true,.z),[(.int i,.z)]):=by kernel_rfl
theorem lX {n:Nat} {r:List Nat} (h:Ris n r) (l:n<=24):aY [(.tup (Nd r),.z),(.int (n:Int),.z)]=some (.ok (.bl true,.z),[(.tup (Nd r),.z),(.int (n:Int),.z)]):=by
 have o:=h.len
 obtain ⟨τ',e,a,rfl⟩:=bz (bnd:=aw 0) (c:=dE) (elt:=eT) (fun τ=>∃ a,τ=[a]) (fun i:Nat=>L3.D.int (i:Int)) (fun _=>true) (fun _=>.bl true) (xs:=r) (τ:=[none]) ⟨none,rfl⟩ (by
  rintro k g τ ⟨a,rfl⟩
  have w:=tF (k:Int)
  exact ⟨[some (.int (k:Int),.z)],_,rfl,rfl,(fun h=>by cases h),fun _=>⟨.val (.bl true) .z,[some (.int (k:Int),.z)],(.bl true,.z),_,by unfold eT;(nomatch [w]),rfl,rfl,_,rfl⟩⟩)
 rw [GR.mpr (fun _ _=>rfl)] at e
 have a1:=m9 (fun _:Nat=>true) r
 rw [List.all_eq_true.mpr (fun _ _=>rfl)] at a1
 have e1:jd [some (.tup (Nd r),.z),some (.int (n:Int),.z)]=some (.ok (.val (.lst (r.map fun _=>.bl true)) .u),[some (.tup (Nd r),.z),some (.int (n:Int),.z)]):=bc (rs:=[.pl 0]) (ρ1:=[some (.tup (Nd r),.z),some (.int (n:Int),.z)]) (ρ2:=[some (.tup (Nd r),.z),some (.int (n:Int),.z)]) rfl e (by rw [Go];omega) rfl
 obtain ⟨τ2,f,v,rfl⟩:=bz (bnd:=aw 0) (c:=eU) (elt:=je) (fun τ=>∃ a,τ=[a,some (.int (n:Int),.z)]) (fun i:Nat=>L3.D.int (i:Int)) (fun _=>false) (fun _=>.non) (xs:=r) (τ:=[none,some (.int (n:Int),.z)]) ⟨none,rfl⟩ (by
  rintro k g τ ⟨a,rfl⟩
  have lt:=h.lt k g
  have m:ltI (.int (k:Int)) (.int 0)=some (.bl false,.z):=by simp [b6]
  have c1:geI (.int (k:Int)) (.int (n:Int))=some (.bl false,.z):=by simp [b6];omega
  refine ⟨[some (.int (k:Int),.z),some (.int (n:Int),.z)],[some (.int (k:Int),.z),some (.int (n:Int),.z)],rfl,?_,fun _=>⟨_,rfl⟩,fun h=>by cases h⟩
  unfold eU
  refine jf (b:=false) (ρ1:=[some (.int (k:Int),.z),some (.int (n:Int),.z)]) ?_ rfl ?_
  ·exists m
  ·(exists c1))
 rw [List.filter_eq_nil_iff.mpr (fun _ _=>by decide)] at f
 have j:jc [some (.tup (Nd r),.z),some (.int (n:Int),.z)]=some (.ok (.val (.lst []) .u),[some (.tup (Nd r),.z),some (.int (n:Int),.z)]):=bc (rs:=[.pl 0]) (ρ1:=[some (.tup (Nd r),.z),some (.int (n:Int),.z)]) (ρ2:=[some (.tup (Nd r),.z),some (.int (n:Int),.z)]) rfl f (by rw [Go];omega) rfl
 have ss:=ss_is h l
 have li:Cu [.tup (Nd r)]=some (.lst (Nd r),.u):=rfl
 have eq:=CT r
 have z:neX (.lst []) (.lst [])=some (.bl false,.z):=by kernel_rfl
 have d:jQ "tuple" (.tup (Nd r))=some (.bl true,.z):=rfl
 generalize L3.D.lst (Nd r)=RL at *
 generalize L3.D.tup (Nd r)=R at *
 generalize L3.D.int (n:Int)=N at *
 apply aL (ρ:=[some (R,.z),some (N,.z)]) (ρ1:=[some (R,.z),some (N,.z)]) rfl rfl
 ·unfold mz
  apply au (ρ1:=[some (R,.z),some (N,.z)])
  ·refine bW (b:=false) (jf (b:=false) (ρ1:=[some (R,.z),some (N,.z)]) ?_ rfl ?_) rfl rfl
   ·exact bQ (ee (i_un (aB rfl) rfl d) rfl)
   ·exact bQ (ee (bp (aq e1 aP) rfl a1) rfl)
  apply au (ρ1:=[some (R,.z),some (N,.z)])
  ·exact bW (b:=false) (ee (eL j rfl rfl rfl z) rfl) rfl rfl
  ·apply bj
   ·exists ss,li,eq
   ·rfl
 ·rfl
theorem yI {ps:List Pt} (g:GoodSh ps) {i j k:Nat} (h1:i < ps.length) (h2:j < ps.length) (h3:k < ps.length):kF [(Shd ps,.z),(.int i,.z),(.int j,.z),(.int k,.z)]=some (.ok (.bl (decide (a8 (bA ps i) (bA ps j) (bA ps k) > 0)),.z),[(Shd ps,.z),(.int i,.z),(.int j,.z),(.int k,.z)]):=by
 have s:=Small.sub (fO g.small h1) (fO g.small h2)
 have b:=qQ (bA ps i) (bA ps j) (bA ps k) s.1 s.2
 have a1:=j6 h1
 have a2:=j6 h2
 have a:=j6 h3
 generalize bA ps i=p at *
 generalize bA ps j=q at *
 generalize bA ps k=r at *
 have z:gtI (.int (a8 p q r)) (.int 0)=some (.bl (decide (a8 p q r > 0)),.z):=rfl
 generalize Shd ps=H at *
 generalize decide (a8 p q r > 0)=B at *
 generalize a8 p q r=M at *
 generalize Pd p=p at *
 generalize Pd q=q at *
 generalize Pd r=r at *
 apply aL (ρ:=[some (H,.z),some (.int i,.z),some (.int j,.z),some (.int k,.z)]) (ρ1:=[some (H,.z),some (.int i,.z),some (.int j,.z),some (.int k,.z)]) rfl rfl
 ·apply bj
  ·nomatch [b],[a1,a2,a,z]
  ·rfl
 ·rfl
def way (b:Bool):Int:=if b then 1 else -1
theorem Dv (ps:List Pt) (i j k:Nat) (b:Bool):decide (decide (a8 (bA ps i) (bA ps j) (bA ps k) > 0)=b)=decide ((sgn ps).f i j k=way b):=by
 show _=decide ((if 0 < a8 (bA ps i) (bA ps j) (bA ps k) then (1:Int) else -1)=way b)
 by_cases h:0 < a8 (bA ps i) (bA ps j) (bA ps k)
 ·rw [if_pos h,GA (show a8 (bA ps i) (bA ps j) (bA ps k) > 0 from h)]
  cases b <;> rfl
 ·rw [if_neg h,GB (show ¬ a8 (bA ps i) (bA ps j) (bA ps k) > 0 from h)]
  cases b <;> rfl
theorem iz (ps:List Pt):cq [Shd ps]=some (.int (ps.length:Int),.z):=by simp [mD,c1]
theorem uI {ps:List Pt} (g:GoodSh ps) {row:List Nat} (h:Ris ps.length row) {k:Nat} (c:k+2 < row.length) {b:Bool}:cF [some (Shd ps,.z),some (.tup (Nd row),.z),some (.bl b,.z),some (.int (k:Int),.z)]=some (.ok (if decide ((sgn ps).f (el row k) (el row (k+1)) (el row (k+2))=way b)=true then .nx else .rt (.bl false) .z),[some (Shd ps,.z),some (.tup (Nd row),.z),some (.bl b,.z),some (.int (k:Int),.z)]):=by
 have f:=yI g (h.lt _ (p7 (L:=row) (i:=k) (by omega))) (h.lt _ (p7 (L:=row) (i:=k+1) (by omega))) (h.lt _ (p7 (L:=row) (i:=k+2) (by omega)))
 have s0:=lM (r:=row) (i:=k) (by omega)
 have s1:aF (.tup (Nd row)) (.int ((k:Int)+1))=some (.int (el row (k+1)),.z):=lM (r:=row) (i:=k+1) (by omega)
 have s2:aF (.tup (Nd row)) (.int ((k:Int)+2))=some (.int (el row (k+2)),.z):=lM (r:=row) (i:=k+2) (by omega)
 have a:=Dv ps (el row k) (el row (k+1)) (el row (k+2)) b
 rw [<- a]
 generalize decide (a8 (bA ps (el row k)) (bA ps (el row (k+1))) (bA ps (el row (k+2))) > 0)=u at *
 have ne:neX (.bl u) (.bl b)=some (.bl (!decide (u=b)),.z):=rfl
 generalize Shd ps=H at *
 generalize L3.D.tup (Nd row)=R at *
 unfold cF
 cases hd:decide (u=b) with
 | true =>
  rw [hd] at ne
  refine bW (b:=false) ?_ rfl rfl
  nomatch [f],[s0,s1,s2,ne]
 | false =>
  rw [hd] at ne
  refine eK (b:=true) ?_ rfl (bj i_c rfl)
  nomatch [f],[s0,s1,s2,ne]
theorem lY {ps:List Pt} (g:GoodSh ps) {row:List Nat} (h:Ris ps.length row) (h2:2<=row.length) {b:Bool}:ft [(Shd ps,.z),(.tup (Nd row),.z),(.bl b,.z)]=some (.ok (.bl (rb (sgn ps) row (way b)),.z),[(Shd ps,.z),(.tup (Nd row),.z),(.bl b,.z)]):=by
 have o:=g.most
 have n:=h.len
 have l:=lX h (by omega)
 have ln:=iz ps
 have a:cq [.tup (Nd row)]=some (.int (row.length:Int),.z):=by simp [mD,c1]
 have c2:ltI (.int (row.length:Int)) (.int 2)=some (.bl false,.z):=by simp [b6];omega
 have j:dS [.int ((row.length:Int) - 2)]=some (bE 0 (row.length - 2)):=eA (by omega) (by omega)
 obtain ⟨ρ',e,v,rfl⟩:=sg (bnd:=aw 3) (b:=cF) (fun i:Nat=>L3.D.int (0+(i:Int))) (fun k=>decide ((sgn ps).f (el row k) (el row (k+1)) (el row (k+2))=way b)) (fun ρ=>∃ v,ρ=[some (Shd ps,.z),some (.tup (Nd row),.z),some (.bl b,.z),v]) (r:=.bl false) (f:=.z) (xs:=List.range (row.length - 2)) (ρ:=[some (Shd ps,.z),some (.tup (Nd row),.z),some (.bl b,.z),none]) ⟨none,rfl⟩ (by
  rintro k m ρ ⟨v,rfl⟩
  rw [List.mem_range] at m
  rw [Int.zero_add]
  exact ⟨_,_,rfl,uI g h (k:=k) (by omega),_,rfl⟩)
 have c:(List.range (row.length - 2)).all (fun k=>decide ((sgn ps).f (el row k) (el row (k+1)) (el row (k+2))=way b))=rb (sgn ps) row (way b):=rfl
 rw [c] at e
 have d:cQ (aw 3) cF (bE 0 (row.length - 2)) [some (Shd ps,.z),some (.tup (Nd row),.z),some (.bl b,.z),none]=some (.ok (if rb (sgn ps) row (way b)=true then .nx else .rt (.bl false) .z),[some (Shd ps,.z),some (.tup (Nd row),.z),some (.bl b,.z),v]):=e
 generalize rb (sgn ps) row (way b)=B at *
 generalize Shd ps=H at *
 generalize L3.D.tup (Nd row)=R at *
 generalize L3.D.int (ps.length:Int)=N at *
 generalize (row.length:Int)=M at *
 apply aL (ρ:=[some (H,.z),some (R,.z),some (.bl b,.z),none]) (ρ1:=[some (H,.z),some (R,.z),some (.bl b,.z),v]) rfl rfl
 ·unfold oH
  apply au (ρ1:=[some (H,.z),some (R,.z),some (.bl b,.z),none])
  ·refine bW (b:=false) (jf (b:=false) (ρ1:=[some (H,.z),some (R,.z),some (.bl b,.z),none]) ?_ rfl ?_) rfl rfl
   ·exact bQ (ee (av l (aq (aB rfl) (aq (bp (aq (aB rfl) aP) rfl ln) aP)) rfl rfl rfl) rfl)
   ·exists a,c2
  cases B with
  | true =>
   apply au (ρ1:=[some (H,.z),some (R,.z),some (.bl b,.z),v])
   ·apply iD
    ·(repeat' (first | with_reducible apply gr (h3:=j) | infer_instance | exact a | eq_refl))
    ·rfl
    ·exact d
   ·exact bj i_c rfl
  | false =>
   apply fD
   apply iD
   ·(repeat' (first | with_reducible apply gr (h3:=j) | infer_instance | exact a | eq_refl))
   ·rfl
   ·exact d
 ·rfl
theorem iX {ps:List Pt} (g:GoodSh ps) {a z:Nat} {d:List Nat} (h:Ris ps.length ([a] ++ d ++ [z])) {b:Bool}:b8 [(Shd ps,.z),(.tup (Nd ([a] ++ d ++ [z])),.z),(.bl b,.z)]=some (.ok (.tup (Nd (sd (sgn ps) a d z (way b))),.z),[(Shd ps,.z),(.tup (Nd ([a] ++ d ++ [z])),.z),(.bl b,.z)]):=by
 obtain ⟨hz,o,hm⟩:=zR h
 have J:=g.most
 have C:=h.len
 have y:d.length<=24:=by simp at C;omega
 have fl:(d.filter fun p=>decide ((sgn ps).f a p z=way b)).length<=24:=GQ (List.length_filter_le _ _) y
 have A:=vU a z d
 have n:aF (.tup (Nd ([a] ++ d ++ [z]))) (.int 0)=some (.int a,.z):=dO (qo (i:=0) (by simp))
 have g1:aF (.tup (Nd ([a] ++ d ++ [z]))) (.int (-1))=some (.int z,.z):=dO (qp (by simp))
 generalize G:L3.D.tup (Nd ([a] ++ d ++ [z]))=R at *
 obtain ⟨τ',e,v,rfl⟩:=bz (bnd:=aw 0) (c:=eF) (elt:=iu) (fun τ=>∃ v,τ=[v,some (.bl b,.z),some (Shd ps,.z),some (R,.z)]) (fun i:Nat=>L3.D.int (i:Int)) (fun p=>decide ((sgn ps).f a p z=way b)) (fun i:Nat=>L3.D.int (i:Int)) (xs:=d) (τ:=[none,some (.bl b,.z),some (Shd ps,.z),some (R,.z)]) ⟨none,rfl⟩ (by
  rintro x s τ ⟨v,rfl⟩
  have f:=yI g (i:=a) (j:=x) (k:=z) (by omega) (by have:=(hm x s).2;omega) hz
  have q:=Dv ps a x z b
  rw [<- q]
  generalize decide (a8 (bA ps a) (bA ps x) (bA ps z) > 0)=u at *
  have eq:eqX (.bl u) (.bl b)=some (.bl (decide (u=b)),.z):=rfl
  generalize Shd ps=H at *
  refine ⟨[some (.int (x:Int),.z),some (.bl b,.z),some (H,.z),some (R,.z)],[some (.int (x:Int),.z),some (.bl b,.z),some (H,.z),some (R,.z)],rfl,?_,fun _=>⟨_,rfl⟩,fun _=>⟨_,_,(.int (x:Int),.z),[some (.int (x:Int),.z),some (.bl b,.z),some (H,.z),some (R,.z)],aB rfl,rfl,rfl,_,rfl⟩⟩
  unfold eF
  (nomatch [f],[n,g1,eq]))
 have l:(Nd d).length < 16777216:=by rw [Go];omega
 have m:Nd (sd (sgn ps) a d z (way b))=([.int a] ++ Nd (d.filter fun p=>decide ((sgn ps).f a p z=way b))) ++ [.int z]:=by simp [sd]
 rw [m]
 have t:bX (aw 0) eF iu (Nd d) [none,some (.bl b,.z),some (Shd ps,.z),some (R,.z)]=some (.ok (Nd (d.filter fun p=>decide ((sgn ps).f a p z=way b))),[v,some (.bl b,.z),some (Shd ps,.z),some (R,.z)]):=e
 generalize I:d.filter (fun p=>decide ((sgn ps).f a p z=way b))=F at *
 have k1:bH (.lst [.int a]) (.lst (Nd F))=some (.lst ([.int a] ++ Nd F),.u):=vZ (by simp;omega)
 have k2:bH (.lst ([.int a] ++ Nd F)) (.lst [.int z])=some (.lst (([.int a] ++ Nd F) ++ [.int z]),.u):=vZ (by simp;omega)
 have w:qC [.lst (([.int a] ++ Nd F) ++ [.int z])]=some (.tup (([.int a] ++ Nd F) ++ [.int z]),.z):=rfl
 generalize Shd ps=H at *
 have B:kU [some (H,.z),some (R,.z),some (.bl b,.z),none]=some (.ok (.val (.lst (Nd F)) .u),[some (H,.z),some (R,.z),some (.bl b,.z),none]):=bc (rs:=[.val (.tup (Nd d)) .z]) (ρ1:=[some (H,.z),some (R,.z),some (.bl b,.z),none]) (by (exists A)) t l rfl
 have E:(cn (aa (aj aF (ac 1) (mC (.int 0))) ag)) [some (H,.z),some (R,.z),some (.bl b,.z),some (.lst (Nd F),.u)]=some (.ok (.val (.lst [.int a]) .u),[some (H,.z),some (R,.z),some (.bl b,.z),some (.lst (Nd F),.u)]):=by (exists n)
 have r:(cn (aa (aj aF (ac 1) (mUn jo (mC (.int 1)))) ag)) [some (H,.z),some (R,.z),some (.bl b,.z),some (.lst (Nd F),.u)]=some (.ok (.val (.lst [.int z]) .u),[some (H,.z),some (R,.z),some (.bl b,.z),some (.lst (Nd F),.u)]):=by (exists g1)
 apply aL (ρ:=[some (H,.z),some (R,.z),some (.bl b,.z),none]) (ρ1:=[some (H,.z),some (R,.z),some (.bl b,.z),some (.lst (Nd F),.u)]) rfl rfl
 ·unfold rR
  apply au (ρ1:=[some (H,.z),some (R,.z),some (.bl b,.z),some (.lst (Nd F),.u)])
  ·exact mI B rfl (Nat.le_of_ble_eq_true rfl) rfl
  ·exact bj (bp (aq (eL (eL E (aB rfl) rfl rfl k1) r rfl rfl k2) aP) rfl w) rfl
 ·rfl
theorem yO {ps:List Pt} (g:GoodSh ps) {a z:Nat} {c:List Nat} (h:Ris ps.length ([a] ++ c ++ [z])) (h3:c ≠ []):bC [(Shd ps,.z),(.tup (Nd ([a] ++ c ++ [z])),.z)]=some (.ok (.bl (l4 (sgn ps) a c z),.z),[(Shd ps,.z),(.tup (Nd ([a] ++ c ++ [z])),.z)]):=by
 have l:=g.most
 have k:=h.len
 have e:=lX h (by omega)
 have ln:=iz ps
 have i:cq [.tup (Nd ([a] ++ c ++ [z]))]=some (.int (([a] ++ c ++ [z]).length:Int),.z):=by simp only [mD,c1,Go]
 have c2:ltI (.int (([a] ++ c ++ [z]).length:Int)) (.int 3)=some (.bl false,.z):=by
  have:0 < c.length:=List.length_pos_iff.mpr h3
  simp [b6];omega
 have s1:=iX g h (b:=true)
 have s2:=iX g h (b:=false)
 have b1:=lY g (lS (s:=sgn ps) (way:=way true) h) (by simp [sd]) (b:=true)
 have b2:=lY g (lS (s:=sgn ps) (way:=way false) h) (by simp [sd]) (b:=false)
 have j:l4 (sgn ps) a c z=(rb (sgn ps) (sd (sgn ps) a c z (way true)) (way true) && rb (sgn ps) (sd (sgn ps) a c z (way false)) (way false)):=rfl
 rw [j]
 generalize rb (sgn ps) (sd (sgn ps) a c z (way true)) (way true)=B1 at *
 generalize rb (sgn ps) (sd (sgn ps) a c z (way false)) (way false)=B2 at *
 generalize L3.D.tup (Nd (sd (sgn ps) a c z (way true)))=R1 at *
 generalize L3.D.tup (Nd (sd (sgn ps) a c z (way false)))=R2 at *
 generalize (([a] ++ c ++ [z]).length:Int)=M at *
 generalize L3.D.tup (Nd ([a] ++ c ++ [z]))=R at *
 generalize Shd ps=H at *
 generalize L3.D.int (ps.length:Int)=N at *
 apply aL (ρ:=[some (H,.z),some (R,.z)]) (ρ1:=[some (H,.z),some (R,.z)]) rfl rfl
 ·unfold eG
  apply au (ρ1:=[some (H,.z),some (R,.z)])
  ·refine bW (b:=false) (jf (b:=false) (ρ1:=[some (H,.z),some (R,.z)]) ?_ rfl ?_) rfl rfl
   ·exact bQ (ee (av e (aq (aB rfl) (aq (bp (aq (aB rfl) aP) rfl ln) aP)) rfl rfl rfl) rfl)
   ·exists i,c2
  have d:=av b1 (ρ:=[some (H,.z),some (R,.z)]) (ρ1:=[some (H,.z),some (R,.z)]) (ρ2:=[some (H,.z),some (R,.z)]) (ms:=aa (ac 0) (aa (ak b8 (aa (ac 0) (aa (ac 1) (aa (mC (.bl true)) ag)))) (aa (mC (.bl true)) ag))) (rs:=[.pl 0,.val R1 .z,.val (.bl true) .z]) (by (nomatch [s1])) rfl rfl rfl
  have f:=av b2 (ρ:=[some (H,.z),some (R,.z)]) (ρ1:=[some (H,.z),some (R,.z)]) (ρ2:=[some (H,.z),some (R,.z)]) (ms:=aa (ac 0) (aa (ak b8 (aa (ac 0) (aa (ac 1) (aa (mC (.bl false)) ag)))) (aa (mC (.bl false)) ag))) (rs:=[.pl 0,.val R2 .z,.val (.bl false) .z]) (by (nomatch [s2])) rfl rfl rfl
  cases B1 with
  | true =>
   apply au (ρ1:=[some (H,.z),some (R,.z)])
   ·exact bW (b:=false) (bQ (ee d rfl)) rfl rfl
   ·rw [Bool.true_and]
    exact bj f rfl
  | false=>exact fD (eK (b:=true) (bQ (ee d rfl)) rfl (bj i_c rfl))
 ·rfl
def isR (s:Sg) (r:List Nat):Bool:=if 3<=r.length then l4 s (r.headD 0) (r.tail.dropLast) (r.getLastD 0) else false
theorem FC (s:Sg) {a z:Nat} {b:List Nat} (h3:b ≠ []):isR s ([a] ++ b ++ [z])=l4 s a b z:=by
 have:0 < b.length:=List.length_pos_iff.mpr h3
 unfold isR
 grind
theorem xl (s:Sg) {r:List Nat} (h:r.length < 3):isR s r=false:=if_neg (by omega)
theorem q9 {r:List Nat} (h:3<=r.length):∃ a d z,r=[a] ++ d ++ [z]/\d ≠ []:=by
 match r,h with
 | a :: b :: c :: t,_ =>
  refine ⟨a,(b :: c :: t).dropLast,(b :: c :: t).getLast (by simp),?_,?_⟩
  ·rw [List.append_assoc,List.dropLast_concat_getLast];rfl
  ·simp
theorem both {ps:List Pt} (g:GoodSh ps) {T:List (List Key × L3.D)} (d:sP (sgn ps) T) {r:List Nat} (h:Ris ps.length r):bC [(Shd ps,.z),(.tup (Nd r),.z)]=some (.ok (.bl (isR (sgn ps) r),.z),[(Shd ps,.z),(.tup (Nd r),.z)])/\bV [(.dt T,.u),(.tup (Nd r),.z),(.int (ps.length:Int),.z)]=some (.ok (.bl (isR (sgn ps) r),.z),[(.dt T,.u),(.tup (Nd r),.z),(.int (ps.length:Int),.z)]):=by
 have l:=g.most
 by_cases h3:3<=r.length
 ·obtain ⟨a,j,z,rfl,hm⟩:=q9 h3
  rw [FC _ hm]
  exact ⟨yO g h hm,yM d h hm (show ps.length<=24 by omega)⟩
 ·rw [xl _ (by omega)]
  have k:=h.len
  have i:=uX h (by omega)
  have e:=lX h (by omega)
  have f:=iz ps
  have c:ltI (.int ((Nd r).length:Int)) (.int 3)=some (.bl true,.z):=by simp [b6];omega
  have ln:cq [.tup (Nd r)]=some (.int ((Nd r).length:Int),.z):=rfl
  generalize ((Nd r).length:Int)=N at *
  generalize L3.D.tup (Nd r)=R at *
  generalize L3.D.int (ps.length:Int)=LN at *
  generalize Shd ps=H at *
  constructor
  ·apply aL (ρ:=[some (H,.z),some (R,.z)]) (ρ1:=[some (H,.z),some (R,.z)]) rfl rfl
   ·unfold eG
    refine fD (eK (b:=true) (jf (b:=false) (ρ1:=[some (H,.z),some (R,.z)]) ?_ rfl ?_) rfl (bj i_c rfl))
    ·exact bQ (ee (av e (aq (aB rfl) (aq (bp (aq (aB rfl) aP) rfl f) aP)) rfl rfl rfl) rfl)
    ·exists ln,c
   ·rfl
  ·apply aL (ρ:=[some (.dt T,.u),some (R,.z),some (LN,.z)]) (ρ1:=[some (.dt T,.u),some (R,.z),some (LN,.z)]) rfl rfl
   ·unfold fV
    refine fD (eK (b:=true) (jf (b:=false) (ρ1:=[some (.dt T,.u),some (R,.z),some (LN,.z)]) ?_ rfl ?_) rfl (bj i_c rfl))
    ·exact bQ (ee (av i (aq (aB rfl) (aq (aB rfl) aP)) rfl rfl rfl) rfl)
    ·exists ln,c
   ·rfl
def lx:Nat->Nat->List (List Nat)
 | 0,_=>[[]]
 | k+1,a=>[] :: ((lx k (a+1)).map (fun r=>a :: r) ++ (lx k (a+1)).tail)
abbrev Pl (l:List (List Nat)):List L3.D:=l.map fun p=>L3.D.tup (Nd p)
theorem zZ:∀ (k a:Nat),∀ r ∈ lx k a,r.Pairwise (· < ·)/\∀ x ∈ r,a<=x/\x < a+k
 | 0,a,r,h=>by
  rcases GK.mp h with rfl
  exact ⟨.nil,fun x b=>by cases b⟩
 | k+1,a,r,h=>by
  rcases Gh.mp h with rfl | h
  ·exact ⟨.nil,fun x b=>by cases b⟩
  rcases Gk.mp h with h | h
  ·obtain ⟨q,c,rfl⟩:=Gs.mp h
   obtain ⟨h1,h2⟩:=zZ k (a+1) q c
   refine ⟨List.pairwise_cons.mpr ⟨fun x b=>?_,h1⟩,fun x b=>?_⟩
   ·have:=h2 x b;omega
   ·rcases Gh.mp b with rfl | b
    ·omega
    ·have:=h2 x b;omega
  ·obtain ⟨h1,h2⟩:=zZ k (a+1) r (List.mem_of_mem_tail h)
   exact ⟨h1,fun x b=>by have:=h2 x b;omega⟩
theorem t9 {n:Nat} {r:List Nat} (h:r ∈ lx n 0):Ris n r:=by
 obtain ⟨h1,h2⟩:=zZ n 0 r h
 exact ⟨h1,fun x a=>by have:=h2 x a;omega⟩
theorem Fq:∀ n:Nat,∃ l,lx n 0=[] :: l
 | 0=>⟨_,rfl⟩
 | n+1=>⟨_,rfl⟩
theorem nP:∀ ns:List (List Int),kI (ns.map ntD)=some ns
 | []=>rfl
 | n :: ns=>by
  have a:=nP ns
  have e:aT (n.map L3.D.int)=some n:=by
   clear a
   induction n with
   | nil=>rfl
   | cons x n a=>simp [aT,a]
  show (aT (n.map L3.D.int)).bind (fun n=>(kI (ns.map ntD)).map (n :: ·))=_
  rw [e,a];rfl
theorem nU {ns:List (List Int)} {is:List Nat} (h1:CC ns=true) (h2:ns.length<=16777216) (h3:bq ns=some is) (b:is.length<=16777216) (a:(is.all fun i=>decide (i < ns.length))=true):lP [.lst (ns.map ntD)]=some (.lst (is.map fun i=>ntD (ns.getD i [])),.u):=by
 show (kI (ns.map ntD)).bind _=_
 rw [nP]
 grind
theorem fp1:bb [(.int (1:Int),.z)]=some (.ok (.lst (Pl (lx 1 0)),.u),[(.int (1:Int),.z)]):=by kernel_rfl
theorem fp2:bb [(.int (2:Int),.z)]=some (.ok (.lst (Pl (lx 2 0)),.u),[(.int (2:Int),.z)]):=by kernel_rfl
theorem fp3:bb [(.int (3:Int),.z)]=some (.ok (.lst (Pl (lx 3 0)),.u),[(.int (3:Int),.z)]):=by kernel_rfl
theorem fp4:bb [(.int (4:Int),.z)]=some (.ok (.lst (Pl (lx 4 0)),.u),[(.int (4:Int),.z)]):=by kernel_rfl
theorem fp5:bb [(.int (5:Int),.z)]=some (.ok (.lst (Pl (lx 5 0)),.u),[(.int (5:Int),.z)]):=by kernel_rfl
theorem fq6:(c8 (bP dS (aa (ac 0) ag)) (aw 2) fU) [some (.int (6:Int),.z),some (.lst [.tup []],.u),none]=some (.ok .nx,[some (.int (6:Int),.z),some (.lst (U6.map ntD),.u),some (.int (5:Int),.z)]):=by kernel_rfl
theorem fr6:(L6_4.map fun i=>ntD (U6.getD i []))=Pl (lx 6 0):=by kernel_rfl
theorem fs6:lP [.lst (U6.map ntD)]=some (.lst (Pl (lx 6 0)),.u):=by
 rw [<- fr6]
 exact nU (by kernel_rfl) (by decide) sort6 (by decide) (by decide +kernel)
theorem fp6:bb [(.int (6:Int),.z)]=some (.ok (.lst (Pl (lx 6 0)),.u),[(.int (6:Int),.z)]):=by
 have s:=fs6
 have q:=fq6
 generalize L3.D.lst (U6.map ntD)=A at *
 generalize L3.D.lst (Pl (lx 6 0))=B at *
 apply aL (ρ:=[some (.int (6:Int),.z),none,none]) (ρ1:=[some (.int (6:Int),.z),some (A,.u),some (.int (5:Int),.z)]) rfl rfl
 ·unfold ke
  refine au (ρ1:=[some (.int (6:Int),.z),some (.lst [.tup []],.u),none]) rfl ?_
  refine au q ?_
  exact bj (bp (aq (aB rfl) aP) rfl s) rfl
 ·rfl
theorem fq7:(c8 (bP dS (aa (ac 0) ag)) (aw 2) fU) [some (.int (7:Int),.z),some (.lst [.tup []],.u),none]=some (.ok .nx,[some (.int (7:Int),.z),some (.lst (U7.map ntD),.u),some (.int (6:Int),.z)]):=by kernel_rfl
theorem fr7:(L7_10.map fun i=>ntD (U7.getD i []))=Pl (lx 7 0):=by kernel_rfl
theorem fs7:lP [.lst (U7.map ntD)]=some (.lst (Pl (lx 7 0)),.u):=by
 rw [<- fr7]
 exact nU (by kernel_rfl) (by decide) sort7 (by decide) (by decide +kernel)
theorem fp7:bb [(.int (7:Int),.z)]=some (.ok (.lst (Pl (lx 7 0)),.u),[(.int (7:Int),.z)]):=by
 have s:=fs7
 have q:=fq7
 generalize L3.D.lst (U7.map ntD)=A at *
 generalize L3.D.lst (Pl (lx 7 0))=B at *
 apply aL (ρ:=[some (.int (7:Int),.z),none,none]) (ρ1:=[some (.int (7:Int),.z),some (A,.u),some (.int (6:Int),.z)]) rfl rfl
 ·unfold ke
  refine au (ρ1:=[some (.int (7:Int),.z),some (.lst [.tup []],.u),none]) rfl ?_
  refine au q ?_
  exact bj (bp (aq (aB rfl) aP) rfl s) rfl
 ·rfl
theorem n9:∀ n:Nat,1<=n->n<=7->bb [(.int (n:Int),.z)]=some (.ok (.lst (Pl (lx n 0)),.u),[(.int (n:Int),.z)])
 | 0,h,_=>absurd h (by decide)
 | 1,_,_=>fp1
 | 2,_,_=>fp2
 | 3,_,_=>fp3
 | 4,_,_=>fp4
 | 5,_,_=>fp5
 | 6,_,_=>fp6
 | 7,_,_=>fp7
 | n+8,_,h=>absurd h (by omega)
def Kd (Q:List Nat->Prop) (d:L3.D):Prop:=∃ r,Q r/\d=.tup (Nd r)
theorem lB:∀ r:List Nat,aT (Nd r)=some (r.map fun x:Nat=>(x:Int))
 | []=>rfl
 | x :: r=>by
  have a:=lB r
  simp [aT] at a ⊢
  exact a
theorem Dh {Q:List Nat->Prop}:∀ {X:List L3.D},(∀ d ∈ X,Kd Q d)->∃ qs,jm X=some qs/\PyData.canLayAll0 qs=true/\PyData.depthAll qs<=20/\qs.length=X.length
 | [],_=>⟨[],rfl,rfl,by decide,rfl⟩
 | d :: X,h=>by
  obtain ⟨qs,e1,a,f,e⟩:=Dh (X:=X) fun x c=>h x (Gb _ c)
  obtain ⟨r,_,rfl⟩:=h d Ga
  obtain ⟨ps,f1,f2,g,f4⟩:=zk (fun i:Nat=>(i:Int)) r
  refine ⟨.tuple ps :: qs,?_,?_,?_,?_⟩
  ·have b:pyD (.tup (Nd r))=some (.tuple ps):=by unfold pyD;rw [f1];rfl
   show (match pyD (.tup (Nd r)),jm X with | some p,some ps=>some (p :: ps) | _,_=>none)=_
   rw [b,e1]
  ·simp [PyData.canLayAll0,PyData.canLay0,a,f2]
  ·simp [PyData.depthAll,PyData.depth];omega
  ·simp [e]
theorem Cp {X:List L3.D} {Q:List Nat->Prop} (e:∀ d ∈ X,Kd Q d):neX (.lst X) (.lst [])=some (.bl (!decide (X=[])),.z):=by
 obtain ⟨qs,e1,b,f,a⟩:=Dh e
 have c:pyD (.lst X)=some (.list qs):=by unfold pyD;rw [e1];rfl
 have h:eqP (.lst X) (.lst [])=some (decide (X=[])):=by
  have p2:pyD (.lst [])=some (.list []):=rfl
  unfold eqP
  rw [c,p2]
  have:((PyData.list qs).canLay0 && (PyData.list []).canLay0 && decide (min (PyData.list qs).depth (PyData.list []).depth<=30))=true:=by
   simp [PyData.canLay0,b,PyData.depth,PyData.canLayAll0];omega
  show (if _ then _ else _)=_
  rw [if_pos this]
  cases X with
  | nil =>
   have:qs=[]:=GV.mp a
   subst this
   rfl
  | cons x L =>
   cases qs with
   | nil=>simp at a
   | cons y qs =>
    have:decide (x :: L=[])=false:=by simp
    rw [this];rfl
 show (eqA (.lst X) (.lst [])).map _=_
 have h1:eqA (.lst X) (.lst [])=some (decide (X=[])):=h
 rw [h1];rfl
theorem wH {Q:List Nat->Prop} (n:Int) (L:List L3.D) (o:∀ d ∈ L,Kd Q d) (s:L.length<=200):∃ (f:Int) (M:List L3.D),dH [(.lst [.int n],.u),(.lst L,.u)]=some (.ok (.lst M,.u),[(.lst [.int f],.u),(.lst L,.u)])/\(∀ d ∈ M,Kd Q d)/\M.length<=300:=by
 obtain ⟨ρ',e,f,M,v,rfl,p,i⟩:=nK (c:=ce) (b:=dl) (fun m ρ=>∃ (n:Int) (X Y:List L3.D),ρ=[some (.lst [.int n],.u),some (.lst L,.u),some (.lst X,.u),some (.lst Y,.u)]/\(∀ d ∈ X,Kd Q d)/\(∀ d ∈ Y,Kd Q d)/\m=X.length/\X.length+Y.length<=200)
  (fun ρ=>∃ (n:Int) (M:List L3.D) (v:Option (L3.D × Fl)),ρ=[some (.lst [.int n],.u),some (.lst L,.u),v,some (.lst M,.u)]/\(∀ d ∈ M,Kd Q d)/\M.length<=300) (n:=L.length) (ρ:=[some (.lst [.int n],.u),some (.lst L,.u),some (.lst L,.u),some (.lst [],.u)]) ⟨n,L,[],rfl,o,(fun d hd=>by cases hd),rfl,by simpa using s⟩ (by
   rintro m ρ ⟨n,X,Y,rfl,g,k,rfl,hz⟩
   have ne:=Cp g
   have te:ce [some (.lst [.int n],.u),some (.lst L,.u),some (.lst X,.u),some (.lst Y,.u)]=some (.ok (!decide (X=[])),[some (.lst [.int n],.u),some (.lst L,.u),some (.lst X,.u),some (.lst Y,.u)]):=by
    unfold ce
    exists ne
   by_cases h0:X=[]
   ·rw [GA h0] at te
    exact .inl ⟨_,te,n,Y,_,rfl,k,by omega⟩
   ·rw [GB h0] at te
    have hpos:0 < X.length:=List.length_pos_iff.mpr h0
    have t:=ie n (X.length:Int) (by omega)
    have B:=cN n (X.length:Int) (by omega)
    have hlen:cq [.lst X]=some (.int (X.length:Int),.z):=by simp [mD,c1]
    have hi:(n % (X.length:Int)).toNat < X.length:=by omega
    have j:X[(n % (X.length:Int)).toNat]?=some X[(n % (X.length:Int)).toNat]:=Gi hi
    have l:=g _ (Gq j)
    generalize hd:X[(n % (X.length:Int)).toNat]=d at *
    have y:jn (.lst X) [.int (n % (X.length:Int))]=some (.lst (X.eraseIdx (n % (X.length:Int)).toNat),d):=by
     obtain ⟨r,_,rfl⟩:=l
     show (if 0<=n % (X.length:Int)/\n % (X.length:Int) < 16777216 then match X[(n % (X.length:Int)).toNat]? with | some (.tup ys)=>(aT ys).map fun _=>((.lst (X.eraseIdx (n % (X.length:Int)).toNat),.tup ys):L3.D × L3.D) | _=>none else none)=_
     rw [if_pos (by omega),j]
     show (aT (Nd r)).map _=_
     rw [lB]
     rfl
    have ap:=AN (A:=Y) (d:=d) (by omega)
    have le:(X.eraseIdx (n % (X.length:Int)).toNat).length=X.length - 1:=by rw [List.length_eraseIdx,if_pos hi]
    refine .inr ⟨_,[some (.lst [.int (n / (X.length:Int))],.u),some (.lst L,.u),some (.lst (X.eraseIdx (n % (X.length:Int)).toNat),.u),some (.lst (Y ++ [d]),.u)],(X.eraseIdx (n % (X.length:Int)).toNat).length,te,.inl ?_,by omega,_,_,_,rfl,fun x a=>g x (List.mem_of_mem_eraseIdx a),fun x a=>?_,rfl,by rw [GF,le];simp;omega⟩
    ·unfold dl
     have q:pN isL jn 2 (aa (ak aX (aa (ac 0) (aa (ay cq (aa (ac 2) ag)) ag))) ag) [some (.lst [.int n],.u),some (.lst L,.u),some (.lst X,.u),some (.lst Y,.u)]=some (.ok (.val d .z),[some (.lst [.int (n / (X.length:Int))],.u),some (.lst L,.u),some (.lst (X.eraseIdx (n % (X.length:Int)).toNat),.u),some (.lst Y,.u)]):=by
      have w:ak aX (aa (ac 0) (aa (ay cq (aa (ac 2) ag)) ag)) [some (.lst [.int n],.u),some (.lst L,.u),some (.lst X,.u),some (.lst Y,.u)]=some (.ok (.val (.int (n % (X.length:Int))) .z),[some (.lst [.int (n / (X.length:Int))],.u),some (.lst L,.u),some (.lst X,.u),some (.lst Y,.u)]):=by (nomatch [t],[hlen])
      exact Af rfl rfl (aq w aP) rfl rfl y rfl
     exact uj (Af rfl rfl (aq q aP) rfl rfl ap rfl)
    ·rcases Gk.mp a with h | h
     ·exact k x h
     ·rw [GK.mp h];exact l)
 refine ⟨f,M,?_,p,i⟩
 apply aL (ρ:=[some (.lst [.int n],.u),some (.lst L,.u),none,none]) rfl rfl
 ·unfold jO
  apply au (ρ1:=[some (.lst [.int n],.u),some (.lst L,.u),some (.lst L,.u),none])
  ·nofun
  apply au (ρ1:=[some (.lst [.int n],.u),some (.lst L,.u),some (.lst L,.u),some (.lst [],.u)])
  ·nofun
  apply au
  ·exact e
  ·nofun
 ·rfl
theorem ua:∀ n:Nat,n<=7->(lx n 0).length<=128
 | 0,_=>by decide +kernel
 | 1,_=>by decide +kernel
 | 2,_=>by decide +kernel
 | 3,_=>by decide +kernel
 | 4,_=>by decide +kernel
 | 5,_=>by decide +kernel
 | 6,_=>by decide +kernel
 | 7,_=>by decide +kernel
 | n+8,h=>absurd h (by omega)
abbrev rgs (ps:List Pt):List (List Nat):=(lx ps.length 0).filter (isR (sgn ps))
theorem wE {ps:List Pt} (g:GoodSh ps) (a:ps.length<=7):i7 [(Shd ps,.z)]=some (.ok (.lst (Pl (rgs ps)),.u),[(Shd ps,.z)]):=by
 have pr:=n9 ps.length g.pos a
 have ln:=iz ps
 have d:=ua ps.length a
 obtain ⟨τ',e,v,rfl⟩:=bz (bnd:=aw 0) (c:=fT) (elt:=jN) (fun τ=>∃ v,τ=[v,some (Shd ps,.z)]) (fun r:List Nat=>L3.D.tup (Nd r)) (isR (sgn ps)) (fun r:List Nat=>L3.D.tup (Nd r)) (xs:=lx ps.length 0) (τ:=[none,some (Shd ps,.z)]) ⟨none,rfl⟩ (by
  rintro r h τ ⟨v,rfl⟩
  have f:=(both g (jx ps) (t9 h)).1
  generalize isR (sgn ps) r=B at *
  generalize L3.D.tup (Nd r)=R at *
  generalize Shd ps=H at *
  refine ⟨[some (R,.z),some (H,.z)],[some (R,.z),some (H,.z)],rfl,?_,fun _=>⟨_,rfl⟩,fun _=>⟨_,_,(R,.z),[some (R,.z),some (H,.z)],aB rfl,rfl,rfl,_,rfl⟩⟩
  unfold fT
  (nomatch [f]))
 have b:jM [some (Shd ps,.z)]=some (.ok (.val (.lst (Pl (rgs ps))) .u),[some (Shd ps,.z)]):=by
  refine bc (rs:=[.val (.lst (Pl (lx ps.length 0))) .u]) (ρ1:=[some (Shd ps,.z)]) ?_ e (by rw [Go];omega) rfl
  clear e d
  unfold Pl at pr ⊢
  generalize Shd ps=H at *
  generalize L3.D.int (ps.length:Int)=N at *
  generalize (lx ps.length 0).map (fun r:List Nat=>L3.D.tup (Nd r))=A at *
  nomatch [pr],[ln]
 apply aL (ρ:=[some (Shd ps,.z)]) (ρ1:=[some (Shd ps,.z)]) rfl rfl
 ·exact bj b rfl
 ·rfl
def Bt (ps:List Pt) (d:L3.D) (b:Bool):Prop:=bC [(Shd ps,.z),(d,.z)]=some (.ok (.bl b,.z),[(Shd ps,.z),(d,.z)])/\bV [(.dt (tb ps (fu ps.length)),.u),(d,.z),(.int (ps.length:Int),.z)]=some (.ok (.bl b,.z),[(.dt (tb ps (fu ps.length)),.u),(d,.z),(.int (ps.length:Int),.z)])
theorem xW {ps:List Pt} (g:GoodSh ps) (c:ps.length<=8) {d:L3.D} (h:Bt ps d true):aO [(Shd ps,.z),(d,.z)]=some (.ok (.dt (tb ps (fu ps.length)),.u),[(Shd ps,.z),(d,.z)]):=by
 have a:=qR g c
 have ln:=iz ps
 have q:=h.2
 clear h
 generalize tb ps (fu ps.length)=T at *
 generalize Shd ps=H at *
 generalize L3.D.int (ps.length:Int)=N at *
 apply aL (ρ:=[some (H,.z),some (d,.z),none]) (ρ1:=[some (H,.z),some (d,.z),none]) rfl rfl
 ·unfold bZ
  apply au (ρ1:=[some (H,.z),some (d,.z),some (.dt T,.u)])
  ·exact mI (fY a (aq (aB rfl) aP) rfl rfl rfl) rfl (Nat.le_of_ble_eq_true rfl) rfl
  apply au (ρ1:=[some (H,.z),some (d,.z),some (.dt T,.u)])
  ·exact bW (b:=false) (bQ (ee (av q (aq (aB rfl) (aq (aB rfl) (aq (bp (aq (aB rfl) aP) rfl ln) aP))) rfl rfl rfl) rfl)) rfl rfl
  ·exact bj (aB rfl) rfl
 ·rfl
theorem xX {ps:List Pt} (g:GoodSh ps) (c:ps.length<=8) {d:L3.D} (h:Bt ps d false):aO [(Shd ps,.z),(d,.z)]=some (.error (.exc "NoRing" []),[(Shd ps,.z),(d,.z)]):=by
 have a:=qR g c
 have ln:=iz ps
 have q:=h.2
 clear h
 generalize tb ps (fu ps.length)=T at *
 generalize Shd ps=H at *
 generalize L3.D.int (ps.length:Int)=N at *
 apply AY (ρ:=[some (H,.z),some (d,.z),none]) (ρ1:=[some (H,.z),some (d,.z),some (.dt T,.u)]) rfl rfl
 ·unfold bZ
  apply au (ρ1:=[some (H,.z),some (d,.z),some (.dt T,.u)])
  ·exact mI (fY a (aq (aB rfl) aP) rfl rfl rfl) rfl (Nat.le_of_ble_eq_true rfl) rfl
  refine Ae (eK (b:=true) (bQ (ee (av q (aq (aB rfl) (aq (aB rfl) (aq (bp (aq (aB rfl) aP) rfl ln) aP))) rfl rfl rfl) rfl)) rfl ?_)
  exact CF (aq i_c aP) (by decide)
 ·rfl
theorem vJ {m:EM} {ms:M3 (List R3)} {ρ ρ1:Sto} {e:L3.D} (h:m ρ=some (.error e,ρ1)):aa m ms ρ=some (.error e,ρ1):=by simp only [aa,af,h]
theorem se {F:Fn} {ms:M3 (List R3)} {ρ ρ1:Sto} {e:L3.D} (h:ms ρ=some (.error e,ρ1)):ak F ms ρ=some (.error e,ρ1):=by simp only [ak,af,h]
theorem Fr {ps:List Pt} (g:GoodSh ps) (d:ps.length<=8) {a z:Nat} {b:List Nat} (h:Ris ps.length ([a] ++ b ++ [z])) (c:Bt ps (.tup (Nd ([a] ++ b ++ [z]))) true):bS [(Shd ps,.z),(.tup (Nd ([a] ++ b ++ [z])),.z)]=some (.ok (.tup (Nd (sd (sgn ps) a b z (1))),.z),[(Shd ps,.z),(.tup (Nd ([a] ++ b ++ [z])),.z)]):=by
 have t:=xW g d c
 have s:=lW (jx ps) h (show (sgn ps).length<=24 by have:=g.most;exact this) (way:=1)
 clear c
 generalize L3.D.tup (Nd (sd (sgn ps) a b z (1)))=W at *
 generalize L3.D.tup (Nd ([a] ++ b ++ [z]))=R at *
 generalize tb ps (fu ps.length)=T at *
 generalize Shd ps=H at *
 apply aL (ρ:=[some (H,.z),some (R,.z)]) (ρ1:=[some (H,.z),some (R,.z)]) rfl rfl
 ·unfold iq
  exact bj (av s (aq (fY t (aq (aB rfl) (aq (aB rfl) aP)) rfl rfl rfl) (aq (aB rfl) (aq i_c aP))) rfl rfl rfl) rfl
 ·rfl
theorem Fs {ps:List Pt} (g:GoodSh ps) (a:ps.length<=8) {d:L3.D} (h:Bt ps d false):bS [(Shd ps,.z),(d,.z)]=some (.error (.exc "NoRing" []),[(Shd ps,.z),(d,.z)]):=by
 have t:=xX g a h
 clear h
 generalize Shd ps=H at *
 apply AY (ρ:=[some (H,.z),some (d,.z)]) (ρ1:=[some (H,.z),some (d,.z)]) rfl rfl
 ·unfold iq
  exact pW (se (vJ (lC t (aq (aB rfl) (aq (aB rfl) aP)) rfl rfl rfl)))
 ·rfl
theorem CK {ps:List Pt} (g:GoodSh ps) (d:ps.length<=8) {a z:Nat} {b:List Nat} (h:Ris ps.length ([a] ++ b ++ [z])) (c:Bt ps (.tup (Nd ([a] ++ b ++ [z]))) true):bI [(Shd ps,.z),(.tup (Nd ([a] ++ b ++ [z])),.z)]=some (.ok (.tup (Nd (sd (sgn ps) a b z (-1))),.z),[(Shd ps,.z),(.tup (Nd ([a] ++ b ++ [z])),.z)]):=by
 have t:=xW g d c
 have s:=lW (jx ps) h (show (sgn ps).length<=24 by have:=g.most;exact this) (way:=-1)
 clear c
 generalize L3.D.tup (Nd (sd (sgn ps) a b z (-1)))=W at *
 generalize L3.D.tup (Nd ([a] ++ b ++ [z]))=R at *
 generalize tb ps (fu ps.length)=T at *
 generalize Shd ps=H at *
 apply aL (ρ:=[some (H,.z),some (R,.z)]) (ρ1:=[some (H,.z),some (R,.z)]) rfl rfl
 ·unfold fW
  exact bj (av s (aq (fY t (aq (aB rfl) (aq (aB rfl) aP)) rfl rfl rfl) (aq (aB rfl) (aq i_c aP))) rfl rfl rfl) rfl
 ·rfl
theorem CL {ps:List Pt} (g:GoodSh ps) (a:ps.length<=8) {d:L3.D} (h:Bt ps d false):bI [(Shd ps,.z),(d,.z)]=some (.error (.exc "NoRing" []),[(Shd ps,.z),(d,.z)]):=by
 have t:=xX g a h
 clear h
 generalize Shd ps=H at *
 apply AY (ρ:=[some (H,.z),some (d,.z)]) (ρ1:=[some (H,.z),some (d,.z)]) rfl rfl
 ·unfold fW
  exact pW (se (vJ (lC t (aq (aB rfl) (aq (aB rfl) aP)) rfl rfl rfl)))
 ·rfl
theorem Ai (k S d:L3.D):kW [some (k,.z),some (S,.z),some (d,.z),some (.exc "NoRing" [],.z)]=some (.ok (.rt (.str "ring") .z),[some (k,.z),some (S,.z),some (d,.z),some (.exc "NoRing" [],.z)]):=by kernel_rfl
theorem Bv {H d W:L3.D} (t:bS [(H,.z),(d,.z)]=some (.ok (W,.z),[(H,.z),(d,.z)])):b9 [(.int 0,.z),(H,.z),(d,.z)]=some (.ok (W,.z),[(.int 0,.z),(H,.z),(d,.z)]):=by
 have a:eqX (.int 0) (.int 0)=some (.bl true,.z):=rfl
 apply aL (ρ:=[some (.int 0,.z),some (H,.z),some (d,.z),none]) (ρ1:=[some (.int 0,.z),some (H,.z),some (d,.z),none]) rfl rfl
 ·unfold iw dg
  refine Ac ?_
  exact fD (eK (b:=true) (ee (eL (aB rfl) i_c rfl rfl a) rfl) rfl (bj (fY t (aq (aB rfl) (aq (aB rfl) aP)) rfl rfl rfl) rfl))
 ·rfl
theorem Bx {H d:L3.D} (t:bS [(H,.z),(d,.z)]=some (.error (.exc "NoRing" []),[(H,.z),(d,.z)])):b9 [(.int 0,.z),(H,.z),(d,.z)]=some (.ok (.str "ring",.z),[(.int 0,.z),(H,.z),(d,.z)]):=by
 have a:eqX (.int 0) (.int 0)=some (.bl true,.z):=rfl
 apply aL (ρ:=[some (.int 0,.z),some (H,.z),some (d,.z),none]) (ρ1:=[some (.int 0,.z),some (H,.z),some (d,.z),some (.exc "NoRing" [],.z)]) rfl rfl
 ·unfold iw dg
  refine Ad (ρ1:=[some (.int 0,.z),some (H,.z),some (d,.z),none]) ?_ (by decide) (Ai (.int 0) H d)
  exact Ae (eK (b:=true) (ee (eL (aB rfl) i_c rfl rfl a) rfl) rfl (pW (lC t (aq (aB rfl) (aq (aB rfl) aP)) rfl rfl rfl)))
 ·rfl
theorem Bu {H d W:L3.D} (t:bI [(H,.z),(d,.z)]=some (.ok (W,.z),[(H,.z),(d,.z)])):b9 [(.int 1,.z),(H,.z),(d,.z)]=some (.ok (W,.z),[(.int 1,.z),(H,.z),(d,.z)]):=by
 have a:eqX (.int 1) (.int 0)=some (.bl false,.z):=rfl
 apply aL (ρ:=[some (.int 1,.z),some (H,.z),some (d,.z),none]) (ρ1:=[some (.int 1,.z),some (H,.z),some (d,.z),none]) rfl rfl
 ·unfold iw dg
  refine Ac ?_
  exact au (bW (b:=false) (ee (eL (aB rfl) i_c rfl rfl a) rfl) rfl rfl) (bj (fY t (aq (aB rfl) (aq (aB rfl) aP)) rfl rfl rfl) rfl)
 ·rfl
theorem Bw {H d:L3.D} (t:bI [(H,.z),(d,.z)]=some (.error (.exc "NoRing" []),[(H,.z),(d,.z)])):b9 [(.int 1,.z),(H,.z),(d,.z)]=some (.ok (.str "ring",.z),[(.int 1,.z),(H,.z),(d,.z)]):=by
 have a:eqX (.int 1) (.int 0)=some (.bl false,.z):=rfl
 apply aL (ρ:=[some (.int 1,.z),some (H,.z),some (d,.z),none]) (ρ1:=[some (.int 1,.z),some (H,.z),some (d,.z),some (.exc "NoRing" [],.z)]) rfl rfl
 ·unfold iw dg
  refine Ad (ρ1:=[some (.int 1,.z),some (H,.z),some (d,.z),none]) ?_ (by decide) (Ai (.int 1) H d)
  exact au (bW (b:=false) (ee (eL (aB rfl) i_c rfl rfl a) rfl) rfl rfl) (pW (lC t (aq (aB rfl) (aq (aB rfl) aP)) rfl rfl rfl))
 ·rfl
def ov:List L3.D:=[.non,.bl true,.bl false,.int 0,.int (-1),.int 1,.str "",.str "1",.tup [],.lst [],.tup [.int 0],.tup [.int 0,.int 1],.lst [.int 0],.dk [(.inr "a",.int 1)],.int 100000000000000000000000000000,.tup [.tup [.int 0,.int 0]],.tup [.tup [.int 0,.int 1],.tup [.int 1,.int 2]],.str "0,0",.tup [.int 0,.int 1,.int 2],.dt [([.inl 0,.inl 1],.int 2)]]
def vals:List L3.D:=ov ++ [.non,.lst [.int 0,.int 1,.int 2],.tup [.int 0,.int 1],.tup [.bl true,.int 2,.int 3]]
def okv (n:Nat):L3.D->Bool
 | .tup []=>true
 | .tup [.int 0]=>Nat.ble 1 n
 | .tup [.int 0,.int 1]=>Nat.ble 2 n
 | .tup [.int 0,.int 1,.int 2]=>Nat.ble 3 n
 | _=>false
theorem Cd {n:Nat} {d:L3.D} (h:okv n d=true):∃ r,d=.tup (Nd r)/\Ris n r:=by
 unfold okv at h
 split at h
 ·exact ⟨[],rfl,.nil,fun x a=>by cases a⟩
 ·have:=Nat.le_of_ble_eq_true h
  exact ⟨[0],rfl,by simp,fun x a=>by simp at a;omega⟩
 ·have:=Nat.le_of_ble_eq_true h
  exact ⟨[0,1],rfl,by simp,fun x a=>by simp at a;omega⟩
 ·have:=Nat.le_of_ble_eq_true h
  exact ⟨[0,1,2],rfl,by simp,fun x a=>by simp at a;omega⟩
 ·cases h
theorem va1:vals.map (fun v=>aY [(v,.z),(.int (1:Int),.z)])=vals.map (fun v=>some (.ok (.bl (okv 1 v),.z),[(v,.z),(.int (1:Int),.z)])):=by kernel_rfl
theorem vb1:vals.map (fun v=>aA [(v,.z),(.int (1:Int),.z)])=vals.map (fun v=>some (.ok (.bl (okv 1 v),.z),[(v,.z),(.int (1:Int),.z)])):=by kernel_rfl
theorem va2:vals.map (fun v=>aY [(v,.z),(.int (2:Int),.z)])=vals.map (fun v=>some (.ok (.bl (okv 2 v),.z),[(v,.z),(.int (2:Int),.z)])):=by kernel_rfl
theorem vb2:vals.map (fun v=>aA [(v,.z),(.int (2:Int),.z)])=vals.map (fun v=>some (.ok (.bl (okv 2 v),.z),[(v,.z),(.int (2:Int),.z)])):=by kernel_rfl
theorem va3:vals.map (fun v=>aY [(v,.z),(.int (3:Int),.z)])=vals.map (fun v=>some (.ok (.bl (okv 3 v),.z),[(v,.z),(.int (3:Int),.z)])):=by kernel_rfl
theorem vb3:vals.map (fun v=>aA [(v,.z),(.int (3:Int),.z)])=vals.map (fun v=>some (.ok (.bl (okv 3 v),.z),[(v,.z),(.int (3:Int),.z)])):=by kernel_rfl
theorem va4:vals.map (fun v=>aY [(v,.z),(.int (4:Int),.z)])=vals.map (fun v=>some (.ok (.bl (okv 4 v),.z),[(v,.z),(.int (4:Int),.z)])):=by kernel_rfl
theorem vb4:vals.map (fun v=>aA [(v,.z),(.int (4:Int),.z)])=vals.map (fun v=>some (.ok (.bl (okv 4 v),.z),[(v,.z),(.int (4:Int),.z)])):=by kernel_rfl
theorem va5:vals.map (fun v=>aY [(v,.z),(.int (5:Int),.z)])=vals.map (fun v=>some (.ok (.bl (okv 5 v),.z),[(v,.z),(.int (5:Int),.z)])):=by kernel_rfl
theorem vb5:vals.map (fun v=>aA [(v,.z),(.int (5:Int),.z)])=vals.map (fun v=>some (.ok (.bl (okv 5 v),.z),[(v,.z),(.int (5:Int),.z)])):=by kernel_rfl
theorem va6:vals.map (fun v=>aY [(v,.z),(.int (6:Int),.z)])=vals.map (fun v=>some (.ok (.bl (okv 6 v),.z),[(v,.z),(.int (6:Int),.z)])):=by kernel_rfl
theorem vb6:vals.map (fun v=>aA [(v,.z),(.int (6:Int),.z)])=vals.map (fun v=>some (.ok (.bl (okv 6 v),.z),[(v,.z),(.int (6:Int),.z)])):=by kernel_rfl
theorem va7:vals.map (fun v=>aY [(v,.z),(.int (7:Int),.z)])=vals.map (fun v=>some (.ok (.bl (okv 7 v),.z),[(v,.z),(.int (7:Int),.z)])):=by kernel_rfl
theorem vb7:vals.map (fun v=>aA [(v,.z),(.int (7:Int),.z)])=vals.map (fun v=>some (.ok (.bl (okv 7 v),.z),[(v,.z),(.int (7:Int),.z)])):=by kernel_rfl
theorem v_at:∀ n:Nat,1<=n->n<=7->∀ v ∈ vals,aY [(v,.z),(.int (n:Int),.z)]=some (.ok (.bl (okv n v),.z),[(v,.z),(.int (n:Int),.z)])/\aA [(v,.z),(.int (n:Int),.z)]=some (.ok (.bl (okv n v),.z),[(v,.z),(.int (n:Int),.z)])
 | 0,h,_=>absurd h (by decide)
 | 1,_,_=>fun v a=>⟨List.map_inj_left.mp va1 v a,List.map_inj_left.mp vb1 v a⟩
 | 2,_,_=>fun v a=>⟨List.map_inj_left.mp va2 v a,List.map_inj_left.mp vb2 v a⟩
 | 3,_,_=>fun v a=>⟨List.map_inj_left.mp va3 v a,List.map_inj_left.mp vb3 v a⟩
 | 4,_,_=>fun v a=>⟨List.map_inj_left.mp va4 v a,List.map_inj_left.mp vb4 v a⟩
 | 5,_,_=>fun v a=>⟨List.map_inj_left.mp va5 v a,List.map_inj_left.mp vb5 v a⟩
 | 6,_,_=>fun v a=>⟨List.map_inj_left.mp va6 v a,List.map_inj_left.mp vb6 v a⟩
 | 7,_,_=>fun v a=>⟨List.map_inj_left.mp va7 v a,List.map_inj_left.mp vb7 v a⟩
 | n+8,_,h=>absurd h (by omega)
theorem uH {ps:List Pt} (g:GoodSh ps) {r:List Nat} (h:Ris ps.length r):Bt ps (.tup (Nd r)) (isR (sgn ps) r):=both g (jx ps) h
theorem m4 {ps:List Pt} (g:GoodSh ps) (e:ps.length<=7) {v:L3.D} (i:v ∈ vals):∃ b,Bt ps v b:=by
 obtain ⟨c,a⟩:=v_at ps.length g.pos e v i
 cases d:okv ps.length v with
 | true =>
  obtain ⟨r,rfl,h⟩:=Cd d
  exact ⟨_,uH g h⟩
 | false =>
  rw [d] at c a
  have f:=iz ps
  refine ⟨false,?_,?_⟩
  ·generalize L3.D.int (ps.length:Int)=LN at *
   generalize Shd ps=H at *
   apply aL (ρ:=[some (H,.z),some (v,.z)]) (ρ1:=[some (H,.z),some (v,.z)]) rfl rfl
   ·unfold eG
    refine fD (eK (b:=true) (Dp (b:=true) ?_ rfl) rfl (bj i_c rfl))
    exact bQ (ee (av c (aq (aB rfl) (aq (bp (aq (aB rfl) aP) rfl f) aP)) rfl rfl rfl) rfl)
   ·rfl
  ·generalize tb ps (fu ps.length)=T at *
   generalize L3.D.int (ps.length:Int)=LN at *
   apply aL (ρ:=[some (.dt T,.u),some (v,.z),some (LN,.z)]) (ρ1:=[some (.dt T,.u),some (v,.z),some (LN,.z)]) rfl rfl
   ·unfold fV
    refine fD (eK (b:=true) (Dp (b:=true) ?_ rfl) rfl (bj i_c rfl))
    exact bQ (ee (av a (aq (aB rfl) (aq (aB rfl) aP)) rfl rfl rfl) rfl)
   ·rfl
theorem ov_at (i:Nat) (h:i < 20):∃ v,aF (.lst ov) (.int (i:Int))=some (v,.z)/\v ∈ ov:=by
 have a:i < ov.length:=h
 exact ⟨ov[i],pg (by
  unfold L2.atI L2.ixN
  rw [if_pos (by omega),if_pos (by omega)]
  simp [a]),List.getElem_mem a⟩
theorem Bz {n m:Int} {j v:L3.D} (t:aX [(.lst [.int n],.u),(.int 20,.z)]=some (.ok (j,.z),[(.lst [.int m],.u),(.int 20,.z)])) (h:aF (.lst ov) j=some (v,.z)):lG [(.lst [.int n],.u)]=some (.ok (v,.z),[(.lst [.int m],.u)]):=by
 have a:∀ B:L3.D,(a7 1 (cn (aa (mC .non) (aa (mC (.bl true)) (aa (mC (.bl false)) (aa (mC (.int 0)) (aa (mUn jo (mC (.int 1))) (aa (mC (.int 1)) (aa (mC (.str "")) (aa (mC (.str "1")) (aa (bU ag) (aa (cn ag) (aa (bU (aa (mC (.int 0)) ag)) (aa (bU (aa (mC (.int 0)) (aa (mC (.int 1)) ag))) (aa (cn (aa (mC (.int 0)) ag)) (aa (Fp (.inr "a") 1) ag)))))))))))))))) [some (B,.u),none]=some (.ok .nx,[some (B,.u),some (.lst (ov.take 14),.u)]):=fun B=>by kernel_rfl
 have b:∀ B:L3.D,(a7 1 (aj bH (ac 1) (cn (aa (aj tO (mC (.int 10)) (mC (.int 29))) (aa (bU (aa (bU (aa (mC (.int 0)) (aa (mC (.int 0)) ag))) ag)) (aa (bU (aa (bU (aa (mC (.int 0)) (aa (mC (.int 1)) ag))) (aa (bU (aa (mC (.int 1)) (aa (mC (.int 2)) ag))) ag))) (aa (mC (.str "0,0")) (aa (bU (aa (mC (.int 0)) (aa (mC (.int 1)) (aa (mC (.int 2)) ag)))) (aa (Fo [0,1] 2) ag))))))))) [some (B,.u),some (.lst (ov.take 14),.u)]=some (.ok .nx,[some (B,.u),some (.lst ov,.u)]):=fun B=>by kernel_rfl
 have a:=a (.lst [.int n])
 have b:=b (.lst [.int n])
 generalize L3.D.lst (ov.take 14)=S7 at *
 generalize L3.D.lst ov=SV at *
 apply aL (ρ:=[some (.lst [.int n],.u),none]) (ρ1:=[some (.lst [.int m],.u),some (SV,.u)]) rfl rfl
 ·unfold vC
  refine au a ?_
  refine au b ?_
  apply bj
  ·nomatch [t],[h]
  ·rfl
 ·rfl
theorem qZ {m:Nat}:∀ {ts:List Str},(∀ t ∈ ts,t.length<=m)->piled ts<=ts.length * (m+2)
 | [],_=>by simp [piled]
 | t :: ts,h=>by
  have h1:=h t Ga
  have h2:=qZ (ts:=ts) fun u hu=>h u (Gb _ hu)
  rw [piled_cons,GG,Nat.succ_mul]
  omega
theorem sV {m:Nat} {ts:List Str} (h:∀ t ∈ ts,t.length<=m):(tupleText ts).length<=ts.length * (m+2)+3:=by
 have c:=qZ h
 have a:(Str.join ", " ts).length<=ts.length * (m+2):=by
  by_cases e:ts=[]
  ·subst e;exact Nat.zero_le _
  ·have:=join_length_add ts e
   omega
 unfold tupleText
 rw [strLen_append,strLen_append]
 have e1:(("(":String):Str).length=1:=rfl
 have b:((if ts.length == 1 then ",)" else ")":String):Str).length<=2:=by
  cases ts.length == 1 <;> decide
 omega
theorem vn:∀ l:List Nat,jm (Nd l)=some (l.map fun (i:Nat)=>PyData.int (i:Int))
 | []=>rfl
 | x :: l=>by
  have a:=vn l
  show (match pyD (.int (x:Int)),jm (Nd l) with | some p,some ps=>some (p :: ps) | _,_=>none)=_
  rw [a];rfl
theorem qM (xs:List PyData):PyData.shownAll xs=xs.map PyData.shown:=by
 induction xs with
 | nil=>simp only [PyData.shownAll,List.map_nil]
 | cons x xs ih=>simp only [PyData.shownAll,Gz,ih]
theorem oQ:∀ {l:List Nat},(∀ x ∈ l,x < 1000)->PyData.showableAll (l.map fun (i:Nat)=>PyData.int (i:Int))=true/\PyData.hasDictAll (l.map fun (i:Nat)=>PyData.int (i:Int))=false/\PyData.depthAll (l.map fun (i:Nat)=>PyData.int (i:Int))=0
 | [],_=>⟨by simp [PyData.showableAll],by simp [PyData.hasDictAll],by simp [PyData.depthAll]⟩
 | x :: l,h=>by
  obtain ⟨h1,h2,h3⟩:=oQ (l:=l) fun u hu=>h u (Gb _ hu)
  have b:=h x Ga
  have a:(x:Int).natAbs.log2 < 1920:=by
   by_cases h0:x=0
   ·subst h0;decide
   ·have:(x:Int).natAbs=x:=by omega
    rw [this,Nat.log2_lt h0]
    exact GC b (GQ (by decide:1000<=2 ^ 10) (Nat.pow_le_pow_right (by decide:0 < 2) (by decide:10<=1920)))
  refine ⟨?_,?_,?_⟩
  ·simp only [Gz,PyData.showableAll,PyData.showable,h1,GA a,Bool.and_self]
  ·simp only [Gz,PyData.hasDictAll,PyData.hasDict,h2,Bool.or_self]
  ·simp only [Gz,PyData.depthAll,PyData.depth,h3,Nat.max_self]
theorem u7 {l:List Nat} (h:∀ x ∈ l,x < 1000) (d:l.length<=1000):∃ s,om [.tup (Nd l)]=some (.str s,.z):=by
 obtain ⟨h1,h2,h3⟩:=oQ h
 refine ⟨(PyData.tuple (l.map fun (i:Nat)=>PyData.int (i:Int))).shown,?_⟩
 have c:(PyData.tuple (l.map fun (i:Nat)=>PyData.int (i:Int))).shown.length<=16777216:=by
  have e:(PyData.tuple (l.map fun (i:Nat)=>PyData.int (i:Int))).shown=tupleText (PyData.shownAll (l.map fun (i:Nat)=>PyData.int (i:Int))):=by simp only [PyData.shown]
  rw [e,qM]
  have:=sV (m:=20) (ts:=(l.map fun (i:Nat)=>PyData.int (i:Int)).map PyData.shown) (fun t b=>by
   obtain ⟨p,a,rfl⟩:=Gs.mp b
   obtain ⟨i,hi,rfl⟩:=Gs.mp a
   have:=h i hi
   simp only [PyData.shown]
   exact zJ (by omega) (by omega))
  rw [Go,Go] at this
  omega
 show (pyD (.tup (Nd l))).bind nX=_
 have a:pyD (.tup (Nd l))=some (.tuple (l.map fun (i:Nat)=>PyData.int (i:Int))):=by
  show (jm (Nd l)).map _=_
  rw [vn];rfl
 rw [a]
 show nX _=_
 unfold nX
 simp only [PyData.showable,PyData.hasDict,PyData.depth,h1,h2,h3]
 rw [if_pos]
 rw [GA c];rfl
theorem zN (s:Str):neX (.str s) (.str s)=some (.bl false,.z):=by
 simp [eqA,eqS]
theorem Dd {ps:List Pt} {r:List Nat} (h:r ∈ rgs ps):Ris ps.length r/\isR (sgn ps) r=true/\3<=r.length:=by
 obtain ⟨h1,h2⟩:=GM.mp h
 refine ⟨t9 h1,h2,?_⟩
 unfold isR at h2
 split at h2
 ·assumption
 ·cases h2
theorem wK {ps:List Pt} (g:GoodSh ps) (t:ps.length<=7) {r:List Nat} (n:r ∈ rgs ps) {S L B:L3.D} {v4 v6 v7 v8:Option (L3.D × Fl)}:ir [some (S,.z),some (L,.z),some (B,.u),some (Shd ps,.z),v4,some (.tup (Nd r),.z),v6,v7,v8]=some (.ok .nx,[some (S,.z),some (L,.z),some (B,.u),some (Shd ps,.z),v4,some (.tup (Nd r),.z),v6,v7,v8]):=by
 obtain ⟨h,j,h3⟩:=Dd n
 have d:=uH g h
 rw [j] at d
 obtain ⟨a,c,z,rfl,hm⟩:=q9 h3
 have f0:=Bv (Fr g (by omega) h d)
 have f1:=Bu (CK g (by omega) h d)
 have s0:=iX g h (b:=true)
 have s1:=iX g h (b:=false)
 rw [show way true=1 from rfl] at s0
 rw [show way false = -1 from rfl] at s1
 have i:=lS (s:=sgn ps) (way:=1) h
 have f:=lS (s:=sgn ps) (way:=-1) h
 have m:=i.len
 have k:=f.len
 change _<=ps.length at m k
 obtain ⟨t0,o⟩:=u7 (l:=sd (sgn ps) a c z 1) (fun x e=>by have:=i.lt x e;change x < ps.length at this;omega) (by omega)
 obtain ⟨t1,e1⟩:=u7 (l:=sd (sgn ps) a c z (-1)) (fun x e=>by have:=f.lt x e;change x < ps.length at this;omega) (by omega)
 have p:=zN t0
 have q:=zN t1
 clear d i f m k j h n
 generalize L3.D.tup (Nd (sd (sgn ps) a c z 1))=W0 at *
 generalize L3.D.tup (Nd (sd (sgn ps) a c z (-1)))=W1 at *
 generalize L3.D.tup (Nd ([a] ++ c ++ [z]))=R at *
 generalize Shd ps=H at *
 unfold ir
 apply au (ρ1:=[some (S,.z),some (L,.z),some (B,.u),some (H,.z),v4,some (R,.z),v6,v7,v8])
 ·refine bW (b:=false) ?_ rfl rfl
  nomatch [f0,s0],[o,p]
 ·refine bW (b:=false) ?_ rfl rfl
  nomatch [f1,s1],[e1,q]
theorem wJ {ps:List Pt} (g:GoodSh ps) (c:ps.length<=7) {ds:List L3.D} (hd:∀ d ∈ ds,Kd (· ∈ rgs ps) d) {S L B:L3.D} {v4 v5 v6 v7 v8:Option (L3.D × Fl)}:∃ a,cQ (aw 5) ir ds [some (S,.z),some (L,.z),some (B,.u),some (Shd ps,.z),v4,v5,v6,v7,v8]=some (.ok .nx,[some (S,.z),some (L,.z),some (B,.u),some (Shd ps,.z),v4,a,v6,v7,v8]):=by
 obtain ⟨ρ',e,a,rfl⟩:=b7 (bnd:=aw 5) (b:=ir) (fun _ ρ=>∃ a,ρ=[some (S,.z),some (L,.z),some (B,.u),some (Shd ps,.z),v4,a,v6,v7,v8]) (ds:=ds) (ρ:=[some (S,.z),some (L,.z),some (B,.u),some (Shd ps,.z),v4,v5,v6,v7,v8]) (k:=0) ⟨_,rfl⟩ (by
  rintro i d ρ hi ⟨a,rfl⟩
  obtain ⟨r,f,rfl⟩:=hd d (Gq hi)
  exact ⟨_,_,rfl,.inl (wK g c f),_,rfl⟩)
 exact ⟨a,e⟩
theorem FN {xs:List L3.D} {d:L3.D} {lo hi:Option Int} (h:d ∈ fj xs lo hi):d ∈ xs:=by
 unfold fj at h
 first | exact List.mem_of_mem_drop (List.mem_of_mem_take h) | exact List.mem_of_mem_take (List.mem_of_mem_drop h)
abbrev Ni (r:List Nat):List Int:=r.map fun x:Nat=>(x:Int)
theorem uQ:∀ l:List (List Nat),tupsI (Pl l)=some (l.map Ni)
 | []=>rfl
 | r :: l=>by
  have a:=uQ l
  show (match aT (Nd r),tupsI (Pl l) with | some ns,some m=>some (ns :: m) | _,_=>none)=_
  rw [lB,a]
  rfl
def jJ (ps:List Pt) (r:List Nat):Bool:=!decide (Ni r ∈ (rgs ps).map Ni)
theorem Fe (ps:List Pt) (r:List Nat):Ff (.tup (Nd r)) (.lst (Pl (rgs ps)))=some (.bl (jJ ps r),.z):=by
 show (match aT (Nd r),tupsI (Pl (rgs ps)) with | some ks,some nss=>some (L3.D.bl (!decide (ks ∈ nss)),Fl.z) | _,_=>none)=_
 rw [lB,uQ]
 rfl
theorem zB (ps:List Pt):jJ ps []=true:=by
 unfold jJ
 rw [Bool.not_eq_true',decide_eq_false_iff_not]
 intro h
 obtain ⟨r,a,e⟩:=Gs.mp h
 have h3:=(Dd a).2.2
 simp_all
abbrev rst (ps:List Pt):List (List Nat):=(lx ps.length 0).filter (jJ ps)
theorem BE (ps:List Pt):0 < (rst ps).length:=by
 obtain ⟨l,e⟩:=Fq ps.length
 have:[] ∈ rst ps:=GM.mpr ⟨by rw [e];exact Ga,zB ps⟩
 exact List.length_pos_of_mem this
theorem By {ps:List Pt} (g:GoodSh ps) (a:ps.length<=7) {S L B:L3.D} {v5 v6 v7 v8:Option (L3.D × Fl)}:rP [some (S,.z),some (L,.z),some (B,.u),some (Shd ps,.z),some (.lst (Pl (rgs ps)),.u),v5,v6,v7,v8]=some (.ok (.val (.lst (Pl (rst ps))) .u),[some (S,.z),some (L,.z),some (B,.u),some (Shd ps,.z),some (.lst (Pl (rgs ps)),.u),v5,v6,v7,v8]):=by
 have pr:=n9 ps.length g.pos a
 have ln:=iz ps
 have b:=ua ps.length a
 obtain ⟨τ',e,v,rfl⟩:=bz (bnd:=aw 0) (c:=my) (elt:=rQ) (fun τ=>∃ v,τ=[v,some (.lst (Pl (rgs ps)),.u)]) (fun r:List Nat=>L3.D.tup (Nd r)) (jJ ps) (fun r:List Nat=>L3.D.tup (Nd r)) (xs:=lx ps.length 0) (τ:=[none,some (.lst (Pl (rgs ps)),.u)]) ⟨none,rfl⟩ (by
  rintro r d τ ⟨v,rfl⟩
  have f:=Fe ps r
  generalize jJ ps r=B at *
  generalize L3.D.tup (Nd r)=R at *
  generalize L3.D.lst (Pl (rgs ps))=G at *
  refine ⟨[some (R,.z),some (G,.u)],[some (R,.z),some (G,.u)],rfl,?_,fun _=>⟨_,rfl⟩,fun _=>⟨_,_,(R,.z),[some (R,.z),some (G,.u)],aB rfl,rfl,rfl,_,rfl⟩⟩
  unfold my
  (exists f))
 generalize h:L3.D.lst (Pl (rgs ps))=G at *
 refine bc (rs:=[.val (.lst (Pl (lx ps.length 0))) .u]) (ρ1:=[some (S,.z),some (L,.z),some (B,.u),some (Shd ps,.z),some (G,.u),v5,v6,v7,v8]) ?_ e (by rw [Go];omega) rfl
 clear e b
 unfold Pl at pr ⊢
 generalize Shd ps=H at *
 generalize L3.D.int (ps.length:Int)=N at *
 generalize (lx ps.length 0).map (fun r:List Nat=>L3.D.tup (Nd r))=A at *
 nomatch [pr],[ln]
theorem sZ {ps:List Pt} (g:GoodSh ps) (c:ps.length<=7) {d:L3.D} {b:Bool} (a:Bt ps d b) {S L B:L3.D} {v4 v5 v6 v7:Option (L3.D × Fl)}:fg [some (S,.z),some (L,.z),some (B,.u),some (Shd ps,.z),v4,v5,v6,v7,some (d,.z)]=some (.ok .nx,[some (S,.z),some (L,.z),some (B,.u),some (Shd ps,.z),v4,v5,v6,v7,some (d,.z)]):=by
 have r:=a.1
 cases b with
 | true =>
  generalize Shd ps=H at *
  unfold fg
  exact bW (b:=false) (bQ (ee (av r (aq (aB rfl) (aq (aB rfl) aP)) rfl rfl rfl) rfl)) rfl rfl
 | false =>
  have f0:=Bx (Fs g (by omega) a)
  have f1:=Bw (CL g (by omega) a)
  have z:neX (.str "ring") (.str "ring")=some (.bl false,.z):=by kernel_rfl
  clear a
  generalize Shd ps=H at *
  unfold fg
  refine eK (b:=true) (bQ (ee (av r (aq (aB rfl) (aq (aB rfl) aP)) rfl rfl rfl) rfl)) rfl ?_
  refine bW (b:=false) (jf (b:=false) (ρ1:=[some (S,.z),some (L,.z),some (B,.u),some (H,.z),v4,v5,v6,v7,some (d,.z)]) ?_ rfl ?_) rfl rfl
  ·nomatch [f0],[z]
  ·nomatch [f1],[z]
theorem sY {ps:List Pt} (g:GoodSh ps) (c:ps.length<=7) {ds:List L3.D} (hd:∀ d ∈ ds,∃ b,Bt ps d b) {S L B:L3.D} {v4 v5 v6 v7 v8:Option (L3.D × Fl)}:∃ a,cQ (aw 8) fg ds [some (S,.z),some (L,.z),some (B,.u),some (Shd ps,.z),v4,v5,v6,v7,v8]=some (.ok .nx,[some (S,.z),some (L,.z),some (B,.u),some (Shd ps,.z),v4,v5,v6,v7,a]):=by
 obtain ⟨ρ',e,a,rfl⟩:=b7 (bnd:=aw 8) (b:=fg) (fun _ ρ=>∃ a,ρ=[some (S,.z),some (L,.z),some (B,.u),some (Shd ps,.z),v4,v5,v6,v7,a]) (ds:=ds) (ρ:=[some (S,.z),some (L,.z),some (B,.u),some (Shd ps,.z),v4,v5,v6,v7,v8]) (k:=0) ⟨_,rfl⟩ (by
  rintro i d ρ hi ⟨a,rfl⟩
  obtain ⟨b,f⟩:=hd d (Gq hi)
  exact ⟨_,_,rfl,.inl (sZ g c f),_,rfl⟩)
 exact ⟨a,e⟩
theorem z6 {ns:List Int} (k:Nat) {v2 v3 v4 v5 v6 v7 v8:Option (L3.D × Fl)}:∃ O R T e U F p,jL [some (.fls (ns.map .int),.z),some (.int k,.z),v2,v3,v4,v5,v6,v7,v8]=some (.ok .nx,[some (.fls (ns.map .int),.z),some (.int k,.z),O,R,T,e,U,F,p]):=by
 obtain ⟨n,I⟩:=BD ns k
 obtain ⟨v,ps,es,g,gm⟩:=wC n 7 (by decide) (by decide)
 have c:ps.length<=7:=by omega
 have E:=wE g c
 have J:=ua ps.length c
 obtain ⟨f,M,em,K,Z⟩:=wH (Q:=(· ∈ rgs ps)) v (Pl (rgs ps)) (fun d hd=>by
  obtain ⟨r,w,rfl⟩:=Gs.mp hd
  exact ⟨r,w,rfl⟩) (by
  rw [Go]
  exact GQ (List.length_filter_le (isR (sgn ps)) (lx ps.length 0)) (by omega))
 have t0:=ie f 20 (by decide)
 obtain ⟨a,P,y⟩:∃ x:Nat,x < 20/\f % 20=(x:Int):=⟨(f % 20).toNat,by omega,by omega⟩
 rw [y] at t0
 clear y
 generalize f / 20=h at *
 obtain ⟨V,Y,hm⟩:=ov_at a P
 have W:=Bz t0 Y
 have rp:=BE ps
 have rl:(rst ps).length<=128:=GQ (List.length_filter_le _ _) J
 have t1:=ie h ((rst ps).length:Int) (by omega)
 obtain ⟨i,hi,C⟩:∃ x:Nat,x < (rst ps).length/\h % ((rst ps).length:Int)=(x:Int):=⟨(h % ((rst ps).length:Int)).toNat,by have:=cN h ((rst ps).length:Int) (by omega);omega,by have:=cN h ((rst ps).length:Int) (by omega);omega⟩
 rw [C] at t1
 clear C
 generalize h / ((rst ps).length:Int)=n5 at *
 have j:cq [.lst (Pl (rst ps))]=some (.int ((rst ps).length:Int),.z):=by simp only [mD,c1,Go]
 obtain ⟨t,x1⟩:∃ r,(rst ps)[i]?=some r:=⟨_,Gi hi⟩
 obtain ⟨s,A⟩:∃ r,(rst ps)[(rst ps).length - 1]?=some r:=⟨_,Gi (by omega)⟩
 have g1:aF (.lst (Pl (rst ps))) (.int (i:Int))=some (.tup (Nd t),.z):=pg (qo (by rw [Gu,x1];rfl))
 have g2:aF (.lst (Pl (rst ps))) (.int (-1))=some (.tup (Nd s),.z):=pg (qp (by rw [Go,Gu,A];rfl))
 have l:∀ d ∈ ([.tup (Nd t),.tup (Nd s),.non,.lst [.int 0,.int 1,.int 2],.tup [.int 0,.int 1],.tup [.bl true,.int 2,.int 3],V]:List L3.D),∃ b,Bt ps d b:=by
  have v1:∀ {r:List Nat},r ∈ rst ps->∃ b,Bt ps (.tup (Nd r)) b:=fun w=>⟨_,uH g (t9 (GM.mp w).1)⟩
  intro d hd
  simp only [Gh,List.not_mem_nil,or_false] at hd
  rcases hd with rfl | rfl | rfl | rfl | rfl | rfl | rfl
  ·exact v1 (Gq x1)
  ·exact v1 (Gq A)
  ·exact m4 g c (by simp [vals])
  ·exact m4 g c (by simp [vals])
  ·exact m4 g c (by simp [vals])
  ·exact m4 g c (by simp [vals])
  ·exact m4 g c (Gf _ hm)
 generalize L3.D.fls (ns.map .int)=S at *
 generalize L3.D.int (k:Int)=L at *
 have sl:slD (.lst M) none (some 8)=some (.lst (fj M none (some 8)),.u):=rfl
 obtain ⟨e,o⟩:=wJ g c (ds:=fj M none (some 8)) (fun d hd=>K d (FN hd)) (S:=S) (L:=L) (B:=.lst [.int f]) (v4:=some (.lst (Pl (rgs ps)),.u)) (v5:=v5) (v6:=v6) (v7:=v7) (v8:=v8)
 have m:=By g c (S:=S) (L:=L) (B:=.lst [.int f]) (v5:=e) (v6:=v6) (v7:=v7) (v8:=v8)
 obtain ⟨p,q⟩:=sY g c l (S:=S) (L:=L) (B:=.lst [.int n5]) (v4:=some (.lst (Pl (rgs ps)),.u)) (v5:=e) (v6:=some (.lst (Pl (rst ps)),.u)) (v7:=some (V,.z)) (v8:=v8)
 refine ⟨some (.lst [.int n5],.u),some (Shd ps,.z),some (.lst (Pl (rgs ps)),.u),e,some (.lst (Pl (rst ps)),.u),some (V,.z),p,?_⟩
 unfold jL
 apply au (ρ1:=[some (S,.z),some (L,.z),some (.lst [.int n],.u),v3,v4,v5,v6,v7,v8])
 ·nomatch [I]
 apply au (ρ1:=[some (S,.z),some (L,.z),some (.lst [.int v],.u),some (Shd ps,.z),v4,v5,v6,v7,v8])
 ·nomatch [es]
 apply au (ρ1:=[some (S,.z),some (L,.z),some (.lst [.int v],.u),some (Shd ps,.z),some (.lst (Pl (rgs ps)),.u),v5,v6,v7,v8])
 ·exact mI (av E (aq (aB rfl) aP) rfl rfl rfl) rfl (Nat.le_of_ble_eq_true rfl) rfl
 clear E
 apply au (ρ1:=[some (S,.z),some (L,.z),some (.lst [.int f],.u),some (Shd ps,.z),some (.lst (Pl (rgs ps)),.u),e,v6,v7,v8])
 ·clear m q g1 g2 j
  generalize fj M none (some 8)=MM at *
  generalize L3.D.lst (Pl (rgs ps))=G at *
  generalize Shd ps=H at *
  apply iD
  ·nomatch [em],[sl]
  ·rfl
  ·exact o
 apply au (ρ1:=[some (S,.z),some (L,.z),some (.lst [.int f],.u),some (Shd ps,.z),some (.lst (Pl (rgs ps)),.u),e,some (.lst (Pl (rst ps)),.u),v7,v8])
 ·exact mI m rfl (Nat.le_of_ble_eq_true rfl) rfl
 apply au (ρ1:=[some (S,.z),some (L,.z),some (.lst [.int h],.u),some (Shd ps,.z),some (.lst (Pl (rgs ps)),.u),e,some (.lst (Pl (rst ps)),.u),some (V,.z),v8])
 ·clear o m q em
  generalize L3.D.lst (Pl (rgs ps))=G at *
  generalize L3.D.lst (Pl (rst ps))=X at *
  generalize Shd ps=H at *
  nomatch [W]
 ·clear o m em l
  generalize L3.D.lst (Pl (rgs ps))=G at *
  generalize L3.D.lst (Pl (rst ps))=X at *
  generalize L3.D.tup (Nd t)=R1 at *
  generalize L3.D.tup (Nd s)=R2 at *
  generalize L3.D.int ((rst ps).length:Int)=N at *
  generalize Shd ps=H at *
  apply iD
  ·nomatch [t1],[j,g1,g2]
  ·rfl
  ·exact q
theorem BB (ns:List Int) (l:ns.length<=63):Dz [(.fls (ns.map .int),.z)]=some (.ok (.bl true,.z),[(.fls (ns.map .int),.z)]):=by
 have f:∃ m:Nat,(if (if ((4:Int) < ((ns.map L3.D.int).length:Int)) then (4:Int) else ((ns.map L3.D.int).length:Int)) > 1 then (if ((4:Int) < ((ns.map L3.D.int).length:Int)) then (4:Int) else ((ns.map L3.D.int).length:Int)) else (1:Int))=(m:Int)/\m<=4:=by
  refine ⟨max 1 (min ns.length 4),?_,by omega⟩
  grind
 obtain ⟨m,hm,a⟩:=f
 obtain ⟨ρ',e,v1,v2,v3,v4,v5,v6,v7,v8,rfl⟩:=b7 (bnd:=aw 1) (b:=jL) (fun _ ρ=>∃ v1 v2 v3 v4 v5 v6 v7 v8,ρ=[some (.fls (ns.map .int),.z),v1,v2,v3,v4,v5,v6,v7,v8]) (ds:=bE 0 m) (ρ:=[some (.fls (ns.map .int),.z),none,none,none,none,none,none,none,none]) (k:=0) ⟨_,_,_,_,_,_,_,_,rfl⟩ (by
  rintro i d ρ hd ⟨v1,v2,v3,v4,v5,v6,v7,v8,rfl⟩
  obtain ⟨hi,rfl⟩:=fc hd
  rw [Int.zero_add]
  obtain ⟨q,h,o,j,p,g,n,e⟩:=z6 (ns:=ns) i (v2:=v2) (v3:=v3) (v4:=v4) (v5:=v5) (v6:=v6) (v7:=v7) (v8:=v8)
  exact ⟨_,_,rfl,.inl e,_,_,_,_,_,_,_,_,rfl⟩)
 have c:dS [.int (if (if ((4:Int) < ((ns.map L3.D.int).length:Int)) then (4:Int) else ((ns.map L3.D.int).length:Int)) > 1 then (if ((4:Int) < ((ns.map L3.D.int).length:Int)) then (4:Int) else ((ns.map L3.D.int).length:Int)) else (1:Int))]=some (bE 0 m):=by
  rw [hm]
  exact eA (by omega) (by omega)
 apply aL (ρ:=[some (.fls (ns.map .int),.z),none,none,none,none,none,none,none,none]) rfl rfl
 ·apply au
  ·apply iD
   ·(repeat' (first | with_reducible apply gr (h3:=c) | infer_instance | eq_refl))
   ·rfl
   ·exact e
  ·nofun
 ·rfl
end Bn
end
namespace Bn
open PySem L2 L3
theorem FX {l : PySem.W.OpenLaw} {w : World} {K : FG} {h : Heap} {mg : Str -> Option Value} {fa : Addr} (X : K.In h) (G : h.Ns mainGlobals mg) (g6 : mg "law" = some (.ref fa)) (e : Bs K = vL) :
  ∃ fd : FuncData, (∀ (s : Shared) (v : Value), BindsTo s fd ⟨[v], []⟩ [("_law_script", v)]) /\ ∀ base : Heap, K.In base -> base.Ns mainGlobals mg -> FnOk l.prog w K mg base CX0 10 fa fd ["_law_script"] (yr K) := by
 have g : dsL.map (fun p => si K p.1) = dsL.map (fun p => mO p.1 p.2) := congrArg (fun x => x.1) e
 have e1 : blL.map (PySem.W.nsIn K mainGlobals) = blL.map (fun _ => some none) := congrArg (fun x => x.2.1) e
 have e2 : ciL.map (fun p => pV K p.1) = ciL.map (fun p => some p.2) := congrArg (fun x => x.2.2.1) e
 have e3 : csL.map (fun p => yq K p.1) = csL.map (fun p => some p.2) := congrArg (fun x => x.2.2.2.1) e
 have e4 : xrL.map (fun r : String => vX K r) = xrL.map (fun _ : String => qb) := congrArg (fun x => x.2.2.2.2.1) e
 have e5 : xcL.map (iZ K) = xcL.map (fun _ => true) := congrArg (fun x => x.2.2.2.2.2.1) e
 have e6 : xbL.map (PySem.W.nsIn K mainGlobals) = xbL.map (fun _ => some none) := congrArg (fun x => x.2.2.2.2.2.2.1) e
 have e7 : p9 K = lE := congrArg (fun x => x.2.2.2.2.2.2.2.1) e
 have J : [PySem.W.kitOne K (.ref (ah K "NoSheet")) (.ref (ah K "Apart")), PySem.W.kitOne K (.ref (ah K "NoRing")) (.ref (ah K "Apart")), PySem.W.kitOne K (.ref (ah K "NoSheet")) (.ref (ah K "Bare")), PySem.W.kitOne K (.ref (ah K "NoRing")) (.ref (ah K "Bare")), PySem.W.kitOne K (.ref (ah K "NoSheet")) (.ref (ah K "BentError")), PySem.W.kitOne K (.ref (ah K "NoRing")) (.ref (ah K "BentError")), PySem.W.kitOne K (.ref (ah K "NoSheet")) (.ref (ah K "NoNumber")), PySem.W.kitOne K (.ref (ah K "NoRing")) (.ref (ah K "NoNumber")), PySem.W.kitOne K (.ref (ah K "NoSheet")) (.ref (ah K "NoPlace")), PySem.W.kitOne K (.ref (ah K "NoRing")) (.ref (ah K "NoPlace")), PySem.W.kitOne K (.ref (ah K "NoSheet")) (.ref (ah K "NoRing")), PySem.W.kitOne K (.ref (ah K "NoRing")) (.ref (ah K "NoRing")), PySem.W.kitOne K (.ref (ah K "NoSheet")) (.ref (ah K "NoRow")), PySem.W.kitOne K (.ref (ah K "NoRing")) (.ref (ah K "NoRow")), PySem.W.kitOne K (.ref (ah K "NoSheet")) (.ref (ah K "NoSheet")), PySem.W.kitOne K (.ref (ah K "NoRing")) (.ref (ah K "NoSheet")), PySem.W.kitOne K (.ref (ah K "NoSheet")) (.ref (ah K "NoText")), PySem.W.kitOne K (.ref (ah K "NoRing")) (.ref (ah K "NoText")), PySem.W.kitOne K (.ref (ah K "NoSheet")) (.ref (ah K "OnLine")), PySem.W.kitOne K (.ref (ah K "NoRing")) (.ref (ah K "OnLine")), PySem.W.kitOne K (.ref (ah K "NoSheet")) (.ref (ah K "TooMany")), PySem.W.kitOne K (.ref (ah K "NoRing")) (.ref (ah K "TooMany")), PySem.W.kitOne K (.ref (ah K "NoSheet")) (.type "ValueError"), PySem.W.kitOne K (.ref (ah K "NoRing")) (.type "ValueError")] = [some false, some false, some false, some false, some true, some true, some false, some false, some false, some false, some false, some true, some false, some false, some true, some false, some false, some false, some false, some false, some false, some false, some true, some true] := congrArg (fun x => x.2.2.2.2.2.2.2.2.1) e
 have e9 : [PySem.W.exmOne K (.ref (ah K "NoSheet")) (.ref (ah K "BentError")), PySem.W.exmOne K (.ref (ah K "NoRing")) (.ref (ah K "BentError"))] = [some true, some true] := congrArg (fun x => x.2.2.2.2.2.2.2.2.2) e
 have B : Bl mg := ⟨b5 X G e1 0 rfl, b5 X G e1 1 rfl, b5 X G e1 2 rfl, b5 X G e1 3 rfl, b5 X G e1 4 rfl, b5 X G e1 5 rfl, b5 X G e1 6 rfl, b5 X G e1 7 rfl, b5 X G e1 8 rfl, b5 X G e1 9 rfl, b5 X G e1 10 rfl, b5 X G e1 11 rfl, b5 X G e1 12 rfl, b5 X G e1 13 rfl, b5 X G e1 14 rfl, b5 X G e1 15 rfl, b5 X G e1 16 rfl, b5 X G e1 17 rfl, b5 X G e1 18 rfl, b5 X G e1 19 rfl⟩
 have D0 : Def K mg "is_whole" fG := aI X G g 0 rfl
 have D1 : Def K mg "is_point" fI := aI X G g 1 rfl
 have D2 : Def K mg "is_place" fJ := aI X G g 2 rfl
 have D3 : Def K mg "are_rising_places" bo := aI X G g 3 rfl
 have D4 : Def K mg "are_points" dB := aI X G g 4 rfl
 have D5 : Def K mg "has_rising_x" cC := aI X G g 5 rfl
 have D6 : Def K mg "bend" pq := aI X G g 6 rfl
 have D7 : Def K mg "threes" jz := aI X G g 7 rfl
 have D8 : Def K mg "first_on_line" cb := aI X G g 8 rfl
 have D9 : Def K mg "is_sheet" fH := aI X G g 9 rfl
 have eH : Def K mg "check_sheet" cX := aI X G g 10 rfl
 have fk : Def K mg "turn_at" iP := aI X G g 11 rfl
 have fe : Def K mg "all_turns" en := aI X G g 12 rfl
 have g8 : Def K mg "row_bends" eg := aI X G g 13 rfl
 have g4 : Def K mg "side_row" fE := aI X G g 14 rfl
 have gy : Def K mg "is_ring_by" dA := aI X G g 15 rfl
 have fC : Def K mg "turns_with_ring" bL := aI X G g 16 rfl
 have fw : Def K mg "low_row" iQ := aI X G g 17 rfl
 have eN : Def K mg "high_row" fK := aI X G g 18 rfl
 have ez : Def K mg "_law_cell" jE := aI X G g 19 rfl
 have fy : Def K mg "_law_mix" lu := aI X G g 20 rfl
 have fz : Def K mg "_law_box" lw := aI X G g 21 rfl
 have fi : Def K mg "_law_take" jA := aI X G g 22 rfl
 have fo : Def K mg "_law_whole" iR := aI X G g 23 rfl
 have et : Def K mg "_law_mixed_up" dz := aI X G g 24 rfl
 have f5 : Def K mg "_law_bend" jF := aI X G g 25 rfl
 have gs : Def K mg "_law_free" jD := aI X G g 26 rfl
 have f7 : Def K mg "_law_sheet" iS := aI X G g 27 rfl
 have f6 : Def K mg "_law_odd" lq := aI X G g 28 rfl
 have ey : Def K mg "_law_up" pj := aI X G g 29 rfl
 have g0 : Def K mg "_law_rising" fF := aI X G g 30 rfl
 have g5 : Def K mg "_law_bends" iW := aI X G g 31 rfl
 have ew : Def K mg "_law_parts" iU := aI X G g 32 rfl
 have gn : Def K mg "_law_marks" iV := aI X G g 33 rfl
 have f3 : Def K mg "_law_side" jB := aI X G g 34 rfl
 have g7 : Def K mg "_law_is_ring" eh := aI X G g 35 rfl
 have gm : Def K mg "_law_rings" iT := aI X G g 36 rfl
 have fb : Def K mg "_law_said" jC := aI X G g 37 rfl
 obtain ⟨f, fd, F0, hf⟩ : Def K mg "law" ic := aI X G g 38 rfl
 cases g6.symm.trans hf
 have F := F0
 obtain ⟨oc, od, kV, doc, pm, an, eu, ct, hb, ef, lk, hg⟩ := F0.ex
 subst ef
 obtain ⟨g9, Q0⟩ := pU X G e2 0 (n := "MOST_POINTS") (v := 24) rfl
 obtain ⟨hh, Q1⟩ := pU X G e2 1 (n := "DOWN") (v := -1) rfl
 obtain ⟨hc, Q2⟩ := pU X G e2 2 (n := "LEAST_CORNERS") (v := 3) rfl
 obtain ⟨ha, Q3⟩ := pU X G e2 3 (n := "UP") (v := 1) rfl
 obtain ⟨a, d0⟩ := AB X G e7 e4 0 (r := "NoSheet") rfl
 obtain ⟨b, d2⟩ := AB X G e7 e4 1 (r := "NoRing") rfl
 have c4 : mg "NoSheet" = _ := dU X G e5 0 rfl
 have ed : mg "NoRing" = _ := dU X G e5 1 rfl
 have eo : mg "Apart" = _ := dU X G e5 2 rfl
 have ep : mg "Bare" = _ := dU X G e5 3 rfl
 have q : mg "BentError" = _ := dU X G e5 4 rfl
 have bt : mg "NoNumber" = _ := dU X G e5 5 rfl
 have dc : mg "NoPlace" = _ := dU X G e5 6 rfl
 have ej : mg "NoRow" = _ := dU X G e5 7 rfl
 have ec : mg "NoText" = _ := dU X G e5 8 rfl
 have eb : mg "OnLine" = _ := dU X G e5 9 rfl
 have c5 : mg "TooMany" = _ := dU X G e5 10 rfl
 have Z : mg "ValueError" = none := b5 X G e6 0 rfl
 have ek : IsX K (.ref (ah K "Apart")) [("NoSheet", false), ("NoRing", false)] := (.cons a (df J 0 rfl rfl) (.cons b (df J 1 rfl rfl) .nil))
 have er : IsX K (.ref (ah K "Bare")) [("NoSheet", false), ("NoRing", false)] := (.cons a (df J 2 rfl rfl) (.cons b (df J 3 rfl rfl) .nil))
 have a4 : IsX K (.ref (ah K "BentError")) [("NoSheet", true), ("NoRing", true)] := (.cons a (df J 4 rfl rfl) (.cons b (df J 5 rfl rfl) .nil))
 have c3 : IsX K (.ref (ah K "NoNumber")) [("NoSheet", false), ("NoRing", false)] := (.cons a (df J 6 rfl rfl) (.cons b (df J 7 rfl rfl) .nil))
 have c7 : IsX K (.ref (ah K "NoPlace")) [("NoSheet", false), ("NoRing", false)] := (.cons a (df J 8 rfl rfl) (.cons b (df J 9 rfl rfl) .nil))
 have ea : IsX K (.ref (ah K "NoRing")) [("NoSheet", false), ("NoRing", true)] := (.cons a (df J 10 rfl rfl) (.cons b (df J 11 rfl rfl) .nil))
 have ei : IsX K (.ref (ah K "NoRow")) [("NoSheet", false), ("NoRing", false)] := (.cons a (df J 12 rfl rfl) (.cons b (df J 13 rfl rfl) .nil))
 have dx : IsX K (.ref (ah K "NoSheet")) [("NoSheet", true), ("NoRing", false)] := (.cons a (df J 14 rfl rfl) (.cons b (df J 15 rfl rfl) .nil))
 have d4 : IsX K (.ref (ah K "NoText")) [("NoSheet", false), ("NoRing", false)] := (.cons a (df J 16 rfl rfl) (.cons b (df J 17 rfl rfl) .nil))
 have d3 : IsX K (.ref (ah K "OnLine")) [("NoSheet", false), ("NoRing", false)] := (.cons a (df J 18 rfl rfl) (.cons b (df J 19 rfl rfl) .nil))
 have dV : IsX K (.ref (ah K "TooMany")) [("NoSheet", false), ("NoRing", false)] := (.cons a (df J 20 rfl rfl) (.cons b (df J 21 rfl rfl) .nil))
 have S : IsX K (.type "ValueError") [("NoSheet", true), ("NoRing", true)] := (.cons a (df J 22 rfl rfl) (.cons b (df J 23 rfl rfl) .nil))
 have ar : ExX K (ah K "BentError") ["NoSheet", "NoRing"] := (.cons a (df e9 0 rfl rfl) (.cons b (df e9 1 rfl rfl) .nil))
 refine ⟨PySem.W.fnOf "law" "law" (aQ ic) (aE ic) (ad ic) .none kV doc pm an eu ct, fun s v => .of_eq rfl, fun base _ _ => ?_⟩
 have C := qi (P := l.prog) (w := w) (base := base) B D0
 have cv := qk (P := l.prog) (w := w) (base := base) B D1 C
 have b4 := ql (P := l.prog) (w := w) (base := base) B D2 C
 have k := gz (P := l.prog) (w := w) (base := base) B D3 b4
 have N := mY (P := l.prog) (w := w) (base := base) B D4 cv Q0
 have I := kC (P := l.prog) (w := w) (base := base) B D5
 have d1 := AJ (P := l.prog) (w := w) (base := base) B D6
 have ae := uA (P := l.prog) (w := w) (base := base) B D7
 have A := jW (P := l.prog) (w := w) (base := base) B D8 d1 ae
 have c0 := qj (P := l.prog) (w := w) (base := base) B D9 N A I
 have y := jX (P := l.prog) (w := w) (base := base) B eH c0 a d0
 have dr := sG (P := l.prog) (w := w) (base := base) B fk d1
 have M := lp (P := l.prog) (w := w) (base := base) B fe y ae dr
 have a3 := nD (P := l.prog) (w := w) (base := base) B g8
 have m := qg (P := l.prog) (w := w) (base := base) B g4
 have T := mV (P := l.prog) (w := w) (base := base) B gy k a3 m Q1 Q2 Q3
 have c := gx (P := l.prog) (w := w) (base := base) B fC M T b d2
 have ax := nE (P := l.prog) (w := w) (base := base) B fw m c Q3
 have V := mW (P := l.prog) (w := w) (base := base) B eN m c Q1
 have a5 := uF (P := l.prog) (w := w) (base := base) B ez
 have ck := xN (P := l.prog) (w := w) (base := base) B fy
 have cm := xO (P := l.prog) (w := w) (base := base) B fz a5 ck
 have d := uB (P := l.prog) (w := w) (base := base) B fi
 have U := sH (P := l.prog) (w := w) (base := base) B fo
 have z := mU (P := l.prog) (w := w) (base := base) B et d
 have t := uG (P := l.prog) (w := w) (base := base) B f5
 have az := uE (P := l.prog) (w := w) (base := base) B gs t
 have O := sI (P := l.prog) (w := w) (base := base) B f7 az d
 have b3 := xM (P := l.prog) (w := w) (base := base) B f6 d
 have L := AI (P := l.prog) (w := w) (base := base) B ey t
 have j := qh (P := l.prog) (w := w) (base := base) B g0 U
 have Y := sL (P := l.prog) (w := w) (base := base) B g5 j L
 have o := sK (P := l.prog) (w := w) (base := base) B ew
 have D := nF (P := l.prog) (w := w) (base := base) B gn eo ek ep er q a4 bt c3 dc c7 ed ea ej ei c4 dx ec d4 eb d3 c5 dV Z S
 have u := uC (P := l.prog) (w := w) (base := base) B f3 L
 have i := nG (P := l.prog) (w := w) (base := base) B g7 Y j u
 have R := sJ (P := l.prog) (w := w) (base := base) B gm i o
 have a6 := uD (P := l.prog) (w := w) (base := base) B fb D V ax q ar
 exact FnOk.imp (CN (P := l.prog) (w := w) (base := base) B F cm i z b3 o R a6 O u d) fun vs H Q E h => Cw (fun ns hn => ⟨_, BB ns hn⟩) h
theorem walkL : PySem.W.WalkO viL loL (fun _ _ => True) (fun _ h => ∃ K : FG, K.In h /\ Bs K = vL) PySem.Challenge.rw_bentrows_k24_low_and_high_rows.row.toRowW ⟨"law", aQ ic, aE ic, ad ic, stPos ic⟩ [] (fun f g => PySem.call f g) :=
 L2.walk_ofS (l := PySem.Challenge.rw_bentrows_k24_low_and_high_rows) (n := 63) (k := 10) (x := "_law_script") (S := fun K => Bs K = vL) (CX := CX0) (sp := yr) rfl (by decide) rfl ⟨rfl, by decide, by decide, rfl⟩ (fun _ _ z => z) (fun _ _ _ _ _ e X G hm => FX X G hm e) (fun _ _ a ns c b d => ⟨a, ns, rfl, d, b, c, fun _ => rfl⟩) fun _ _ _ _ z => z
end Bn
open PySem PySem.W PyProof.Rows
set_option maxRecDepth 100000 in
set_option maxHeartbeats 0 in
theorem PySem.Challenge.cw_bentrows_k24_low_and_high_rows_holds : PySem.Challenge.rw_bentrows_k24_low_and_high_rows.Holds :=
 holds_law Bn.okL fun said => holds_open (r := PySem.Challenge.rw_bentrows_k24_low_and_high_rows.row) Bn.leftL (fun _ _ e => ⟨_, L2.fragAt_in _, e⟩) (fun _ _ _ ⟨K, X, e⟩ k => ⟨K, X.keeps k, e⟩) (fun _ _ => trivial) (fun _ _ _ _ _ => trivial) (by kernel_rfl) (by kernel_rfl) (by kernel_rfl) (fun s e => recFacts_of e) (by rfl) said (by kernel_rfl) ⟨rfl, rfl, rfl, rfl, rfl, by decide +kernel⟩ ⟨[.list []], by decide +kernel, by decide +kernel⟩ Bn.walkL
