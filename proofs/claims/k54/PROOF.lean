import PyProof.Rows.All
import Wide.All
import OpenK.AllK
import Wide.FinOn
import Lean
import PyProof.EqAt
import PyProof.EqKinds
import PyProof.TupleCall
import PyProof.P3Eq
import PyProof.NeData
import PyProof.ListRange
import PyProof.Rows.CallKwBuiltin
import PyProof.Rows.Range3
import PyProof.DictWalks
import PyProof.MinMaxWalk
import PyProof.WalkInts
import PyProof.Walk
import PyProof.WalkLemmas
import PyProof.RulesTry
import PyProof.ZipIter
import PyProof.AttrMissHeap
import PyProof.FactsAll.zip
import PyProof.DictUpdate
import KE.KDictOf
import PyProof.Rows.SortShell
import PyProof.Rows.SortWalk
import PyProof.Rows.SortRuns
import PyProof.Rows.SetFrom
import PyProof.SetKind
import PyProof.SetScanFacts
import PyProof.FactsAll.subtypes_4
import PyProof.FactsAll.set_1
import PyProof.DictDisplay
import PySem.Challenge.RW_bentrows_k54_rings_by_signs
set_option tactic.hygienic false
set_option genSizeOf false
set_option Elab.async false
set_option linter.all false
set_option maxRecDepth 100000
set_option maxHeartbeats 4000000
section
abbrev FG:=PySem.W.Frag
open PySem PySem.Spec PyProof.Rows
abbrev AN:=@wpAny_bind
abbrev AO:=@wpAny_pure
abbrev AQ:=@wpAny_holding
abbrev AR:=@List.mem_cons_self
abbrev AS:=@List.mem_cons_of_mem
abbrev AT:=@Heap.get?_push_of_some
abbrev AU:=@Option.map_eq_some_iff
abbrev AV:=@List.mem_append_left
abbrev AW:=@List.mem_append_right
abbrev AX:=@List.mem_cons
abbrev AY:=@List.getElem?_eq_getElem
abbrev AZ:=@Heap.lt_size
abbrev A0:=@List.mem_append
abbrev A1:=@Heap.get?_push_size
abbrev A2:=@List.length_map
abbrev A3:=@List.getElem?_eq_some_iff
abbrev A4:=@List.mem_of_getElem?
abbrev A5:=@List.sublist_append_right
abbrev A6:=@List.mem_map
abbrev A7:=@List.getElem?_map
abbrev A8:=@Nat.le_refl
abbrev A9:=@Bool.false_ne_true
abbrev Ba:=@Nat.ne_of_lt
abbrev Bb:=@List.size_toArray
abbrev Bc:=@List.map_cons
abbrev Bd:=@decide_eq_true
abbrev Be:=@decide_eq_false
abbrev Bf:=@Nat.lt_of_lt_of_le
abbrev Bg:=@Nat.zero_add
abbrev Bh:=@Heap.get?_update_self
abbrev Bi:=@List.length_append
abbrev Bj:=@List.length_cons
abbrev Bk:=@List.length_take
abbrev Bm:=@Option.map_some
abbrev Bo:=@Option.bind_eq_some_iff
abbrev Bp:=@List.mem_singleton
abbrev Bq:=@Bool.false_eq_true
abbrev Br:=@List.mem_filter
abbrev Bs:=@List.getElem?_append_left
abbrev Bt:=@Heap.get?_update_other
abbrev Bu:=@Heap.size_push
abbrev Bv:=@wpAny_truthy_bool
abbrev Bw:=@Nat.le_trans
abbrev Bx:=@List.take_of_length_le
abbrev By:=@List.filter_eq_self
abbrev Bz:=@List.mem_flatMap
abbrev BA:=@List.map_map
abbrev BB:=@List.map_congr_left
abbrev BC:=@Option.some.inj
abbrev BD:=@List.length_eq_zero_iff
end
section
namespace L2
open PySem
noncomputable def bG (s : Stmt) : Arguments := match s with
  | .FunctionDef _ a _ _ _ _ _ _ _ _ => a
  | _ => { posonlyargs := [], args := [], vararg := none, kwonlyargs := [], kw_defaults := [], kwarg := none, defaults := [] }
noncomputable def bo (s : Stmt) : List Stmt := match s with
  | .FunctionDef _ _ b _ _ _ _ _ _ _ => b
  | _ => []
noncomputable def ak (s : Stmt) : Scope := match s with
  | .FunctionDef _ _ _ _ _ _ sc _ _ _ => sc
  | _ => { kind := .function, names := [], isGenerator := false, isCoroutine := false }
noncomputable def vW (h : Heap) : FG := (List.range h.objs.size).filterMap fun a => (h.get? a).map fun o => (a, o)
noncomputable def refIn (K : FG) (n : Str) : Addr := match PySem.W.nsIn K mainGlobals n with
  | some (some (.ref f)) => f
  | _ => 0
noncomputable abbrev oq := Str × Str × Arguments × FuncBody × Scope × Addr × List (Str × Addr) × Value × Addr × Bool
noncomputable def pF (K : FG) (n : Str) : Option oq := match PySem.W.nsIn K mainGlobals n with
  | some (some (.ref f)) => (match K.lookup f with
    | some ⟨_, _, .func fd, _⟩ => some (fd.name, fd.qualname, fd.params, fd.body, fd.scope, fd.globals, fd.closure, fd.defaults, fd.builtins, PySem.W.codeIn K fd.code n)
    | _ => none)
  | _ => none
noncomputable def lM (n : Str) (st : Stmt) : Option oq := some (n, n, bG st, .stmts (bo st), ak st, mainGlobals, [], .none, builtinsNs, true)
noncomputable def nP (K : FG) (n : Str) : Option Int := match PySem.W.nsIn K mainGlobals n with
  | some (some (.int v _)) => some v
  | _ => none
noncomputable def uB (K : FG) (n : Str) : Option Str := match PySem.W.nsIn K mainGlobals n with
  | some (some (.str v _)) => some v
  | _ => none
open PySem.W PyProof.Rows in
theorem tD {p q : Program} {loose : List Str} {Xt : Shared → Bool} {α : Type} {Yf : Shared → α} {Ya : World → α} {N m : Nat} {ann : Option Value}
    (e : opening p = plainProg p.main.scope.names) (hN : Nat.ble 600 N = true) (f : ∀ s, fenceModules? p s = some s)
    (sz : ∀ w : World, ((boot_heap w.params).isNs mainGlobals && (Array.mk [] : Array GenState).size == 0, (boot_heap w.params).objs.size, (boot_heap w.params).nsMap mainGlobals "__annotations__") = (true, m, ann))
    (go : ∀ (w : World) (os : OsState), (PySem.W.Fast.tw14082659384304107361 PySem.W.Fast.tw14364793385576792824 p w m ann N ⟨boot_heap w.params, Array.mk [], boot_drawn, boot_toks, os⟩ (topStub p)).map (fun s => ((staticsOk (importedModules p.main.body) (boot_heap w.params) s.heap && namesBound p s.heap && gensDone s && laidKept (boot_heap w.params) s.heap), PySem.W.Fast.tw4187177175401517315 q loose (importedModules p.main.body) Xt true s, Yf s)) = some (true, openGood q loose, Ya w)) : LeftO p q loose Xt Yf Ya N := fun w => by
  obtain ⟨⟨hp, gn, dr, tk, os⟩, ea, eb⟩ := AU.mp (boot_open e hN f w)
  obtain ⟨rfl, rfl, rfl, rfl⟩ : hp = boot_heap w.params ∧ gn = Array.mk [] ∧ dr = boot_drawn ∧ tk = boot_toks := by simpa using eb
  have sw := sz w
  have rw0 := go w os
  rw [← PySem.W.Fast.te14082659384304107361, ← PySem.W.Fast.te14364793385576792824, ← PySem.W.Fast.te4187177175401517315] at rw0
  simp only [Prod.mk.injEq] at sw
  obtain ⟨s, ec, ed⟩ := AU.mp rw0
  simp only [Prod.mk.injEq] at ed
  have tt : topFrom treeTable p w N ⟨boot_heap w.params, Array.mk [], boot_drawn, boot_toks, os⟩ = some s := by
    unfold topFrom
    dsimp only
    rw [sw.1, sw.2.1, sw.2.2, ec]
    change (match staticsOk (importedModules p.main.body) (boot_heap w.params) s.heap && namesBound p s.heap && gensDone s && laidKept (boot_heap w.params) s.heap with | true => some s | false => none) = some s
    rw [ed.1]
  unfold openEnds
  rw [ea]
  change Option.map _ (topFrom treeTable p w N _) = _
  rw [tt]
  exact congrArg some (Prod.ext ed.2.1 ed.2.2)
theorem sN {l : PySem.W.OpenLaw} (h : PySem.W.Fast.tw9446332074065402090 l = true) : l.wellSaid = true := by rw [← PySem.W.Fast.te9446332074065402090] at h; exact h
end L2
namespace Bn
open PySem L2
noncomputable def top (i : Nat) : Stmt := PySem.Challenge.pw_bentrows_k54_rings_by_signs.main.body.getD i (.Pass ⟨0, 0, 0, 0⟩)
noncomputable abbrev gw : Stmt := top 5
noncomputable abbrev gx : Stmt := top 6
noncomputable abbrev bR : Stmt := top 7
noncomputable abbrev cZ : Stmt := top 8
noncomputable abbrev jx : Stmt := top 11
noncomputable abbrev kO : Stmt := top 12
noncomputable abbrev fH : Stmt := top 16
noncomputable abbrev gu : Stmt := top 19
noncomputable abbrev eJ : Stmt := top 20
noncomputable abbrev iO : Stmt := top 22
noncomputable abbrev cA : Stmt := top 23
noncomputable abbrev bD : Stmt := top 24
noncomputable abbrev c6 : Stmt := top 25
noncomputable abbrev dQ : Stmt := top 26
noncomputable abbrev bZ : Stmt := top 27
noncomputable abbrev kN : Stmt := top 29
noncomputable abbrev jy : Stmt := top 30
noncomputable abbrev iL : Stmt := top 31
noncomputable abbrev kM : Stmt := top 32
noncomputable abbrev jA : Stmt := top 33
noncomputable abbrev jz : Stmt := top 34
noncomputable abbrev iN : Stmt := top 35
noncomputable abbrev gv : Stmt := top 36
noncomputable abbrev iM : Stmt := top 37
noncomputable abbrev dP : Stmt := top 38
noncomputable abbrev eI : Stmt := top 40
noncomputable abbrev cI : Stmt := top 39
noncomputable abbrev fI : Stmt := top 41
noncomputable abbrev fJ : Stmt := top 42
noncomputable abbrev hV : Stmt := top 43
noncomputable abbrev dsL : List (Str × Stmt) := [(("is_whole" : Str), gw), (("is_place" : Str), gx), (("are_rising_places" : Str), bR), (("check_number" : Str), cZ), (("threes" : Str), jx), (("fours" : Str), kO), (("row_bends" : Str), fH), (("side_row" : Str), gu), (("is_ring_by" : Str), eJ), (("is_sign" : Str), iO), (("turns_by_signs" : Str), cA), (("change_once_at_most" : Str), bD), (("are_signs_of" : Str), c6), (("check_signs" : Str), dQ), (("is_ring_by_signs" : Str), bZ), (("_law_box" : Str), kN), (("_law_take" : Str), jy), (("_law_whole" : Str), iL), (("_law_odd" : Str), kM), (("_law_bend" : Str), jA), (("_law_free" : Str), jz), (("_law_sheet" : Str), iN), (("_law_threes" : Str), gv), (("_law_signs" : Str), iM), (("_law_are_signs" : Str), dP), (("_law_sheet_of" : Str), eI), (("_law_drawn_signs" : Str), cI), (("_law_ring_so" : Str), fI), (("_law_is_ring" : Str), fJ), (("law" : Str), hV)]
noncomputable abbrev blL : List Str := [("len" : Str), ("range" : Str), ("abs" : Str), ("divmod" : Str), ("enumerate" : Str), ("tuple" : Str), ("isinstance" : Str), ("int" : Str), ("bool" : Str), ("all" : Str), ("str" : Str), ("max" : Str), ("min" : Str), ("list" : Str), ("dict" : Str), ("repr" : Str), ("sorted" : Str), ("set" : Str), ("zip" : Str), ("reversed" : Str)]
noncomputable abbrev ciL : List (Str × Int) := [(("DOWN" : Str), (-1 : Int)), (("LEAST_CORNERS" : Str), (3 : Int)), (("UP" : Str), (1 : Int)), (("MOST_POINTS" : Str), (24 : Int))]
noncomputable abbrev csL : List (Str × Str) := []
noncomputable def xk (K : FG) : List (Option oq) × List (Option (Option Value)) × List (Option Int) × List (Option Str) := (dsL.map (fun p => pF K p.1), blL.map (PySem.W.nsIn K mainGlobals), ciL.map (fun p => nP K p.1), csL.map (fun p => uB K p.1))
noncomputable def rX : List (Option oq) × List (Option (Option Value)) × List (Option Int) × List (Option Str) := (dsL.map (fun p => lM p.1 p.2), blL.map (fun _ => some none), ciL.map (fun p => some p.2), csL.map (fun p => some p.2))
theorem okL : PySem.Challenge.rw_bentrows_k54_rings_by_signs.wellSaid = true := sN (by kernel_rfl)
noncomputable abbrev loL : List Str := [("BentError" : Str), ("NoNumber" : Str), ("NoSigns" : Str), ("is_whole" : Str), ("is_place" : Str), ("are_rising_places" : Str), ("check_number" : Str), ("MOST_POINTS" : Str), ("threes" : Str), ("fours" : Str), ("UP" : Str), ("DOWN" : Str), ("row_bends" : Str), ("LEAST_CORNERS" : Str), ("side_row" : Str), ("is_ring_by" : Str), ("is_sign" : Str), ("turns_by_signs" : Str), ("change_once_at_most" : Str), ("are_signs_of" : Str), ("check_signs" : Str), ("is_ring_by_signs" : Str), ("_law_box" : Str), ("_law_take" : Str), ("_law_whole" : Str), ("_law_odd" : Str), ("_law_bend" : Str), ("_law_free" : Str), ("_law_sheet" : Str), ("_law_threes" : Str), ("_law_signs" : Str), ("_law_are_signs" : Str), ("_law_drawn_signs" : Str), ("_law_sheet_of" : Str), ("_law_ring_so" : Str), ("_law_is_ring" : Str)]
noncomputable abbrev viL : Program := PySem.W.view PySem.Challenge.rw_bentrows_k54_rings_by_signs.row.prog [43]
theorem leftL : PySem.W.LeftO PySem.Challenge.rw_bentrows_k54_rings_by_signs.row.prog viL loL (fun s => PySem.W.recOk (PySem.W.RowW.records PySem.Challenge.rw_bentrows_k54_rings_by_signs.row.toRowW) s) (fun s => xk (vW s.heap)) (fun _ => rX) 40000 :=
  tD (m := 11) (ann := some (.ref 6)) (by kernel_rfl) rfl (fun _ => rfl) (fun w => by kernel_rfl) (fun w os => by kernel_rfl)
end Bn
end
section
namespace L2
open PySem PySem.Spec PyProof.Rows
noncomputable abbrev Key:=Sum Int Str
noncomputable def mN:Key->Value->Bool
  | .inl k,v=>Value.isInt k v
  | .inr x,v=>Value.isStrOf x v
noncomputable def keyH (w:World):Key->Int
  | .inl k=>hashInt k
  | .inr x=>hashStr w x
theorem bM:∀ {k:Key} {v:Value},mN k v=true->(∃ i t,k=Sum.inl i/\v=Value.int i t)\/(∃ x t,k=Sum.inr x/\v=Value.str x t)
  | .inl i,v,h=>by
    obtain ⟨t,e⟩:=Value.isInt_shape (k:=i) (v:=v) h
    exact .inl ⟨i,t,rfl,e⟩
  | .inr x,v,h=>by
    obtain ⟨t,e⟩:=Value.isStrOf_shape (x:=x) (v:=v) h
    exact .inr ⟨x,t,rfl,e⟩
theorem tH (i:Int) (t:Tok):mN (.inl i) (.int i t)=true:=by simp [mN,Value.isInt]
theorem tG (x:Str) (t:Tok):mN (.inr x) (.str x t)=true:=by simp [mN,Value.isStrOf]
theorem Av (a b:Int):decide ((Sum.inl a:Key)=Sum.inl b)=(a == b):=by
  by_cases e:a=b
  · subst e;simp
  · have h:¬ (Sum.inl a:Key)=Sum.inl b:=fun q=>e (Sum.inl.inj q)
    rw [Be h]
    exact (beq_eq_false_iff_ne.mpr e).symm
theorem As (a b:Str):decide ((Sum.inr a:Key)=Sum.inr b)=decide (a=b):=by
  by_cases e:a=b
  · subst e;simp
  · have h:¬ (Sum.inr a:Key)=Sum.inr b:=fun q=>e (Sum.inr.inj q)
    rw [Be h,Be e]
theorem Au (a:Int) (b:Str):decide ((Sum.inl a:Key)=Sum.inr b)=false:=Be (fun q=>nomatch q)
theorem At (a:Str) (b:Int):decide ((Sum.inr a:Key)=Sum.inl b)=false:=Be (fun q=>nomatch q)
noncomputable def bK (prog:Program) (w:World):PySem.KeyKind prog w Key where
  is:=mN
  hash:=keyH w
  inj:=fun v a b ha hb=>by
    rcases bM ha with ⟨i,t,rfl,rfl⟩ | ⟨x,t,rfl,rfl⟩
    · rcases bM hb with ⟨j,u,rfl,e⟩ | ⟨y,u,rfl,e⟩
      · injection e with e1 _;rw [e1]
      · exact nomatch e
    · rcases bM hb with ⟨j,u,rfl,e⟩ | ⟨y,u,rfl,e⟩
      · exact nomatch e
      · injection e with e1 _;rw [e1]
  byValue:=fun k v h=>by
    rcases bM h with ⟨i,t,rfl,rfl⟩ | ⟨x,t,rfl,rfl⟩ <;> rfl
  pyHash:=fun hv h=>by
    rcases bM hv with ⟨i,t,rfl,rfl⟩ | ⟨x,t,rfl,rfl⟩
    · exact wpAny_pyHash_int h
    · exact wpAny_pyHash_str h
  eqBool:=fun hu hv h=>by
    rcases bM hu with ⟨i,t,rfl,rfl⟩ | ⟨x,t,rfl,rfl⟩
    · rcases bM hv with ⟨j,u,rfl,rfl⟩ | ⟨y,u,rfl,rfl⟩
      · rw [Av] at h;exact wpAny_eqBool_int h
      · rw [Au] at h;exact SeqAt.EqAt.int_str i t y u _ _ _ _ h
    · rcases bM hv with ⟨j,u,rfl,rfl⟩ | ⟨y,u,rfl,rfl⟩
      · rw [At] at h;exact SeqAt.EqAt.str_int x t j u _ _ _ _ h
      · rw [As] at h;exact wpAny_eqBool_str h
  «strs»:=fun k x t v h=>by
    rcases bM h with ⟨i,u,rfl,e⟩ | ⟨y,u,rfl,e⟩
    · exact nomatch e
    · injection e with e1 _
      subst e1
      cases v <;> rfl
theorem pe (prog:Program) (w:World) (i:Int) (t:Tok):(bK prog w).is (.inl i) (.int i t)=true:=tH i t
theorem pd (prog:Program) (w:World) (x:Str) (t:Tok):(bK prog w).is (.inr x) (.str x t)=true:=tG x t
end L2
namespace L2
open PySem PySem.Spec PyProof.Rows
inductive V where
  | non | bl (b:Bool) | int (i:Int) | str (x:Str) | byt (b:Array UInt8) | flt (b:UInt64) | ref (a:Addr) | ty (n:String)
  deriving DecidableEq
noncomputable def RelV:V->Value->Prop
  | .non,u=>u=Value.none
  | .bl b,u=>u=Value.bool b
  | .int i,u=>∃ t,u=Value.int i t
  | .str x,u=>∃ t,u=Value.str x t
  | .byt b,u=>∃ t,u=Value.bytes b t
  | .flt b,u=>∃ t,u=Value.float b t
  | .ref a,u=>u=Value.ref a
  | .ty n,u=>u=Value.type n
noncomputable abbrev Vals:List V->List Value->Prop:=Paired RelV
theorem Vals.length {xs:List V} {us:List Value} (r:Vals xs us):xs.length=us.length:=Paired.length r
theorem Vals.get:∀ {xs:List V} {us:List Value} {i:Nat} {x:V},Vals xs us->xs[i]?=some x->∃ u,us[i]?=some u/\RelV x u
  | _,_,_,_,.nil,e=>by simp at e
  | _,_,0,_,.cons r _,e=>by simp at e;subst e;exact ⟨_,rfl,r⟩
  | _,_,i+1,x,.cons _ t,e=>by
    obtain ⟨u,h1,h2⟩:=Vals.get (i:=i) (x:=x) t (by simpa using e)
    exact ⟨u,by simpa using h1,h2⟩
theorem Vals.set {x:V} {u:Value} (r:RelV x u):∀ {xs:List V} {us:List Value} (i:Nat),Vals xs us->Vals (xs.set i x) (us.set i u)
  | _,_,_,.nil=>.nil
  | _,_,0,.cons _ t=>.cons r t
  | _,_,i+1,.cons q t=>.cons q (Vals.set r i t)
theorem Vals.append:∀ {xs ys:List V} {us ws:List Value},Vals xs us->Vals ys ws->Vals (xs ++ ys) (us ++ ws)
  | _,_,_,_,.nil,s=>s
  | _,_,_,_,.cons r t,s=>.cons r (Vals.append t s)
theorem Vals.take:∀ {xs:List V} {us:List Value} (n:Nat),Vals xs us->Vals (xs.take n) (us.take n)
  | _,_,0,_=>.nil
  | _,_,_+1,.nil=>.nil
  | _,_,n+1,.cons r t=>.cons r (Vals.take n t)
theorem Vals.drop:∀ {xs:List V} {us:List Value} (n:Nat),Vals xs us->Vals (xs.drop n) (us.drop n)
  | _,_,0,r=>r
  | _,_,_+1,.nil=>.nil
  | _,_,n+1,.cons _ t=>Vals.drop n t
noncomputable def RelO:Option V->Option Value->Prop
  | some v,some u=>RelV v u
  | none,none=>True
  | _,_=>False
noncomputable def KV {κ:Type}:List (κ × V)->List (κ × Value)->Prop:=Paired fun (p:κ × V) (q:κ × Value)=>p.1=q.1/\RelV p.2 q.2
noncomputable def kV:Key->V
  | .inl i=>.int i
  | .inr x=>.str x
inductive HO where
  | lst (xs:List V)
  | tup (xs:List V)
  | dK (kvs:List (Key × V)) | dT (kvs:List (List Key × V))
  | set (S:Int->Bool) (n:Nat)
  | ins (C dx:Addr) (fs:List (Str × V))
  | own (x:Addr)
  | xd (fs:List (Str × V))
  | met (f x:Addr)
  | rng (lo hi:Int)
  | frz (o:Obj) (u:HO)
  | tbl (ps:Array Value)
  | ext (φ:Heap->Prop)
noncomputable abbrev Hp:=Addr->Option HO
noncomputable def upd (H:Hp) (a:Addr) (o:HO):Hp:=fun b=>if b=a then some o else H b
theorem bd {H:Hp} {a:Addr} {o:HO}:upd H a o a=some o:=by unfold upd;rw [if_pos rfl]
theorem aN {H:Hp} {a b:Addr} {o:HO} (h:b ≠ a):upd H a o b=H b:=by unfold upd;rw [if_neg h]
theorem ne_of {H:Hp} {a b:Addr} {o u:HO} (h:H a=some o) (h':H b=some u) (d:o ≠ u):a ≠ b:=by
  intro e;subst e;rw [h] at h';exact d (BC h')
theorem bA {H:Hp} {a b:Addr} {o:HO} (h:H a=some o) (h':H b=none):a ≠ b:=by
  intro e;subst e;rw [h] at h';cases h'
noncomputable def DictOfE {prog:Program} {w:World} {κ:Type} [DecidableEq κ] (knd:KeyKind prog w κ) (h:Heap) (a:Addr) (kvs:List (κ × Value)):Prop :=
  ∃ o es ep,h.get? a=some o/\o.ExactDict/\o.data=.dict es ep/\KeysOf knd es/\Pairs knd es.toList kvs/\(kvs.map (·.1)).Nodup/\ep=es.size
theorem DictOfE.of {prog:Program} {w:World} {κ:Type} [DecidableEq κ] {knd:KeyKind prog w κ} {h:Heap} {a:Addr} {kvs:List (κ × Value)} (x:DictOfE knd h a kvs):h.DictOf knd a kvs:=let ⟨o,es,ep,h1,h2,h3,h4,h5,h6,_⟩:=x;⟨o,es,ep,h1,h2,h3,h4,h5,h6⟩
noncomputable def IsTupD (h:Heap) (a:Addr) (items:Array Value):Prop:=∃ o,h.get? a=some o/\o.cls=.type "tuple"/\∃ n,(o.data,o.dict)=(Data.seq items n,none)
theorem IsTupD.tup {h:Heap} {a:Addr} {items:Array Value} (x:IsTupD h a items):IsTup h a items:=let ⟨o,e,c,n,d⟩:=x;⟨o,e,c,n,congrArg Prod.fst d⟩
theorem IsTupD.lt {h:Heap} {a:Addr} {items:Array Value} (x:IsTupD h a items):a < h.objs.size:=x.tup.lt
theorem IsTupD.new (h:Heap) (items:Array Value):IsTupD (h.push { cls:=.type "tuple",data:=.seq items }) h.objs.size items:=⟨_,A1 h rfl,rfl,_,rfl⟩
section
variable (P:Program) (w:World)
noncomputable def ObjOk (H:Hp) (h:Heap) (a:Addr):HO->Prop
  | .lst xs=>xs.length<=sizeLine/\∃ (its:List Value) (n:Nat),Vals xs its/\h.get? a=some { cls:=.type "list",data:=.seq its.toArray n }
  | .tup xs=>xs.length<=sizeLine/\∃ its:List Value,Vals xs its/\IsTupD h a its.toArray
  | .dK kvs=>kvs.length<=sizeLine/\(a == sysModules)=false/\∃ vs,KV kvs vs/\DictOfE (bK P w) h a vs
  | .dT kvs=>kvs.length<=sizeLine/\(a == sysModules)=false/\∃ xs:List (List Key × Addr × Value),
      Paired (fun (p:List Key × V) (q:List Key × Addr × Value)=>p.1=q.1/\H q.2.1=some (.tup (p.1.map kV))/\RelV p.2 q.2.2) kvs xs /\
      ∃ o es ep,h.get? a=some o/\o.ExactDict/\o.data=.dict es ep/\es.toList=xs.map (entryOfKey (tupleKind (bK P w)))/\(xs.map (·.1)).Nodup/\ep=es.size
  | .set S n=>h.SetOf (intKind P w) a S n
  | .ins C dx fs=>H dx=some (.own a)/\fs.length<=1000/\dx ≠ a/\h.get? a=some (PySem.W.instObj C dx) /\
      ∃ mA,h.Ns1 dx mA/\(∀ f,RelO (fs.lookup f) (mA f))/\PySem.Within mA (fs.map (·.1))
  | .own _=>∃ o,h.get? a=some o
  | .xd fs=>∃ mA,h.Ns1 a mA/\∀ f,RelO (fs.lookup f) (mA f)
  | .rng lo hi=>∃ t u v,h.get? a=some { cls:=.type "range",data:=.fields #[.int lo t,.int hi u,.int 1 v] }
  | .frz o u=>h.get? a=some o/\ObjOk H h a u
  | .tbl ps=>h.get? a=some { cls:=.none,data:=.fields ps }
  | .met f x=>h.get? a=some (PySem.W.methodObj (.ref f) (.ref x))
  | .ext φ=>φ h/\(∃ o,h.get? a=some o)/\∀ h1 h2:Heap,φ h1->(∀ o,h1.get? a=some o->h2.get? a=some o)->φ h2
noncomputable def HOk (H:Hp) (h:Heap):Prop:=∀ a o,H a=some o->ObjOk P w H h a o
end
section
variable {P:Program} {w:World} {H H':Hp} {h h':Heap} {a:Addr} {o:HO}
theorem ObjOk.lt (x:ObjOk P w H h a o):a < h.objs.size:=by
  cases o with
  | lst xs=>obtain ⟨_,_,_,_,e⟩:=x;exact AZ e
  | tup xs=>obtain ⟨_,_,_,p⟩:=x;exact p.lt
  | dK kvs=>obtain ⟨_,_,_,_,o,_,_,e,_⟩:=x;exact AZ e
  | dT kvs=>obtain ⟨_,_,_,_,o,_,_,e,_⟩:=x;exact AZ e
  | set S n=>obtain ⟨o,_,_,_,e,_⟩:=x;exact AZ e
  | ins C dx fs=>obtain ⟨_,_,_,e,_⟩:=x;exact AZ e
  | own y=>obtain ⟨_,e⟩:=x;exact AZ e
  | xd fs=>obtain ⟨_,⟨_,_,_,e,_⟩,_⟩:=x;exact AZ e
  | rng lo hi=>obtain ⟨_,_,_,e⟩:=x;exact AZ e
  | frz ob u=>obtain ⟨e,_⟩:=x;exact AZ e
  | tbl ps=>exact AZ (show h.get? a=some _ from x)
  | met f y=>exact AZ (show h.get? a=some _ from x)
  | ext φ=>obtain ⟨_,⟨_,e⟩,_⟩:=x;exact AZ e
theorem Paired.mapP {α β:Type} {F G:α->β->Prop}:∀ {l₁:List α} {l₂:List β},Paired F l₁ l₂->(∀ a b,F a b->G a b)->Paired G l₁ l₂
  | _,_,.nil,_=>.nil
  | _,_,.cons r t,f=>.cons (f _ _ r) (Paired.mapP t f)
theorem ObjOk.stay (x:ObjOk P w H h a o) (k:∀ b u,(b=a\/H b=some (.own a))->h.get? b=some u->h'.get? b=some u)
    (ho:∀ b,H b=some (.own a)->H' b=some (.own a)) (ht:∀ b xs,H b=some (.tup xs)->H' b=some (.tup xs)):ObjOk P w H' h' a o:=by
  induction o with
  | lst xs=>obtain ⟨z,its,n,r,e⟩:=x;exact ⟨z,its,n,r,k _ _ (.inl rfl) e⟩
  | tup xs=>obtain ⟨z,its,r,ob,e,c⟩:=x;exact ⟨z,its,r,ob,k _ _ (.inl rfl) e,c⟩
  | dK kvs=>obtain ⟨z,y,vs,r,ob,es,ep,e,c⟩:=x;exact ⟨z,y,vs,r,ob,es,ep,k _ _ (.inl rfl) e,c⟩
  | dT kvs =>
    obtain ⟨z,y,xs,r,ob,es,ep,e,c⟩:=x
    exact ⟨z,y,xs,Paired.mapP r fun p q z=>⟨z.1,ht _ _ z.2.1,z.2.2⟩,ob,es,ep,k _ _ (.inl rfl) e,c⟩
  | set S n=>obtain ⟨ob,es,ep,t,e,c⟩:=x;exact ⟨ob,es,ep,t,k _ _ (.inl rfl) e,c⟩
  | ins C dx fs =>
    obtain ⟨d,z,ne,e,mA,⟨od,es,ep,e2,c⟩,r⟩:=x
    exact ⟨ho _ d,z,ne,k _ _ (.inl rfl) e,mA,⟨od,es,ep,k _ _ (.inr d) e2,c⟩,r⟩
  | own y=>obtain ⟨ob,e⟩:=x;exact ⟨ob,k _ _ (.inl rfl) e⟩
  | xd fs=>obtain ⟨mA,⟨od,es,ep,e,c⟩,r⟩:=x;exact ⟨mA,⟨od,es,ep,k _ _ (.inl rfl) e,c⟩,r⟩
  | rng lo hi=>obtain ⟨t,u,v,e⟩:=x;exact ⟨t,u,v,k _ _ (.inl rfl) e⟩
  | frz ob u ih=>obtain ⟨e,q⟩:=x;exact ⟨k _ _ (.inl rfl) e,ih q⟩
  | tbl ps =>
    have e:h.get? a=some { cls:=.none,data:=.fields ps }:=x
    show h'.get? a=some { cls:=.none,data:=.fields ps }
    exact k a _ (.inl rfl) e
  | met f y =>
    have e:h.get? a=some (PySem.W.methodObj (.ref f) (.ref y)):=x
    show h'.get? a=some (PySem.W.methodObj (.ref f) (.ref y))
    exact k a _ (.inl rfl) e
  | ext φ=>obtain ⟨p,⟨o,e⟩,st⟩:=x;exact ⟨st _ _ p fun o q=>k _ _ (.inl rfl) q,⟨o,k _ _ (.inl rfl) e⟩,st⟩
theorem HOk.lt (x:HOk P w H h) (e:H a=some o):a < h.objs.size:=(x a o e).lt
theorem HOk.fresh (x:HOk P w H h) (e:h.objs.size<=a):H a=none:=by
  cases q:H a with
  | none=>rfl
  | some u=>exact absurd (Bf (x.lt q) e) (Nat.lt_irrefl _)
theorem HOk.kept (x:HOk P w H h) (k:∀ b u,h.get? b=some u->h'.get? b=some u):HOk P w H h':=fun a o e =>
  (x a o e).stay (fun b u _ q=>k b u q) (fun _ q=>q) fun _ _ q=>q
theorem HOk.laid (x:HOk P w H h) (k:∀ b u,h.get? b=some u->h'.get? b=some u) (hp:h.objs.size<=a) (new:ObjOk P w (upd H a o) h' a o):HOk P w (upd H a o) h':=fun b u e=>by
  have hn:=x.fresh hp
  by_cases hb:b=a
  · subst hb;rw [bd] at e;cases e;exact new
  · rw [aN hb] at e
    exact (x b u e).stay (fun c v _ q=>k c v q) (fun c q=>by rw [aN (bA q hn)];exact q) fun c xs q=>by rw [aN (bA q hn)];exact q
end
noncomputable def Rd (H:Hp) (a:Addr) (u:HO):Prop:=H a=some u\/∃ o,H a=some (.frz o u)
theorem Rd.ok {P:Program} {w:World} {H:Hp} {h:Heap} {a:Addr} {u:HO} (r:Rd H a u) (x:HOk P w H h):ObjOk P w H h a u:=by
  rcases r with r | ⟨o,r⟩
  · exact x a u r
  · obtain ⟨_,q⟩:=x a _ r
    exact q
noncomputable def Mut:Option HO->Prop
  | some (.lst _)=>True
  | some (.dK _)=>True
  | some (.dT _)=>True
  | some (.set _ _)=>True
  | some (.ins _ _ _)=>True
  | some (.ext _)=>True
  | _=>False
section
variable {P:Program} {w:World} {H:Hp} {h h':Heap} {x e:Addr} {o':HO}
theorem HOk.write (ok:HOk P w H h) (mu:Mut (H x)) (he:e=x\/H e=some (.own x)) (k:∀ b u,b ≠ e->h.get? b=some u->h'.get? b=some u) (heo:∃ u,h'.get? e=some u)
    (new:ObjOk P w (upd H x o') h' x o'):HOk P w (upd H x o') h':=fun b u q=>by
  have nown:∀ c y,H c=some (.own y)->c ≠ x:=fun c y r z=>by subst z;rw [r] at mu;exact mu
  have ntup:∀ c xs,H c=some (.tup xs)->c ≠ x:=fun c xs r z=>by subst z;rw [r] at mu;exact mu
  by_cases hb:b=x
  · subst hb;rw [bd] at q;cases q;exact new
  · rw [aN hb] at q
    by_cases hbe:b=e
    · have q':H b=some (.own x):=by
        rcases he with z | z
        · exact absurd (hbe.trans z) hb
        · rw [hbe];exact z
      rw [q] at q';cases q'
      obtain ⟨v,hv⟩:=heo
      exact ⟨v,by rw [hbe];exact hv⟩
    · refine (ok b u q).stay (fun c v hc r=>k c v ?_ r) (fun c r=>by rw [aN (nown c b r)];exact r) fun c xs r=>by rw [aN (ntup c xs r)];exact r
      rcases hc with rfl | hc
      · exact hbe
      · rintro rfl
        rcases he with z | z
        · exact nown c b hc z
        · rw [hc] at z;cases z;exact hb rfl
end
structure Un (fs ex:List Addr) (H H':Hp) (h h':Heap):Prop where
  keep:∀ b o,h.get? b=some o->H b=none->b ∉ fs->b ∉ ex->h'.get? b=some o
  slot:∀ b o,h.get? b=some o->H b=none->b ∈ fs->b ∉ ex->∃ sl,h'.get? b=some { o with slots:=sl }
  free:∀ b o,h.get? b=some o->H b=none->b ∉ ex->H' b=none
  there:∀ b o,h.get? b=some o->b ∉ ex->∃ o',h'.get? b=some o'
  tups:∀ b xs,H b=some (.tup xs)->H' b=some (.tup xs)
  frzs:∀ b o u,H b=some (.frz o u)->H' b=some (.frz o u)
  tbls:∀ b ps,H b=some (.tbl ps)->∃ more,H' b=some (.tbl (ps ++ more))
section
variable {fs fs' ex ex':List Addr} {H H1 H2:Hp} {h h1 h2 h':Heap} {a x e:Addr} {o:HO}
theorem Un.any (u:Un fs ex H H1 h h1) {b:Addr} {ob:Obj} (q:h.get? b=some ob) (n:H b=none) (hx:b ∉ ex):∃ sl,h1.get? b=some { ob with slots:=sl }:=by
  by_cases hb:b ∈ fs
  · exact u.slot b ob q n hb hx
  · exact ⟨ob.slots,u.keep b ob q n hb hx⟩
theorem Un.trans (a:Un fs ex H H1 h h1) (b:Un fs ex H1 H2 h1 h2):Un fs ex H H2 h h2 where
  keep:=fun c ob q n hc hx=>b.keep c ob (a.keep c ob q n hc hx) (a.free c ob q n hx) hc hx
  slot:=fun c ob q n hc hx=>by
    obtain ⟨sl,e1⟩:=a.slot c ob q n hc hx
    obtain ⟨sl',e2⟩:=b.slot c _ e1 (a.free c ob q n hx) hc hx
    exact ⟨sl',e2⟩
  free:=fun c ob q n hx=>by
    obtain ⟨o',e1⟩:=a.there c ob q hx
    exact b.free c o' e1 (a.free c ob q n hx) hx
  there:=fun c ob q hx=>by
    obtain ⟨o',e1⟩:=a.there c ob q hx
    exact b.there c o' e1 hx
  tups:=fun c xs q=>b.tups c xs (a.tups c xs q)
  frzs:=fun c ob xs q=>b.frzs c ob xs (a.frzs c ob xs q)
  tbls:=fun c ps q=>by
    obtain ⟨m1,e1⟩:=a.tbls c ps q
    obtain ⟨m2,e2⟩:=b.tbls c _ e1
    exact ⟨m1 ++ m2,by rw [e2,Array.append_assoc]⟩
theorem Un.kept (k:∀ b u,h.get? b=some u->h'.get? b=some u):Un fs ex H H h h' :=
  ⟨fun b ob q _ _ _=>k b ob q,fun b ob q _ _ _=>⟨ob.slots,k b ob q⟩,fun _ _ _ n _=>n,fun b ob q _=>⟨ob,k b ob q⟩,fun _ _ q=>q,fun _ _ _ q=>q,fun _ ps q=>⟨#[],by rw [q];simp⟩⟩
theorem Un.refl:Un fs ex H H h h:=Un.kept fun _ _ q=>q
theorem Un.laid (k:∀ b u,h.get? b=some u->h'.get? b=some u) (hp:h.objs.size<=a) (hn:H a=none):Un fs ex H (upd H a o) h h' where
  keep:=fun b u q _ _ _=>k b u q
  slot:=fun b u q _ _ _=>⟨u.slots,k b u q⟩
  free:=fun b u q n _=>by rw [aN (Ba (Bf (AZ q) hp))];exact n
  there:=fun b u q _=>⟨u,k b u q⟩
  tups:=fun b xs q=>by rw [aN (bA q hn)];exact q
  frzs:=fun b u xs q=>by rw [aN (bA q hn)];exact q
  tbls:=fun b ps q=>⟨#[],by rw [aN (bA q hn),q];simp⟩
theorem Un.write (mu:Mut (H x)) (he:e=x\/H e=some (.own x)) (k:∀ b u,b ≠ e->h.get? b=some u->h'.get? b=some u) (heo:∃ u,h'.get? e=some u):Un fs ex H (upd H x o) h h':=by
  have hx:∀ b,H b=none->b ≠ x:=fun b n z=>by subst z;rw [n] at mu;exact mu
  have hb:∀ b,H b=none->b ≠ e:=fun b n z=>by
    subst z
    rcases he with r | r
    · exact hx b n r
    · rw [n] at r;cases r
  have hm:∀ b u,H b=some u->¬ Mut (some u)->b ≠ x:=fun b u q nm z=>by subst z;rw [q] at mu;exact nm mu
  refine ⟨fun b u q n _ _=>k b u (hb b n) q,fun b u q n _ _=>⟨u.slots,k b u (hb b n) q⟩,fun b u q n _=>by rw [aN (hx b n)];exact n,fun b u q _=>?_,
    fun b xs q=>by rw [aN (hm b _ q fun z=>z)];exact q,fun b u xs q=>by rw [aN (hm b _ q fun z=>z)];exact q,fun b ps q=>⟨#[],by rw [aN (hm b _ q fun z=>z),q];simp⟩⟩
  by_cases hbe:b=e
  · subst hbe;exact heo
  · exact ⟨u,k b u hbe q⟩
end
noncomputable def trk (h:Heap) (H:Hp):List Addr:=(List.range h.objs.size).filter fun a=>(H a).isSome
noncomputable def nR (h:Heap) (H:Hp):Heap:=PySem.W.hideAll h (trk h H)
theorem tK (h:Heap) (H:Hp):(nR h H).objs.size=h.objs.size:=PySem.W.hideAll_size _ _
theorem vU {h:Heap} {H:Hp} {b:Addr} {o:Obj} (e:h.get? b=some o) (n:H b=none):(nR h H).get? b=some o :=
  PySem.W.hideAll_get _ e fun hm=>by
    have q:(H b).isSome=true:=(Br.mp hm).2
    rw [n] at q;simp at q
theorem xP {h:Heap} {H:Hp} {b:Addr} {o:Obj} (e:(nR h H).get? b=some o):h.get? b=some o/\H b=none:=by
  have e':h.get? b=some o:=PySem.W.of_hideAll (trk h H) e
  refine ⟨e',?_⟩
  cases q:H b with
  | none=>rfl
  | some x =>
    have hm:b ∈ trk h H:=Br.mpr ⟨List.mem_range.mpr (AZ e'),by simp [q]⟩
    have z:(nR h H).get? b=none:=PySem.W.hideAll_none (trk h H) hm
    rw [z] at e;cases e
noncomputable def yD (g h:Heap) (L:Addr):List (Addr × Obj):=(List.range h.objs.size).filterMap fun a=>if a=L\/(g.get? a).isSome=true then none else (h.get? a).map fun o=>(a,o)
noncomputable def ig (g h:Heap) (L d:Addr):List (Addr × Obj):=(yD g h L).filter fun p=>decide (p.1 ≠ d)
end L2
namespace L2
open PySem PySem.Spec PyProof.Rows
structure Mod (K:FG) (mg:Str->Option Value) (base:Heap):Prop where
  kin:K.In base
  glob:base.Ns mainGlobals mg
  blt:∃ mb,base.Ns builtinsNs mb/\∀ x:Str,x ≠ "__name__"->mb x=bootBuiltins x
  nolimit:base.NoLimit
structure Cx where
  prog:Program
  w:World
  K:FG
  mg:Str->Option Value
  base:Heap
  A:Around
  N:List Str
  s₀:Shared
  H₀:Hp
  env:Env
  outer:List Env
  stack:List Env
  ex:List Addr
  fn:Str->Bool
  calm:Bool
  pn:List (Addr × Obj)
  xe:Value->Shared->Prop
noncomputable def frs (l:List Env):List Addr:=l.filterMap (·.frame)
noncomputable abbrev Cx.fs (X:Cx):List Addr:=frs X.outer
noncomputable def Vis (sc:Scope) (x:Str):Prop:=sc.names.lookup x=some .local\/sc.names.lookup x=some .cell\/sc.names.lookup x=some .free
noncomputable def Loc (sc:Scope) (x:Str):Prop:=sc.names.lookup x=some .local\/sc.names.lookup x=some .cell
noncomputable def Look (env:Env) (h:Heap) (m:Str->Option Value) (x:Str) (u:Value):Prop :=
  (env.kindOf x=some .local/\m x=some u)\/((env.kindOf x=some .cell\/env.kindOf x=some .free)/\∃ c,env.cells.lookup x=some c/\h.IsCell c (some u))
structure Cx.Ok (X:Cx):Prop where
  mod:Mod X.K X.mg X.base
  kind:X.env.scope.kind=.function
  glob:X.env.globals=mainGlobals
  blt:X.env.builtins=builtinsNs
  above:X.s₀.heap.objs.size<=X.env.locals
  inj:∀ x y c,X.env.cells.lookup x=some c->X.env.cells.lookup y=some c->x=y
  has:∀ x,(X.env.kindOf x=some .cell\/X.env.kindOf x=some .free)->∃ c,X.env.cells.lookup x=some c
  cab:∀ x c,X.fn x=true->X.env.cells.lookup x=some c->X.s₀.heap.objs.size<=c
  hd:X.calm=true->X.A.handled=none
  frames:X.A.frames=some X.stack
  stk:X.stack=X.outer\/(X.stack=X.env :: X.outer/\X.env.frame=some X.env.locals)
  exf:∀ b ∈ X.ex,b ≠ X.env.locals/\∀ x c,X.env.cells.lookup x=some c->c ≠ b
  bs:∀ b o,X.base.get? b=some o->X.s₀.heap.get? b=some o/\X.H₀ b=none
  bsz:X.base.objs.size<=X.s₀.heap.objs.size
  noex:∀ b o,X.base.get? b=some o->b ∉ X.ex
  exfs:∀ b ∈ X.ex,b ∉ X.fs
  funs:X.s₀.heap.FunFrames X.base X.outer
  frf:∀ b ∈ X.fs,X.H₀ b=none
structure Inv (X:Cx) (pins:List (Addr × Obj)) (σ:List (Option V)) (H:Hp) (s:Shared):Prop where
  ok:X.Ok
  os:s.os=X.s₀.os
  bare:AllBare s.gens
  base:Un X.fs X.ex X.H₀ H X.s₀.heap s.heap
  loc:∃ m,s.heap.Ns X.env.locals m/\∀ (i:Nat) (x:Str) (v:V),X.N[i]?=some x->σ[i]?=some (some v)->Vis X.env.scope x->∃ u,RelV v u/\Look X.env s.heap m x u
  cell:∀ x c,X.env.cells.lookup x=some c->∃ v,s.heap.IsCell c v
  free:H X.env.locals=none
  freeC:∀ x c,X.env.cells.lookup x=some c->H c=none
  pin:∀ p ∈ X.pn ++ pins,s.heap.get? p.1=some p.2/\H p.1=none/\p.1 ≠ X.env.locals/\p.1 ∉ X.fs/\∀ v,p.2.data ≠ .cell v
  hok:HOk X.prog X.w H s.heap
  len:σ.length=X.N.length
section
variable {X:Cx} {pins:List (Addr × Obj)} {σ:List (Option V)} {H H':Hp} {s:Shared} {h':Heap}
theorem Cx.Ok.nofr (ok:X.Ok) {b:Addr} {o:Obj} (e:X.base.get? b=some o):b ∉ X.fs:=fun hb=>by
  have:=(ok.funs.mem hb).1
  rw [e] at this;cases this
theorem Inv.bs (I:Inv X pins σ H s):∀ b o,X.base.get? b=some o->s.heap.get? b=some o/\H b=none:=fun b o e =>
  ⟨I.base.keep b o (I.ok.bs b o e).1 (I.ok.bs b o e).2 (I.ok.nofr e) (I.ok.noex b o e),I.base.free b o (I.ok.bs b o e).1 (I.ok.bs b o e).2 (I.ok.noex b o e)⟩
theorem Inv.bk (I:Inv X pins σ H s):∀ b o,X.base.get? b=some o->s.heap.get? b=some o:=fun b o e=>(I.bs b o e).1
theorem Inv.mod (I:Inv X pins σ H s):Mod X.K X.mg X.base:=I.ok.mod
theorem Inv.kIn (I:Inv X pins σ H s):X.K.In s.heap:=I.ok.mod.kin.keeps I.bk
theorem Inv.lt (I:Inv X pins σ H s):X.env.locals < s.heap.objs.size:=let ⟨_,hn,_⟩:=I.loc;hn.lt
theorem Inv.sz (I:Inv X pins σ H s):X.s₀.heap.objs.size<=s.heap.objs.size:=Bw I.ok.above (Nat.le_of_lt I.lt)
theorem Inv.nofs (I:Inv X pins σ H s) {a:Addr} (h:s.heap.objs.size<=a):a ∉ X.fs:=fun hb=>by
  obtain ⟨_,o,ho,_⟩:=I.ok.funs.mem hb
  exact absurd (Bf (AZ ho) (Bw I.sz h)) (Nat.lt_irrefl _)
theorem Inv.cne (I:Inv X pins σ H s):∀ x c,X.env.cells.lookup x=some c->c ≠ X.env.locals:=fun x c e z=>by
  obtain ⟨v,o,ho,hd⟩:=I.cell x c e
  obtain ⟨m,⟨o',es,ep,ho',hd',_⟩,_⟩:=I.loc
  rw [z,ho'] at ho;cases ho;rw [hd'] at hd;cases hd
theorem Inv.funs (I:Inv X pins σ H s):s.heap.FunFrames X.base X.outer:=by
  have all:∀ (l:List Env),(∀ b ∈ frs l,b ∈ X.fs)->X.s₀.heap.FunFrames X.base l->s.heap.FunFrames X.base l:=by
    intro l
    induction l with
    | nil=>intro _ _;trivial
    | cons env r ih =>
      intro hs hl
      obtain ⟨hk,⟨L,o,hf,hn,ho,hd⟩,hr⟩:=hl
      have hL:L ∈ X.fs:=hs L (by unfold frs;rw [List.filterMap_cons,hf];exact AR)
      obtain ⟨sl,e⟩:=I.base.slot L o ho (I.ok.frf L hL) hL fun z=>I.ok.exfs L z hL
      exact ⟨hk,⟨L,_,hf,hn,e,hd⟩,ih (fun b hb=>hs b (by unfold frs;rw [List.filterMap_cons,hf];exact AS _ hb)) hr⟩
  exact all X.outer (fun _ hb=>hb) I.ok.funs
theorem Inv.stack (I:Inv X pins σ H s):s.heap.FunFrames X.base X.stack:=by
  rcases I.ok.stk with e | ⟨e,hf⟩
  · rw [e];exact I.funs
  · rw [e]
    obtain ⟨m,hn,_⟩:=I.loc
    refine .cons (by rw [I.ok.kind];decide) hf hn ?_ I.funs
    exact Heap.get?_none_of_le (Bw I.ok.bsz I.ok.above)
theorem Inv.stkSub (I:Inv X pins σ H s):∀ b ∈ frs X.stack,b ∈ X.env.locals :: X.fs:=fun b hb=>by
  rcases I.ok.stk with e | ⟨e,hf⟩
  · rw [e] at hb;exact AS _ hb
  · rw [e] at hb
    unfold frs at hb
    rw [List.filterMap_cons,hf] at hb
    exact hb
theorem Inv.stkFree (I:Inv X pins σ H s):∀ b ∈ frs X.stack,H b=none:=fun b hb=>by
  rcases AX.mp (I.stkSub b hb) with e | hb
  · rw [e];exact I.free
  · obtain ⟨_,o,ho,_⟩:=I.ok.funs.mem hb
    exact I.base.free b o ho (I.ok.frf b hb) fun z=>I.ok.exfs b z hb
theorem Inv.step {g':Array GenState} {t':Nat} {d':Drawn} {ch:List Addr} (I:Inv X pins σ H s)
    (hch:∀ b ∈ ch,(b ∈ X.ex\/X.s₀.heap.objs.size<=b)/\b ≠ X.env.locals/\(∀ x c,X.env.cells.lookup x=some c->c ≠ b)/\∀ p ∈ X.pn ++ pins,p.1 ≠ b)
    (keep:∀ b o,b ≠ X.env.locals->b ∉ X.fs->b ∉ ch->s.heap.get? b=some o->H b=none->h'.get? b=some o)
    (slot:∀ b o,b ≠ X.env.locals->b ∈ X.fs->b ∉ ch->s.heap.get? b=some o->H b=none->∃ sl,h'.get? b=some { o with slots:=sl }) (free:∀ b o,b ∉ ch->s.heap.get? b=some o->H b=none->H' b=none)
    (there:∀ b o,b ∉ ch->s.heap.get? b=some o->∃ o',h'.get? b=some o')
    (tups:∀ b xs,H b=some (.tup xs)->H' b=some (.tup xs)) (frzs:∀ b o u,H b=some (.frz o u)->H' b=some (.frz o u)) (tbls:∀ b ps,H b=some (.tbl ps)->∃ more,H' b=some (.tbl (ps ++ more)))
    (ns:∀ m,s.heap.Ns X.env.locals m->h'.Ns X.env.locals m) (hok:HOk X.prog X.w H' h') (hg:AllBare g') :
    Inv X pins σ H' { s with heap:=h',gens:=g',drawn:=d',toks:=t' }:=by
  have neL:∀ b o,X.s₀.heap.get? b=some o->b ≠ X.env.locals:=fun b o e=>Ba (Bf (AZ e) I.ok.above)
  have neC:∀ b o,X.s₀.heap.get? b=some o->b ∉ X.ex->b ∉ ch:=fun b o e hx hb=>by
    rcases (hch b hb).1 with z | z
    · exact hx z
    · exact absurd (Bf (AZ e) z) (Nat.lt_irrefl _)
  have cellK:∀ x c,X.env.cells.lookup x=some c->∀ v,s.heap.IsCell c v->h'.IsCell c v:=fun x c e v ⟨o,ho,hd⟩=>by
    have nch:c ∉ ch:=fun z=>(hch c z).2.2.1 x c e rfl
    by_cases hc:c ∈ X.fs
    · obtain ⟨sl,q⟩:=slot c o (I.cne x c e) hc nch ho (I.freeC x c e)
      exact ⟨_,q,hd⟩
    · exact ⟨o,keep c o (I.cne x c e) hc nch ho (I.freeC x c e),hd⟩
  refine ⟨I.ok,I.os,hg,⟨fun b o e n hb hx=>?_,fun b o e n hb hx=>?_,fun b o e n hx=>?_,fun b o e hx=>?_,fun b xs e=>tups b xs (I.base.tups b xs e),fun b o xs e=>frzs b o xs (I.base.frzs b o xs e),fun b ps e=>?_⟩,?_,fun x c e=>?_,?_,fun x c e=>?_,fun p hp=>?_,hok,I.len⟩
  · exact keep b o (neL b o e) hb (neC b o e hx) (I.base.keep b o e n hb hx) (I.base.free b o e n hx)
  · obtain ⟨sl,e1⟩:=I.base.slot b o e n hb hx
    obtain ⟨sl',e2⟩:=slot b _ (neL b o e) hb (neC b o e hx) e1 (I.base.free b o e n hx)
    exact ⟨sl',e2⟩
  · obtain ⟨o',e1⟩:=I.base.there b o e hx
    exact free b o' (neC b o e hx) e1 (I.base.free b o e n hx)
  · obtain ⟨o',e1⟩:=I.base.there b o e hx
    exact there b o' (neC b o e hx) e1
  · obtain ⟨m1,e1⟩:=I.base.tbls b ps e
    obtain ⟨m2,e2⟩:=tbls b _ e1
    exact ⟨m1 ++ m2,by rw [e2,Array.append_assoc]⟩
  · obtain ⟨m,hn,hl⟩:=I.loc
    refine ⟨m,ns m hn,fun i x v e1 e2 e3=>?_⟩
    obtain ⟨u,r,l⟩:=hl i x v e1 e2 e3
    refine ⟨u,r,?_⟩
    rcases l with l | ⟨k,c,e,z⟩
    · exact .inl l
    · exact .inr ⟨k,c,e,cellK x c e _ z⟩
  · obtain ⟨v,z⟩:=I.cell x c e
    exact ⟨v,cellK x c e v z⟩
  · obtain ⟨m,⟨o,_,_,ho,_⟩,_⟩:=I.loc
    exact free _ o (fun z=>(hch _ z).2.1 rfl) ho I.free
  · obtain ⟨v,o,ho,hd⟩:=I.cell x c e
    exact free c o (fun z=>(hch c z).2.2.1 x c e rfl) ho (I.freeC x c e)
  · obtain ⟨e,n,ne,nf,d⟩:=I.pin p hp
    have nch:p.1 ∉ ch:=fun z=>(hch p.1 z).2.2.2 p hp rfl
    exact ⟨keep p.1 p.2 ne nf nch e n,free p.1 p.2 nch e n,ne,nf,d⟩
theorem Inv.un {t':Nat} (I:Inv X pins σ H s) (u:Un X.fs [] H H' s.heap h') (hok:HOk X.prog X.w H' h'):Inv X pins σ H' { s with heap:=h',toks:=t' }:=by
  obtain ⟨m,⟨o,es,ep,ho,r⟩,_⟩:=id I.loc
  obtain ⟨sl,hL⟩:=u.any ho I.free (by simp)
  exact I.step (g':=s.gens) (d':=s.drawn) (ch:=[]) (fun _ z=>nomatch z) (fun b o _ hb _ e n=>u.keep b o e n hb (by simp)) (fun b o _ hb _ e n=>u.slot b o e n hb (by simp)) (fun b o _ e n=>u.free b o e n (by simp)) (fun b o _ e=>u.there b o e (by simp)) u.tups u.frzs u.tbls (fun m' hm=>by
    obtain ⟨o',es',ep',ho',r'⟩:=hm
    rw [ho] at ho';cases ho'
    exact ⟨_,es',ep',hL,r'⟩) hok I.bare
theorem Inv.call {g':Array GenState} {t':Nat} {d':Drawn} {ch:List Addr} (I:Inv X pins σ H s) (u:Un (frs X.stack) ch H H' s.heap h') (hok:HOk X.prog X.w H' h') (hg:AllBare g')
    (hch:∀ b ∈ ch,(b ∈ X.ex\/X.s₀.heap.objs.size<=b)/\b ≠ X.env.locals/\(∀ x c,X.env.cells.lookup x=some c->c ≠ b)/\∀ p ∈ X.pn ++ pins,p.1 ≠ b) :
    Inv X pins σ H' { s with heap:=h',gens:=g',drawn:=d',toks:=t' }:=by
  obtain ⟨m,⟨o,es,ep,ho,r⟩,_⟩:=id I.loc
  obtain ⟨sl,hL⟩:=u.any ho I.free fun z=>(hch _ z).2.1 rfl
  exact I.step (ch:=ch) hch (fun b o hL hb hc e n=>u.keep b o e n (fun z=>(AX.mp (I.stkSub b z)).elim hL hb) hc) (fun b o _ _ hc e n=>u.any e n hc) (fun b o hc e n=>u.free b o e n hc) (fun b o hc e=>u.there b o e hc) u.tups u.frzs u.tbls (fun m' hm=>by
    obtain ⟨o',es',ep',ho',r'⟩:=hm
    rw [ho] at ho';cases ho'
    exact ⟨_,es',ep',hL,r'⟩) hok hg
theorem Inv.turned {t':Nat} {it:Addr} (I:Inv X pins σ H s) (k:∀ b o,b ≠ it->s.heap.get? b=some o->h'.get? b=some o) (hn:H it=none) (hL:it ≠ X.env.locals)
    (h1:it ∈ X.ex\/X.s₀.heap.objs.size<=it) (h2:∀ x c,X.env.cells.lookup x=some c->c ≠ it) (h3:∀ p ∈ X.pn ++ pins,p.1 ≠ it):Inv X pins σ H { s with heap:=h',toks:=t' }:=by
  have nit:∀ b u,H b=some u->b ≠ it:=fun b u e z=>by rw [z,hn] at e;cases e
  refine I.step (g':=s.gens) (d':=s.drawn) (ch:=[it]) (fun b hb=>?_) (fun b o _ _ hc e _=>k b o (fun z=>hc (by simp [z])) e) (fun b o _ _ hc e _=>⟨o.slots,k b o (fun z=>hc (by simp [z])) e⟩) (fun _ _ _ _ n=>n)
    (fun b o hc e=>⟨o,k b o (fun z=>hc (by simp [z])) e⟩) (fun _ _ e=>e) (fun _ _ _ e=>e) (fun b ps e=>⟨#[],by rw [e];simp⟩) (fun m hm=>?_) (fun b u e=>?_) I.bare
  · have e:b=it:=by simpa using hb
    subst e
    exact ⟨h1,hL,h2,h3⟩
  · obtain ⟨o,es,ep,ho,r⟩:=hm
    exact ⟨o,es,ep,k _ o (Ne.symm hL) ho,r⟩
  · refine (I.hok b u e).stay (fun c v hc q=>k c v ?_ q) (fun _ q=>q) fun _ _ q=>q
    rcases hc with z | z
    · rw [z];exact nit b u e
    · exact nit c _ z
theorem Inv.tok (I:Inv X pins σ H s) (t:Nat):Inv X pins σ H { s with toks:=t }:=I.un (h':=s.heap) (t':=t) Un.refl I.hok
theorem Inv.kept {t':Nat} (I:Inv X pins σ H s) (k:∀ b u,s.heap.get? b=some u->h'.get? b=some u):Inv X pins σ H { s with heap:=h',toks:=t' }:=I.un (Un.kept k) (I.hok.kept k)
theorem Inv.laid {a:Addr} {o:HO} {t':Nat} (I:Inv X pins σ H s) (k:∀ b u,s.heap.get? b=some u->h'.get? b=some u) (hp:s.heap.objs.size<=a) (new:ObjOk X.prog X.w (upd H a o) h' a o) :
    Inv X pins σ (upd H a o) { s with heap:=h',toks:=t' }:=I.un (Un.laid k hp (I.hok.fresh hp)) (I.hok.laid k hp new)
theorem Inv.write {x e:Addr} {o:HO} {t':Nat} (I:Inv X pins σ H s) (mu:Mut (H x)) (he:e=x\/H e=some (.own x)) (k:∀ b u,b ≠ e->s.heap.get? b=some u->h'.get? b=some u) (heo:∃ u,h'.get? e=some u)
    (new:ObjOk X.prog X.w (upd H x o) h' x o):Inv X pins σ (upd H x o) { s with heap:=h',toks:=t' }:=I.un (Un.write mu he k heo) (I.hok.write mu he k heo new)
theorem Inv.pins_of {pins':List (Addr × Obj)} (I:Inv X pins σ H s) (h:∀ p ∈ pins',s.heap.get? p.1=some p.2/\H p.1=none/\p.1 ≠ X.env.locals/\p.1 ∉ X.fs/\∀ v,p.2.data ≠ .cell v):Inv X pins' σ H s :=
  ⟨I.ok,I.os,I.bare,I.base,I.loc,I.cell,I.free,I.freeC,fun p hp=>(A0.mp hp).elim (fun z=>I.pin p (AV _ z)) (h p),I.hok,I.len⟩
theorem o8 {N:List Str} (hN:N.Nodup) {i j:Nat} {x:Str} (a:N[i]?=some x) (b:N[j]?=some x):i=j:=by
  obtain ⟨h1,e1⟩:=A3.mp a
  obtain ⟨h2,e2⟩:=A3.mp b
  exact (List.getElem_inj hN).mp (e1.trans e2.symm)
theorem mx {M:Model} {A:Around} {E:Value->Shared->Prop} {i:Nat} {x:Str} {v:V} {u:Value} {Q:Unit->Shared->Prop} (I:Inv X pins σ H s) (hN:X.N.Nodup) (hi:X.N[i]?=some x) (hx:Loc X.env.scope x) (r:RelV v u)
    (h:∀ s',Inv X pins (σ.set i (some v)) H s'->(∃ a,Heap.SameBut a s.heap s'.heap/\(a=X.env.locals\/X.env.cells.lookup x=some a))->Q () s') (hf:X.fn x=true\/X.env.scope.names.lookup x=some .local:=by first | exact .inl rfl | exact .inr rfl | assumption):wpAny M A (storeName X.env x u) Q E s:=by
  obtain ⟨m,hn,hl⟩:=id I.loc
  have hcls:(X.env.scope.kind == .class || (X.env.scope.kind == .module && X.env.locals != X.env.globals))=false:=by rw [I.ok.kind];rfl
  have hiσ:i < σ.length:=by rw [I.len];exact (A3.mp hi).1
  have cne:=I.cne
  have tracked:∀ {a:Addr} {h':Heap},(∃ o,s.heap.get? a=some o/\H a=none)->Heap.SameBut a s.heap h'->HOk X.prog X.w H h':=fun {a h'} ha hs b ob e=>by
    obtain ⟨_,_,hfree⟩:=ha
    refine (I.hok b ob e).stay (fun c w' hc q=>(hs.2 c ?_).trans q) (fun _ q=>q) fun _ _ q=>q
    rintro rfl
    rcases hc with rfl | hc
    · rw [hfree] at e;cases e
    · rw [hfree] at hc;cases hc
  rcases hx with hk | hk
  · refine wpAny_storeName_local hk hn (fun h' hn' hs=>?_) hcls
    obtain ⟨oL,_,_,hoL,_⟩:=id hn
    refine h _ ⟨I.ok,I.os,I.bare,⟨fun b o e n hb hx=>?_,fun b o e n hb hx=>?_,I.base.free,fun b o e hx=>?_,I.base.tups,I.base.frzs,I.base.tbls⟩,⟨_,hn',fun j y v' e1 e2 e3=>?_⟩,fun y c e=>?_,I.free,I.freeC,fun p hp=>?_,tracked ⟨oL,hoL,I.free⟩ hs,by simpa using I.len⟩ ⟨_,hs,.inl rfl⟩
    · exact (hs.2 b (Ba (Bf (AZ e) I.ok.above))).trans (I.base.keep b o e n hb hx)
    · obtain ⟨sl,e1⟩:=I.base.slot b o e n hb hx
      exact ⟨sl,(hs.2 b (Ba (Bf (AZ e) I.ok.above))).trans e1⟩
    · obtain ⟨o',e1⟩:=I.base.there b o e hx
      exact ⟨o',(hs.2 b (Ba (Bf (AZ e) I.ok.above))).trans e1⟩
    · by_cases hj:j=i
      · subst hj
        rw [hi] at e1;cases e1
        rw [List.getElem?_set_self hiσ] at e2
        cases e2
        exact ⟨u,r,.inl ⟨hk,by simp⟩⟩
      · rw [List.getElem?_set_ne (Ne.symm hj)] at e2
        obtain ⟨u',r',q⟩:=hl j y v' e1 e2 e3
        refine ⟨u',r',?_⟩
        rcases q with ⟨k,e⟩ | ⟨k,c,e,z⟩
        · refine .inl ⟨k,?_⟩
          have:y ≠ x:=fun e=>hj (o8 hN e1 (e ▸ hi))
          simp [this,e]
        · exact .inr ⟨k,c,e,z.sameBut hs (cne y c e)⟩
    · obtain ⟨w',z⟩:=I.cell y c e
      exact ⟨w',z.sameBut hs (cne y c e)⟩
    · obtain ⟨e,n,ne,nf,d⟩:=I.pin p hp
      exact ⟨(hs.2 p.1 ne).trans e,n,ne,nf,d⟩
  · have hfn:X.fn x=true:=by
      rcases hf with z | z
      · exact z
      · rw [z] at hk;cases hk
    obtain ⟨c,hc⟩:=I.ok.has x (.inl hk)
    obtain ⟨w',z⟩:=I.cell x c hc
    refine wpAny_storeName_cell I.ok.kind hk hc z (fun h' hc' hs=>?_)
    obtain ⟨oc,hoc,hocd⟩:=id z
    refine h { s with heap:=h' } ⟨I.ok,I.os,I.bare,⟨fun b o e n hb hx=>?_,fun b o e n hb hx=>?_,I.base.free,fun b o e hx=>?_,I.base.tups,I.base.frzs,I.base.tbls⟩,⟨m,hn.sameBut hs (Ne.symm (cne x c hc)),fun j y v' e1 e2 e3=>?_⟩,fun y c' e=>?_,I.free,I.freeC,fun p hp=>?_,tracked ⟨oc,hoc,I.freeC x c hc⟩ hs,by simpa using I.len⟩ ⟨c,hs,.inr hc⟩
    · exact (hs.2 b (Ba (Bf (AZ e) (I.ok.cab x c hfn hc)))).trans (I.base.keep b o e n hb hx)
    · obtain ⟨sl,e1⟩:=I.base.slot b o e n hb hx
      exact ⟨sl,(hs.2 b (Ba (Bf (AZ e) (I.ok.cab x c hfn hc)))).trans e1⟩
    · obtain ⟨o',e1⟩:=I.base.there b o e hx
      exact ⟨o',(hs.2 b (Ba (Bf (AZ e) (I.ok.cab x c hfn hc)))).trans e1⟩
    · by_cases hj:j=i
      · subst hj
        rw [hi] at e1;cases e1
        rw [List.getElem?_set_self hiσ] at e2
        cases e2
        exact ⟨u,r,.inr ⟨.inl hk,c,hc,hc'⟩⟩
      · rw [List.getElem?_set_ne (Ne.symm hj)] at e2
        obtain ⟨u',r',q⟩:=hl j y v' e1 e2 e3
        refine ⟨u',r',?_⟩
        rcases q with q | ⟨k,c',e,z'⟩
        · exact .inl q
        · refine .inr ⟨k,c',e,z'.sameBut hs ?_⟩
          rintro rfl
          exact hj (o8 hN e1 (I.ok.inj _ _ _ e hc ▸ hi))
    · by_cases hcc:c'=c
      · subst hcc;exact ⟨_,hc'⟩
      · obtain ⟨w2,z2⟩:=I.cell y c' e
        exact ⟨w2,z2.sameBut hs hcc⟩
    · obtain ⟨e,n,ne,nf,d⟩:=I.pin p hp
      refine ⟨(hs.2 p.1 ?_).trans e,n,ne,nf,d⟩
      intro q
      rw [q,hoc] at e
      have q':oc=p.2:=BC e
      exact d w' (by rw [<- q'];exact hocd)
theorem oI {M:Model} {A:Around} {E:Value->Shared->Prop} {i:Nat} {x:Str} {v:V} {u:Value} {Q:Unit->Shared->Prop} (I:Inv X pins σ H s) (hN:X.N.Nodup) (hi:X.N[i]?=some x) (hx:Loc X.env.scope x) (r:RelV v u)
    (h:∀ s',Inv X pins (σ.set i (some v)) H s'->Q () s') (hf:X.fn x=true\/X.env.scope.names.lookup x=some .local:=by first | exact .inl rfl | exact .inr rfl | assumption):wpAny M A (storeName X.env x u) Q E s :=
  mx I hN hi hx r (fun s' I' _=>h s' I') hf
theorem Inv.call' {s':Shared} {ch:List Addr} (I:Inv X pins σ H s) (ho:s'.os=s.os) (u:Un (frs X.stack) ch H H' s.heap s'.heap) (hok:HOk X.prog X.w H' s'.heap) (hg:AllBare s'.gens)
    (hch:∀ b ∈ ch,(b ∈ X.ex\/X.s₀.heap.objs.size<=b)/\b ≠ X.env.locals/\(∀ x c,X.env.cells.lookup x=some c->c ≠ b)/\∀ p ∈ X.pn ++ pins,p.1 ≠ b):Inv X pins σ H' s':=by
  obtain ⟨h',g',d',t',o'⟩:=s'
  have e:o'=s.os:=ho
  subst e
  exact I.call (g':=g') (t':=t') (d':=d') u hok hg hch
end
noncomputable abbrev XK:=Value->Option Addr->Hp->Prop
noncomputable abbrev St:=List (Option V)
noncomputable abbrev VK:=V->Hp->Prop
noncomputable abbrev TE:=St->Hp->VK->Prop
noncomputable abbrev TT:=St->Hp->(Bool->Hp->Prop)->Prop
noncomputable abbrev TA:=St->Hp->(List V->Hp->Prop)->Prop
structure Ends where
  nx:St->Hp->Prop
  rt:VK
  bk:St->Hp->Prop:=fun _ _=>False
  ct:St->Hp->Prop:=fun _ _=>False
noncomputable abbrev TS:=Ends->St->Hp->Prop
noncomputable def EP (X:Cx) (pins:List (Addr × Obj)) (σ:St) (Q:VK) (u:Value) (s':Shared):Prop:=∃ v H',Inv X pins σ H' s'/\RelV v u/\Q v H'
noncomputable def TP (X:Cx) (pins:List (Addr × Obj)) (σ:St) (Q:Bool->Hp->Prop) (b:Bool) (s':Shared):Prop:=∃ H',Inv X pins σ H' s'/\Q b H'
noncomputable def AP (X:Cx) (pins:List (Addr × Obj)) (σ:St) (Q:List V->Hp->Prop) (us:List Value) (s':Shared):Prop:=∃ vs H',Inv X pins σ H' s'/\Vals vs us/\Q vs H'
set_option tactic.hygienic true in
noncomputable def SP (X:Cx) (pins:List (Addr × Obj)) (D:Ends) (f:Flow) (s':Shared):Prop :=
  match f with
  | .next=>∃ σ' H',Inv X pins σ' H' s'/\D.nx σ' H'
  | .brk=>∃ σ' H',Inv X pins σ' H' s'/\D.bk σ' H'
  | .cont=>∃ σ' H',Inv X pins σ' H' s'/\D.ct σ' H'
  | .ret u=>∃ v σ' H',Inv X pins σ' H' s'/\RelV v u/\D.rt v H'
noncomputable def PE (X:Cx) (e:Expr) (t:TE):Prop :=
  ∀ (pins:List (Addr × Obj)) (s:Shared) (σ:St) (H:Hp) (Q:VK),Inv X pins σ H s->t σ H Q->wpAny (model X.prog X.w) X.A (eval e X.env) (EP X pins σ Q) X.xe s
noncomputable def PT (X:Cx) (e:Expr) (t:TT):Prop :=
  ∀ (pins:List (Addr × Obj)) (s:Shared) (σ:St) (H:Hp) (Q:Bool->Hp->Prop),Inv X pins σ H s->t σ H Q->wpAny (model X.prog X.w) X.A (isTrue e X.env (eval e X.env)) (TP X pins σ Q) X.xe s
noncomputable def PW (X:Cx) (e:Expr) (t:TT):Prop :=
  ∀ (whole:Sem Value) (pins:List (Addr × Obj)) (s:Shared) (σ:St) (H:Hp) (Q:Bool->Hp->Prop),Inv X pins σ H s->t σ H Q->wpAny (model X.prog X.w) X.A (isTrue e X.env whole) (TP X pins σ Q) X.xe s
theorem PW.pt {X:Cx} {e:Expr} {t:TT} (h:PW X e t):PT X e t:=h _
noncomputable def PA (X:Cx) (es:List Expr) (t:TA):Prop :=
  ∀ (pos:Pos) (pins:List (Addr × Obj)) (s:Shared) (σ:St) (H:Hp) (Q:List V->Hp->Prop),Inv X pins σ H s->t σ H Q->wpAny (model X.prog X.w) X.A (spliced (backTo pos (starEach es X.env))) (AP X pins σ Q) X.xe s
noncomputable def PS (X:Cx) (st:Stmt) (t:TS):Prop :=
  ∀ (pins:List (Addr × Obj)) (s:Shared) (σ:St) (H:Hp) (D:Ends),Inv X pins σ H s->t D σ H->wpAny (model X.prog X.w) X.A (exec st X.env) (SP X pins D) X.xe s
noncomputable def PSs (X:Cx) (st:List Stmt) (t:TS):Prop :=
  ∀ (pins:List (Addr × Obj)) (s:Shared) (σ:St) (H:Hp) (D:Ends),Inv X pins σ H s->t D σ H->wpAny (model X.prog X.w) X.A (execs st X.env) (SP X pins D) X.xe s
theorem thn {α:Type} {t:Sem α} {Q Q':α->Shared->Prop} {M:Model} {A:Around} {E:Value->Shared->Prop} {s:Shared} (h:wpAny M A t Q E s) (hQ:∀ a s,Q a s->Q' a s):wpAny M A t Q' E s:=wpAny_mono h hQ fun _ _ x=>x
end L2
namespace L2
open PySem PySem.Spec PyProof.Rows
section
variable {X:Cx}
theorem bin {a b:Expr} {ta tb:TE} (ha:PE X a ta) (hb:PE X b tb) {pins:List (Addr × Obj)} {s:Shared} {σ:St} {H:Hp} {R:V->V->Hp->Prop} (I:Inv X pins σ H s) (h:ta σ H fun x H1=>tb σ H1 fun y H2=>R x y H2)
    {α:Type} {Q:α->Shared->Prop} {f:Value->Value->Sem α}
    (hf:∀ v u s2 x y H2,Inv X pins σ H2 s2->RelV x v->RelV y u->R x y H2->wpAny (model X.prog X.w) X.A (f v u) Q X.xe s2) :
    wpAny (model X.prog X.w) X.A (eval a X.env) (fun v s₁=>wpAny (model X.prog X.w) X.A (eval b X.env) (fun u s₂=>wpAny (model X.prog X.w) X.A (f v u) Q X.xe s₂) X.xe s₁) X.xe s:=by
  refine thn (ha pins s σ H _ I h) fun v s1 ⟨x,H1,I1,r1,q1⟩=>?_
  refine thn (hb pins s1 σ H1 _ I1 q1) fun u s2 ⟨y,H2,I2,r2,q2⟩=>?_
  exact hf v u s2 x y H2 I2 r1 r2 q2
noncomputable def sI (i:Nat):TE:=fun σ H Q=>∃ v,σ[i]?=some (some v)/\Q v H
noncomputable def tC (v:V):TE:=fun _ H Q=>Q v H
theorem jj {i:Nat} {x:Str} {pos:Pos} (hN:X.N[i]?=some x) (hv:Vis X.env.scope x) (hd:(x == ("__debug__":Str))=false:=by decide) (hcd:(x == ("__classdict__":Str))=false:=by decide):PE X (.Name x pos) (sI i):=by
  intro pins s σ H Q I h
  obtain ⟨v,e,h⟩:=h
  obtain ⟨m,hn,hl⟩:=I.loc
  obtain ⟨u,r,l⟩:=hl i x v hN e hv
  have fin:EP X pins σ Q u s:=⟨v,H,I,r,h⟩
  rcases l with ⟨hk,hm⟩ | ⟨hk,c,hc,hcell⟩
  · exact wpAny_Name (wpAny_loadName_local I.ok.kind hk hn hm fin) hd
  · rcases hk with hk | hk
    · exact wpAny_Name (wpAny_loadName_cell I.ok.kind hk hc hcell fin) hd
    · exact wpAny_Name (wpAny_loadName_free I.ok.kind hk hc hcell fin hcd) hd
theorem vn {i j pos}:PE X (.Constant (.int i) j pos) (tC (.int i)):=fun _ _ _ H _ I h=>wpAny_Constant_int ⟨.int i,H,I.tok _,⟨_,rfl⟩,h⟩
theorem pe_bl {b j pos}:PE X (.Constant (.bool b) j pos) (tC (.bl b)):=fun _ _ _ H _ I h=>Constant_bool ⟨.bl b,H,I,rfl,h⟩
theorem z5 {j pos}:PE X (.Constant .none j pos) (tC .non):=fun _ _ _ H _ I h=>Constant_none ⟨.non,H,I,rfl,h⟩
theorem vj {x j pos}:PE X (.Constant (.str x) j pos) (tC (.str x)):=fun _ _ _ H _ I h=>Calls.Constant_str ⟨.str x,H,I.tok _,⟨_,rfl⟩,h⟩
noncomputable def Gl (X:Cx) (x:Str):Prop:=X.env.kindOf x=some .globalImplicit
theorem rS {E:Value->Shared->Prop} {pins:List (Addr × Obj)} {s:Shared} {σ:St} {H:Hp} {x:Str} {u:Value} {pos:Pos} {Q:Value->Shared->Prop} (I:Inv X pins σ H s) (hg:Gl X x) (hm:X.mg x=some u) (h:Q u s)
    (hd:(x == ("__debug__":Str))=false:=by decide):wpAny (model X.prog X.w) X.A (eval (.Name x pos) X.env) Q E s :=
  Calls.Name_function_global I.ok.kind hg (Calls.loadGlobal_global (by rw [I.ok.glob];exact I.mod.glob.keeps I.bk) hm h) hd
theorem jo {E:Value->Shared->Prop} {pins:List (Addr × Obj)} {s:Shared} {σ:St} {H:Hp} {x:Str} {u:Value} {pos:Pos} {Q:Value->Shared->Prop} (I:Inv X pins σ H s) (hg:Gl X x) (hm:X.mg x=none) (hv:bootBuiltins x=some u) (h:Q u s)
    (hn:x ≠ "__name__":=by decide) (hd:(x == ("__debug__":Str))=false:=by decide):wpAny (model X.prog X.w) X.A (eval (.Name x pos) X.env) Q E s:=by
  obtain ⟨mb,h1,h2⟩:=I.mod.blt
  exact Calls.Name_function_global I.ok.kind hg (Calls.loadGlobal_builtin (by rw [I.ok.glob];exact I.mod.glob.keeps I.bk) hm (by rw [I.ok.blt];exact h1.keeps I.bk) ((h2 x hn).trans hv) h) hd
theorem xJ {x:Str} {v:V} {u:Value} {pos:Pos} (hg:Gl X x) (hm:X.mg x=some u) (r:RelV v u) (hd:(x == ("__debug__":Str))=false:=by decide):PE X (.Name x pos) (tC v) :=
  fun _ _ _ H _ I h=>rS I hg hm ⟨v,H,I,r,h⟩ hd
theorem eK {x:Str} {v:V} {u:Value} {pos:Pos} (hg:Gl X x) (hm:X.mg x=none) (hv:bootBuiltins x=some u) (r:RelV v u) (hn:x ≠ "__name__":=by decide) (hd:(x == ("__debug__":Str))=false:=by decide):PE X (.Name x pos) (tC v) :=
  fun _ _ _ H _ I h=>jo I hg hm hv ⟨v,H,I,r,h⟩ hn hd
variable {a b:Expr} {ta tb:TE} {pos:Pos}
noncomputable def PC (X:Cx) (op:CmpOp) (a b:Expr) (t:TE):Prop :=
  ∀ (pins:List (Addr × Obj)) (s:Shared) (σ:St) (H:Hp) (Q:VK),Inv X pins σ H s->t σ H Q ->
    wpAny (model X.prog X.w) X.A (eval a X.env) (fun v s₁=>wpAny (model X.prog X.w) X.A (eval b X.env) (fun u s₂=>wpAny (model X.prog X.w) X.A (compareOp op v u) (EP X pins σ Q) X.xe s₂) X.xe s₁) X.xe s
noncomputable def tB (t:TE):TT:=fun σ H Q=>t σ H fun x H1=>∃ c,x=.bl c/\Q c H1
theorem zR {e:Expr} {t:TE} (h:PE X e t) (he:∀ whole,isTrue e X.env whole=(do let v <- whole;standAt e.pos;holding [v] (truthy v)):=by intro _;rfl):PT X e (tB t):=by
  intro pins s σ H Q I hw
  refine isTrue_plain (thn (h pins s σ H _ I hw) fun v s1 ⟨x,H1,I1,r1,q1⟩=>?_) (he _)
  obtain ⟨d,rfl,q⟩:=q1
  cases r1
  exact Bv ⟨H1,I1,q⟩
variable {tA tB':TT} {ig:List Expr}
noncomputable def tOr (t u:TT):TT:=fun σ H Q=>t σ H fun c H1=>if c=true then Q true H1 else u σ H1 Q
noncomputable def tNot (t:TT):TT:=fun σ H Q=>t σ H fun c H1=>Q (!c) H1
theorem zQ (ha:PT X a tA):PW X (.BoolOp .Or [a] pos) tA:=by
  intro wh pins s σ H Q I h
  refine isTrue_or (thn (ha pins s σ H Q I h) fun c s1 e=>?_)
  cases c with
  | false=>exact isTrue_or_nil e
  | true=>exact e
theorem pw_or (ha:PT X a tA) (hb:PW X (.BoolOp .Or (b :: ig) pos) tB'):PW X (.BoolOp .Or (a :: b :: ig) pos) (tOr tA tB'):=by
  intro wh pins s σ H Q I h
  refine isTrue_or (thn (ha pins s σ H _ I h) fun c s1 ⟨H1,I1,q1⟩=>?_)
  cases c with
  | true=>exact ⟨H1,I1,q1⟩
  | false=>exact hb wh pins s1 σ H1 Q I1 q1
theorem zS (ha:PT X a tA):PT X (.UnaryOp .Not a pos) (tNot tA):=by
  intro pins s σ H Q I h
  exact isTrue_not (ha pins s σ H (fun c H1=>Q (!c) H1) I h)
noncomputable def yO (ta tb:TE):TE:=fun σ H Q=>ta σ H fun x H1=>∃ c,x=.bl c/\if c=true then tb σ H1 Q else Q (.bl false) H1
noncomputable def tOrV (ta tb:TE):TE:=fun σ H Q=>ta σ H fun x H1=>∃ c,x=.bl c/\if c=true then Q (.bl true) H1 else tb σ H1 Q
noncomputable def yG (ta:TE):TE:=fun σ H Q=>ta σ H fun x H1=>∃ c,x=.bl c/\Q (.bl (!c)) H1
theorem zZ {op} {t:TE} (h:PE X a t):PE X (.BoolOp op [a] pos) t:=fun pins s σ H Q I hw=>BoolOp_one (h pins s σ H Q I hw)
theorem z8 (ha:PE X a ta) (hb:PE X (.BoolOp .And (b :: ig) pos) tb):PE X (.BoolOp .And (a :: b :: ig) pos) (yO ta tb):=by
  intro pins s σ H Q I h
  refine BoolOp_and (thn (ha pins s σ H _ I h) fun v s1 ⟨x,H1,I1,r1,q1⟩=>?_)
  obtain ⟨c,rfl,q1⟩:=q1
  cases r1
  refine Bv ?_
  cases c with
  | true=>exact hb pins s1 σ H1 Q I1 q1
  | false=>exact ⟨.bl false,H1,I1,rfl,q1⟩
theorem pe_or (ha:PE X a ta) (hb:PE X (.BoolOp .Or (b :: ig) pos) tb):PE X (.BoolOp .Or (a :: b :: ig) pos) (tOrV ta tb):=by
  intro pins s σ H Q I h
  refine BoolOp_or (thn (ha pins s σ H _ I h) fun v s1 ⟨x,H1,I1,r1,q1⟩=>?_)
  obtain ⟨c,rfl,q1⟩:=q1
  cases r1
  refine Bv ?_
  cases c with
  | false=>exact hb pins s1 σ H1 Q I1 q1
  | true=>exact ⟨.bl true,H1,I1,rfl,q1⟩
theorem z4 (ha:PE X a ta):PE X (.UnaryOp .Not a pos) (yG ta):=by
  intro pins s σ H Q I h
  refine UnaryOp_ (thn (ha pins s σ H _ I h) fun v s1 ⟨x,H1,I1,r1,q1⟩=>?_)
  obtain ⟨c,rfl,q1⟩:=q1
  cases r1
  exact not_of (Bv ⟨.bl (!c),H1,I1,rfl,q1⟩)
end
end L2
namespace L2
open PySem PySem.Spec PyProof.Rows
noncomputable def SqL (K:FG) (H:Hp) (a:Addr) (xs:List V):Prop :=
  Rd H a (.lst xs) \/
    ∃ (o:Obj) (its:Array Value) (n:Nat),K.lookup a=some o/\o.cls=.type "list"/\o.dict=none/\o.data=.seq its n/\its.size<=sizeLine/\Vals xs its.toList
noncomputable def SqT (K:FG) (H:Hp) (a:Addr) (xs:List V):Prop :=
  Rd H a (.tup xs) \/
    ∃ (o:Obj) (its:Array Value) (n:Nat),K.lookup a=some o/\o.cls=.type "tuple"/\o.data=.seq its n/\its.size<=sizeLine/\Vals xs its.toList
noncomputable def absV:Value->Option V
  | .none=>some .non
  | .bool b=>some (.bl b)
  | .int i _=>some (.int i)
  | .str x _=>some (.str x)
  | .bytes b _=>some (.byt b)
  | .float b _=>some (.flt b)
  | .ref a=>some (.ref a)
  | .type n=>some (.ty n)
  | _=>none
theorem RelV.abs {x:V} {u:Value} (r:RelV x u):absV u=some x:=by
  cases x with
  | non=>cases r;rfl
  | bl _=>cases r;rfl
  | int _=>obtain ⟨t,rfl⟩:=r;rfl
  | str _=>obtain ⟨t,rfl⟩:=r;rfl
  | byt _=>obtain ⟨t,rfl⟩:=r;rfl
  | flt _=>obtain ⟨t,rfl⟩:=r;rfl
  | ref _=>cases r;rfl
  | ty _=>cases r;rfl
theorem RelV.inj {x y:V} {u:Value} (r:RelV x u) (q:RelV y u):x=y:=BC (r.abs.symm.trans q.abs)
theorem Vals.inj:∀ {xs ys:List V} {us:List Value},Vals xs us->Vals ys us->xs=ys
  | _,_,_,.nil,.nil=>rfl
  | _,_,_,.cons r t,.cons r' t'=>by rw [r.inj r',Vals.inj t t']
section
variable {X:Cx} {pins:List (Addr × Obj)} {σ:St} {H:Hp} {s:Shared} {a:Addr} {xs ys:List V}
theorem SqL.of {K:FG} (h:H a=some (.lst xs)):SqL K H a xs:=.inl (.inl h)
theorem SqT.of {K:FG} (h:H a=some (.tup xs)):SqT K H a xs:=.inl (.inl h)
theorem Inv.list (I:Inv X pins σ H s) (h:SqL X.K H a xs):∃ its:List Value,Vals xs its/\PlainL s.heap a its.toArray/\xs.length<=sizeLine:=by
  rcases h with h | ⟨o,its,n,hk,hc,hd,hs,hz,r⟩
  · obtain ⟨z,its,n,r,e⟩:=h.ok I.hok
    exact ⟨its,r,⟨_,n,e,rfl,rfl,rfl⟩,z⟩
  · refine ⟨its.toList,r,⟨o,n,I.kIn a o hk,hc,hd,by simpa using hs⟩,?_⟩
    have e:=r.length
    simp only [Array.length_toList] at e
    omega
theorem Inv.tuple (I:Inv X pins σ H s) (h:SqT X.K H a xs):∃ its:List Value,Vals xs its/\IsTup s.heap a its.toArray/\xs.length<=sizeLine:=by
  rcases h with h | ⟨o,its,n,hk,hc,hs,hz,r⟩
  · obtain ⟨z,its,r,p⟩:=h.ok I.hok
    exact ⟨its,r,p.tup,z⟩
  · refine ⟨its.toList,r,⟨o,I.kIn a o hk,hc,n,by simpa using hs⟩,?_⟩
    have e:=r.length
    simp only [Array.length_toList] at e
    omega
theorem Inv.list_inj (I:Inv X pins σ H s) (h:SqL X.K H a xs) (h':SqL X.K H a ys):xs=ys:=by
  obtain ⟨its,r,⟨o,n,e,_,_,d⟩,_⟩:=I.list h
  obtain ⟨its',r',⟨o',n',e',_,_,d'⟩,_⟩:=I.list h'
  rw [e] at e';cases e'
  rw [d] at d'
  injection d' with d1 _
  have:its=its':=by simpa using congrArg Array.toList d1
  subst this
  exact r.inj r'
theorem Inv.tuple_inj (I:Inv X pins σ H s) (h:SqT X.K H a xs) (h':SqT X.K H a ys):xs=ys:=by
  obtain ⟨its,r,⟨o,e,_,n,d⟩,_⟩:=I.tuple h
  obtain ⟨its',r',⟨o',e',_,n',d'⟩,_⟩:=I.tuple h'
  rw [e] at e';cases e'
  rw [d] at d'
  injection d' with d1 _
  have:its=its':=by simpa using congrArg Array.toList d1
  subst this
  exact r.inj r'
end
noncomputable abbrev Cx.wish (X:Cx) (E:Value->Shared->Prop):Cx:={ X with xe:=E }
noncomputable abbrev Cx.nox (X:Cx):Cx:=X.wish fun _ _=>False
theorem Cx.Ok.wish {X:Cx} (ok:X.Ok) (E:Value->Shared->Prop):(X.wish E).Ok :=
  ⟨ok.mod,ok.kind,ok.glob,ok.blt,ok.above,ok.inj,ok.has,ok.cab,ok.hd,ok.frames,ok.stk,ok.exf,ok.bs,ok.bsz,ok.noex,ok.exfs,ok.funs,ok.frf⟩
theorem Cx.Ok.unwish {X:Cx} {E:Value->Shared->Prop} (ok:(X.wish E).Ok):X.Ok :=
  ⟨ok.mod,ok.kind,ok.glob,ok.blt,ok.above,ok.inj,ok.has,ok.cab,ok.hd,ok.frames,ok.stk,ok.exf,ok.bs,ok.bsz,ok.noex,ok.exfs,ok.funs,ok.frf⟩
section
variable {X:Cx} {pins:List (Addr × Obj)} {σ:St} {H:Hp} {s:Shared} {E:Value->Shared->Prop}
theorem Inv.wish (I:Inv X pins σ H s) (E:Value->Shared->Prop):Inv (X.wish E) pins σ H s:=⟨I.ok.wish E,I.os,I.bare,I.base,I.loc,I.cell,I.free,I.freeC,I.pin,I.hok,I.len⟩
theorem Inv.unwish (I:Inv (X.wish E) pins σ H s):Inv X pins σ H s:=⟨I.ok.unwish,I.os,I.bare,I.base,I.loc,I.cell,I.free,I.freeC,I.pin,I.hok,I.len⟩
set_option tactic.hygienic true in
theorem SP.unwish {D:Ends} {f:Flow} {s':Shared} (h:SP (X.wish E) pins D f s'):SP X pins D f s':=by
  cases f with
  | next=>obtain ⟨σ',H',I,q⟩:=h;exact ⟨σ',H',I.unwish,q⟩
  | brk=>obtain ⟨σ',H',I,q⟩:=h;exact ⟨σ',H',I.unwish,q⟩
  | cont=>obtain ⟨σ',H',I,q⟩:=h;exact ⟨σ',H',I.unwish,q⟩
  | ret u=>obtain ⟨v,σ',H',I,r,q⟩:=h;exact ⟨v,σ',H',I.unwish,r,q⟩
theorem PSs.nox {st:List Stmt} {t:TS} (h:PSs X.nox st t):PSs X st t:=fun pins s σ H D I hw =>
  wpAny_mono (h pins s σ H D (I.wish _) hw) (fun _ _ q=>q.unwish) fun _ _ z=>False.elim z
end
section
variable {X:Cx} {st:Stmt} {ig:List Stmt} {t u:TS} {e:Expr} {te:TE} {pos:Pos}
noncomputable def yH:TS:=fun D σ H=>D.nx σ H
noncomputable def tSeq (t u:TS):TS:=fun D σ H=>t { D with nx:=u D } σ H
theorem xE:PSs X [] yH:=fun _ _ σ H _ I h=>wpAny_execs_nil ⟨σ,H,I,h⟩
set_option tactic.hygienic true in
theorem u9 (h1:PS X st t) (h2:PSs X ig u):PSs X (st :: ig) (tSeq t u):=by
  intro pins s σ H D I h
  refine wpAny_execs_cons (thn (h1 pins s σ H { D with nx:=u D } I h) fun f s1 q=>?_)
  cases f with
  | next =>
    obtain ⟨σ',H',I',q⟩:=q
    exact h2 pins s1 σ' H' D I' q
  | ret v=>exact q
  | brk=>exact q
  | cont=>exact q
set_option tactic.hygienic true in
theorem xD (h1:PS X st t):PSs X [st] t:=by
  intro pins s σ H D I h
  refine wpAny_execs_cons (thn (h1 pins s σ H D I h) fun f s1 q=>?_)
  cases f with
  | next=>exact wpAny_execs_nil q
  | ret v=>exact q
  | brk=>exact q
  | cont=>exact q
theorem Inv.quiet {pins:List (Addr × Obj)} {σ:St} {H:Hp} {s:Shared} (I:Inv X pins σ H s):interactive X.env=false:=by simp [interactive,I.ok.kind]
noncomputable def yJ (te:TE):TS:=fun D σ H=>te σ H fun _ H1=>D.nx σ H1
theorem xF (he:PE X e te) (hs:swapsWith e none pos.line X.env=pure false:=by rfl):PS X (.Expr e pos) (yJ te):=by
  intro pins s σ H D I h
  exact wpAny_Expr_any (thn (he pins s σ H _ I h) fun v s1 ⟨x,H1,I1,r1,q1⟩=>⟨σ,H1,I1,q1⟩) I.quiet hs
noncomputable def tRet (te:TE):TS:=fun D σ H=>te σ H D.rt
theorem zU (he:PE X e te):PS X (.Return (some e) pos) (tRet te):=by
  intro pins s σ H D I h
  exact wpAny_Return_some (thn (he pins s σ H _ I h) fun v s1 ⟨x,H1,I1,r1,q1⟩=>⟨x,σ,H1,I1,r1,q1⟩)
noncomputable def tIfS (c:TT) (t u:TS):TS:=fun D σ H=>c σ H fun b H1=>if b=true then t D σ H1 else u D σ H1
theorem ps_if {c:Expr} {a b:List Stmt} {tc:TT} (hc:PT X c tc) (ha:PSs X a t) (hb:PSs X b u):PS X (.If c a b pos) (tIfS tc t u):=by
  intro pins s σ H D I h
  refine wpAny_If (thn (hc pins s σ H _ I h) fun d s1 ⟨H1,I1,q1⟩=>?_)
  cases d with
  | true=>exact ha pins s1 σ H1 D I1 q1
  | false=>exact hb pins s1 σ H1 D I1 q1
noncomputable def zu:TS:=fun _ _ _=>False
theorem ve:PS X st zu:=fun _ _ _ _ _ _ h=>h.elim
end
noncomputable abbrev TG:=V->St->Hp->(St->Hp->Prop)->Prop
noncomputable abbrev TGs:=List V->St->Hp->(St->Hp->Prop)->Prop
noncomputable def PG (X:Cx) (target:Expr) (t:TG):Prop :=
  ∀ (pins:List (Addr × Obj)) (s:Shared) (σ:St) (H:Hp) (v:V) (u:Value) (Q:St->Hp->Prop),Inv X pins σ H s->RelV v u->t v σ H Q ->
    wpAny (model X.prog X.w) X.A (assign target X.env u) (fun _ s'=>∃ σ' H',Inv X pins σ' H' s'/\Q σ' H') X.xe s
noncomputable def PGs (X:Cx) (ts:List Expr) (t:TGs):Prop :=
  ∀ (pins:List (Addr × Obj)) (s:Shared) (σ:St) (H:Hp) (vs:List V) (us:List Value) (Q:St->Hp->Prop),Inv X pins σ H s->Vals vs us->t vs σ H Q ->
    wpAny (model X.prog X.w) X.A (assignInOrder ((assignEach ts X.env).map (·.2)) us) (fun _ s'=>∃ σ' H',Inv X pins σ' H' s'/\Q σ' H') X.xe s
noncomputable abbrev ui:=V->V->V->Hp->(Hp->Prop)->Prop
noncomputable def wI (X:Cx) (t:ui):Prop :=
  ∀ (pins:List (Addr × Obj)) (s:Shared) (σ:St) (H:Hp) (o i v:V) (ov iv u:Value) (Q:Hp->Prop),Inv X pins σ H s->RelV o ov->RelV i iv->RelV v u->t o i v H Q ->
    wpAny (model X.prog X.w) X.A (setItem ov iv u) (fun _ s'=>∃ H',Inv X pins σ H' s'/\Q H') X.xe s
section
variable {X:Cx} {pos:Pos}
noncomputable def r0 (i:Nat):TG:=fun v σ H Q=>Q (σ.set i (some v)) H
theorem bj {i:Nat} {x:Str} (hN:X.N.Nodup) (hi:X.N[i]?=some x) (hx:Loc X.env.scope x) (hf:X.fn x=true\/X.env.scope.names.lookup x=some .local:=by first | exact .inl rfl | exact .inr rfl | assumption):PG X (.Name x pos) (r0 i):=by
  intro pins s σ H v u Q I r h
  exact wpAny_assign_Name (oI I hN hi hx r (fun s' I'=>⟨_,H,I',h⟩) hf)
noncomputable def gNil:TGs:=fun vs σ H Q=>vs=[]/\Q σ H
noncomputable def y8 (t:TG) (u:TGs):TGs:=fun vs σ H Q=>∃ v r,vs=v :: r/\t v σ H fun σ' H'=>u r σ' H' Q
theorem rL:PGs X [] gNil:=by
  intro pins s σ H vs us Q I r h
  obtain ⟨e,h⟩:=h
  subst e
  cases r
  exact assignInOrder_nil ⟨σ,H,I,h⟩
theorem lu {e:Expr} {es:List Expr} {t:TG} {u:TGs} (h1:PG X e t) (h2:PGs X es u)
    (hs:(assignEach (e :: es) X.env).map (·.2)=assign e X.env :: (assignEach es X.env).map (·.2):=by rfl):PGs X (e :: es) (y8 t u):=by
  intro pins s σ H vs us Q I r h
  obtain ⟨v,vr,e1,h⟩:=h
  subst e1
  cases r with
  | cons r rr =>
    rw [hs]
    refine assignInOrder_cons (thn (h1 pins s σ H _ _ _ I r h) fun _ s1 ⟨σ1,H1,I1,q1⟩=>?_)
    exact h2 pins s1 σ1 H1 _ _ Q I1 rr q1
noncomputable def gTup (K:FG) (n:Nat) (t:TGs):TG:=fun v σ H Q=>∃ a xs,v=.ref a/\SqT K H a xs/\xs.length=n/\t xs σ H Q
theorem vi {es:List Expr} {k:Nat} {t:TGs} {n:Nat} (hc:X.calm=true) (h:PGs X es t)
    (hn:(assignEach es X.env).length=n:=by rfl) (hst:(assignEach es X.env).findIdx? (·.1)=none:=by rfl):PG X (.Tuple es k pos) (gTup X.K n t):=by
  intro pins s σ H v u Q I r hw
  obtain ⟨a,xs,e1,hq,hl,hw⟩:=hw
  subst e1
  cases r
  obtain ⟨its,rv,ht,hz⟩:=I.tuple hq
  refine assign_Tuple_tuple (I.ok.hd hc) ht (by simp [hn,<- hl,rv.length]) hst fun h' hx=>?_
  have I1:Inv X pins σ H { s with heap:=h' }:=I.kept (t':=s.toks) fun b o e=>hx b o (Ba (AZ e)) e
  exact h pins _ σ H xs _ Q I1 (by simpa using rv) hw
noncomputable def gSub (to ti:TE) (t:ui):TG:=fun v σ H Q=>to σ H fun o H1=>ti σ H1 fun i H2=>t o i v H2 fun H3=>Q σ H3
theorem zX {o i:Expr} {to ti:TE} {t:ui} (ho:PE X o to) (hi:PE X i ti) (hs:wI X t)
    (ha:∀ v,assign (.Subscript o i pos) X.env v=(do
      let ov <- holding [v] (eval o X.env)
      let iv <- holding [v,ov] (eval i X.env)
      standAt pos
      holding [v,ov,iv] (setItem ov iv v)
      release [v,ov,iv] []):=by intro _;rfl):PG X (.Subscript o i pos) (gSub to ti t):=by
  intro pins s σ H v u Q I r h
  rw [ha]
  refine AN (AQ (thn (ho pins s σ H _ I h) fun ov s1 ⟨x,H1,I1,r1,q1⟩=>?_))
  refine AN (AQ (thn (hi pins s1 σ H1 _ I1 q1) fun iv s2 ⟨y,H2,I2,r2,q2⟩=>?_))
  refine AN (wpAny_standAt (AN (AQ (thn (hs pins s2 σ H2 x y v ov iv u _ I2 r1 r2 r q2) fun _ s3 ⟨H3,I3,q3⟩=>?_))))
  exact wpAny_release ⟨σ,H3,I3,q3⟩
noncomputable def uz (te:TE) (g:TG):TS:=fun D σ H=>te σ H fun x H1=>g x σ H1 D.nx
theorem vf {tg e:Expr} {te:TE} {g:TG} (he:PE X e te) (hg:PG X tg g) (hs:swapsWithSole [tg] e pos.line X.env=pure false:=by rfl) (hw:swappedStores [tg] e X.env=pure none:=by rfl)
    (h1:(assignEach [tg] X.env).map (·.2)=[assign tg X.env]:=by rfl):PS X (.Assign [tg] e pos) (uz te g):=by
  intro pins s σ H D I h
  refine wpAny_Assign_stores (thn (he pins s σ H _ I h) fun v s1 ⟨x,H1,I1,r1,q1⟩=>?_) hs hw
  rw [h1]
  exact thn (hg pins s1 σ H1 x v _ I1 r1 q1) fun _ s2 q=>q
theorem zT {i:Nat} {x:Str} {e:Expr} {te:TE} {pos':Pos} (hN:X.N.Nodup) (hi:X.N[i]?=some x) (hx:Loc X.env.scope x) (he:PE X e te) (hs:swapsWith e (some (.Name x pos')) pos.line X.env=pure false:=by rfl) (hf:X.fn x=true\/X.env.scope.names.lookup x=some .local:=by first | exact .inl rfl | exact .inr rfl | assumption) :
    PS X (.Assign [.Name x pos'] e pos) (uz te (r0 i)):=by
  intro pins s σ H D I h
  refine wpAny_Assign_Name (thn (he pins s σ H _ I h) fun v s1 ⟨y,H1,I1,r1,q1⟩=>?_) hs
  exact oI I1 hN hi hx r1 (fun s2 I2=>⟨_,H1,I2,q1⟩) hf
end
section
variable {X:Cx} {pos:Pos}
noncomputable def uw (c:TT) (tb:TS):TS:=fun D σ H=>∃ W:Nat->St->Hp->Prop,(∃ m,W m σ H)/\∀ m σ H,W m σ H ->
  c σ H fun b H1=>if b=true then ∃ N:St->Hp->Prop,(∀ σ' H',N σ' H'->∃ m',m' < m/\W m' σ' H')/\tb { D with nx:=N,ct:=N,bk:=D.nx } σ H1 else D.nx σ H1
set_option tactic.hygienic true in
theorem vd {c:Expr} {body:List Stmt} {tc:TT} {tb:TS} (hp:PassesOwn (model X.prog X.w) X.A X.env X.xe) (hc:PT X c tc) (hb:PSs X body tb):PS X (.While c body [] pos) (uw tc tb):=by
  intro pins s σ H D I h
  obtain ⟨W,⟨m0,w0⟩,turn⟩:=h
  refine wpAny_While (codeAny_whileLoop (fun n s'=>∃ σ' H',Inv X pins σ' H' s'/\W n σ' H') ?_ m0 ⟨σ,H,I,w0⟩)
  rintro n s1 ⟨σ1,H1,I1,w1⟩
  refine wpAny_passesOwn hp (thn (hc pins s1 σ1 H1 _ I1 (turn n σ1 H1 w1)) fun b s2 ⟨H2,I2,q2⟩=>?_)
  cases b with
  | true =>
    obtain ⟨N,hN,q2⟩:=q2
    rw [if_pos rfl]
    refine wpAny_passesOwn hp (thn (hb pins s2 σ1 H2 _ I2 q2) fun f s3 q3=>?_)
    cases f with
    | next =>
      obtain ⟨σ3,H3,I3,n3⟩:=q3
      obtain ⟨m',hm,w3⟩:=hN σ3 H3 n3
      exact ⟨m',hm,σ3,H3,I3,w3⟩
    | cont =>
      obtain ⟨σ3,H3,I3,n3⟩:=q3
      obtain ⟨m',hm,w3⟩:=hN σ3 H3 n3
      exact ⟨m',hm,σ3,H3,I3,w3⟩
    | brk=>exact q3
    | ret v=>exact q3
  | false =>
    rw [if_neg A9]
    exact wpAny_execs_nil ⟨σ1,H2,I2,q2⟩
end
structure It where
  go:Nat->Hp->Prop
  yld:Nat->Hp->V->Hp->Prop
  stop:Nat->Hp->Prop
noncomputable def FpOk (X:Cx) (pins:List (Addr × Obj)) (H:Hp) (b:Addr):Prop :=
  H b=none/\b ≠ X.env.locals/\b ∉ X.fs/\(b ∈ X.ex\/X.s₀.heap.objs.size<=b)/\(∀ x c,X.env.cells.lookup x=some c->c ≠ b)/\∀ p ∈ X.pn ++ pins,p.1 ≠ b
theorem Inv.fpOk {X:Cx} {pins:List (Addr × Obj)} {σ:St} {H H':Hp} {s:Shared} {b:Addr} (I:Inv X pins σ H s) (hb:s.heap.objs.size<=b) (hn:H' b=none):FpOk X pins H' b:=by
  refine ⟨hn,Nat.ne_of_gt (Bf I.lt hb),I.nofs hb,.inr (Bw I.sz hb),fun x c e z=>?_,fun p hp z=>?_⟩
  · obtain ⟨v,q⟩:=I.cell x c e
    exact absurd (Bf q.lt (by rw [z];exact hb)) (Nat.lt_irrefl _)
  · exact absurd (Bf (AZ (I.pin p hp).1) (by rw [z];exact hb)) (Nat.lt_irrefl _)
structure Turn (P:Program) (w:World) (K:FG) (tg:Expr) (J:It) (fp:List Addr) (it:Addr) (tn:Nat->Heap->Prop):Prop where
  mem:it ∈ fp
  obj:∀ i h,tn i h->∀ b ∈ fp,∃ o,h.get? b=some o/\∀ v,o.data ≠ .cell v
  keep:∀ i h h',tn i h->(∀ b ∈ fp,∀ o,h.get? b=some o->h'.get? b=some o)->tn i h'
  item:∀ (X:Cx),X.prog=P->X.w=w->X.K=K->X.calm=true->∀ (i:Nat) (pins:List (Addr × Obj)) (s:Shared) (σ:St) (H:Hp) (E:Value->Shared->Prop),Inv X pins σ H s->(∀ b ∈ fp,FpOk X pins H b)->tn i s.heap->J.go i H ->
    wpAny (model P w) X.A (pyNext (.ref it)) (fun r s1=>∃ u,r=some u /\
      wpAny (model P w) X.A (letOwnedTupleGo tg (.ref it) u) (fun _ s2=>∃ x H',Inv X pins σ H' s2/\RelV x u/\J.yld i H x H'/\tn (i+1) s2.heap/\∀ b ∈ fp,H' b=none) E s1) E s
  done:∀ (X:Cx),X.prog=P->X.w=w->X.K=K->X.calm=true->∀ (i:Nat) (pins:List (Addr × Obj)) (s:Shared) (σ:St) (H:Hp) (E:Value->Shared->Prop),Inv X pins σ H s->(∀ b ∈ fp,FpOk X pins H b)->tn i s.heap->J.stop i H ->
    wpAny (model P w) X.A (pyNext (.ref it)) (fun r s1=>r=none/\Inv X pins σ H s1) E s
  self:∀ (A:Around) (i:Nat) (s:Shared) (Q:Value->Shared->Prop) (E:Value->Shared->Prop),tn i s.heap->Q (.ref it) s->wpAny (model P w) A (pyIter (.ref it)) Q E s
noncomputable abbrev TI:=St->Hp->(It->Hp->Prop)->Prop
noncomputable def PIE (X:Cx) (pins:List (Addr × Obj)) (σ:St) (tg:Expr) (R:It->Hp->Prop) (itv:Value) (s2:Shared):Prop :=
  ∃ (it:Addr) (fp:List Addr) (tn:Nat->Heap->Prop) (J:It) (H':Hp),itv=.ref it/\Inv X pins σ H' s2/\Turn X.prog X.w X.K tg J fp it tn/\tn 0 s2.heap/\(∀ b ∈ fp,FpOk X pins H' b)/\R J H'
noncomputable def PI (X:Cx) (tg iter:Expr) (wi:TI):Prop :=
  ∀ (pins:List (Addr × Obj)) (s:Shared) (σ:St) (H:Hp) (R:It->Hp->Prop),Inv X pins σ H s->wi σ H R ->
    wpAny (model X.prog X.w) X.A (eval iter X.env) (fun v s1=>wpAny (model X.prog X.w) X.A (pyIter v) (PIE X pins σ tg R) X.xe s1) X.xe s
theorem vV {M : Model} {A : Around} {E : Value -> Shared -> Prop} {s : Shared} {tg : Expr} {it : Addr} {u : Value} {o : Obj} {n : String} {vs : Array Value} {Q : Unit -> Shared -> Prop} (ho : s.heap.get? it = some o) (hc : o.cls = .type n) (hd : o.data = .fields vs)
    (hn : ["enumerate", "zip", "dict_itemiterator", "dict_reverseitemiterator", "odict_iterator", "itertools.zip_longest", "itertools.pairwise"].contains n = false) (hQ : Q () s) : wpAny M A (letOwnedTupleGo tg (.ref it) u) Q E s := by
  unfold letOwnedTupleGo
  cases tg <;> first
    | exact AO hQ
    | (cases u <;> first
        | exact AO hQ
        | (refine AN (wpAny_load ho ?_)
           rw [hc, hd]
           show wpAny M A (if (["enumerate", "zip", "dict_itemiterator", "dict_reverseitemiterator", "odict_iterator", "itertools.zip_longest", "itertools.pairwise"].contains n && vs[0]? == some (rawInt _)) = true then _ else _) Q E s
           rw [if_neg (by intro h; rw [hn, Bool.false_and] at h; cases h)]
           exact AO hQ))
noncomputable def Itl (K:FG) (a:Addr):It :=
  ⟨fun i H=>∃ xs x,SqL K H a xs/\xs[i]?=some x,fun i H x H'=>H'=H/\∀ xs,SqL K H a xs->xs[i]?=some x,fun i H=>∃ xs,SqL K H a xs/\xs.length<=i⟩
noncomputable def Itt (K:FG) (a:Addr):It :=
  ⟨fun i H=>∃ xs x,SqT K H a xs/\xs[i]?=some x,fun i H x H'=>H'=H/\∀ xs,SqT K H a xs->xs[i]?=some x,fun i H=>∃ xs,SqT K H a xs/\xs.length<=i⟩
noncomputable def Itr (lo:Int) (n:Nat):It:=⟨fun i _=>i < n,fun i H x H'=>H'=H/\x=.int (lo+i),fun i _=>n<=i⟩
theorem sH {P:Program} {w:World} {K:FG} {tg:Expr} (a it:Addr):Turn P w K tg (Itl K a) [it] it (fun i h=>h.IsListIter it a i) where
  mem:=by simp
  obj:=fun i h st b hb=>by
    have e:b=it:=by simpa using hb
    subst e
    obtain ⟨o,e,c,d⟩:=st
    exact ⟨o,e,fun v z=>by rw [d] at z;cases z⟩
  keep:=fun i h h' st k=>st.at fun o e=>k it (by simp) o e
  item:=by
    intro X hP hw hK hc i pins s σ H E I hf st hg
    subst hP hw hK
    obtain ⟨xs,x,hq,hx⟩:=hg
    obtain ⟨its,rv,p,hz⟩:=I.list hq
    obtain ⟨u,hu,ru⟩:=rv.get hx
    obtain ⟨f0,f1,f2,f3,f4,f5⟩:=hf it (by simp)
    refine wpAny_pyNext_list_item st p.isList (x:=u) (by simpa using hu) fun h' st' sb=>?_
    have I1:Inv X pins σ H { s with heap:=h' }:=I.turned (t':=s.toks) (fun b o hb e=>(sb.2 b hb).trans e) f0 f1 f3 f4 f5
    obtain ⟨o,e,c,d⟩:=id st'
    exact ⟨u,rfl,vV (s:={ s with heap:=h' }) e c d (by decide) ⟨x,H,I1,ru,⟨rfl,fun ys hy=>by rw [I.list_inj hy hq];exact hx⟩,st',fun b hb=>(hf b hb).1⟩⟩
  done:=by
    intro X hP hw hK hc i pins s σ H E I hf st hg
    subst hP hw hK
    obtain ⟨xs,hq,hx⟩:=hg
    obtain ⟨its,rv,p,hz⟩:=I.list hq
    obtain ⟨f0,f1,f2,f3,f4,f5⟩:=hf it (by simp)
    have hl:=rv.length
    exact wpAny_pyNext_list_end (I.ok.hd hc) st p.isList (by simp;omega) fun h' eb=>⟨rfl,I.turned (t':=s.toks) (fun b o hb e=>eb b o hb e) f0 f1 f3 f4 f5⟩
  self:=fun _ _ _ _ _ st h=>wpAny_pyIter_listiter st h
theorem qc {P:Program} {w:World} {K:FG} {tg:Expr} (a it:Addr):Turn P w K tg (Itt K a) [it] it (fun i h=>h.IsTupleIter it a i) where
  mem:=by simp
  obj:=fun i h st b hb=>by
    have e:b=it:=by simpa using hb
    subst e
    obtain ⟨o,e,c,d⟩:=st
    exact ⟨o,e,fun v z=>by rw [d] at z;cases z⟩
  keep:=fun i h h' st k=>st.at fun o e=>k it (by simp) o e
  item:=by
    intro X hP hw hK hc i pins s σ H E I hf st hg
    subst hP hw hK
    obtain ⟨xs,x,hq,hx⟩:=hg
    obtain ⟨its,rv,p,hz⟩:=I.tuple hq
    obtain ⟨u,hu,ru⟩:=rv.get hx
    obtain ⟨f0,f1,f2,f3,f4,f5⟩:=hf it (by simp)
    refine wpAny_pyNext_tuple_item st (show s.heap.IsTuple a its.toArray from p) (x:=u) (by simpa using hu) fun h' st' sb=>?_
    have I1:Inv X pins σ H { s with heap:=h' }:=I.turned (t':=s.toks) (fun b o hb e=>(sb.2 b hb).trans e) f0 f1 f3 f4 f5
    obtain ⟨o,e,c,d⟩:=id st'
    exact ⟨u,rfl,vV (s:={ s with heap:=h' }) e c d (by decide) ⟨x,H,I1,ru,⟨rfl,fun ys hy=>by rw [I.tuple_inj hy hq];exact hx⟩,st',fun b hb=>(hf b hb).1⟩⟩
  done:=by
    intro X hP hw hK hc i pins s σ H E I hf st hg
    subst hP hw hK
    obtain ⟨xs,hq,hx⟩:=hg
    obtain ⟨its,rv,p,hz⟩:=I.tuple hq
    obtain ⟨f0,f1,f2,f3,f4,f5⟩:=hf it (by simp)
    have hl:=rv.length
    exact wpAny_pyNext_tuple_end (I.ok.hd hc) st (show s.heap.IsTuple a its.toArray from p) (by simp;omega) fun h' eb=>⟨rfl,I.turned (t':=s.toks) (fun b o hb e=>eb b o hb e) f0 f1 f3 f4 f5⟩
  self:=fun _ _ _ _ _ st h=>wpAny_pyIter_tupleiter st h
theorem qd {P:Program} {w:World} {K:FG} {tg:Expr} (it:Addr) (lo:Int) (n:Nat):Turn P w K tg (Itr lo n) [it] it (fun i h=>IsRangeIter h it (lo+(i:Nat) * 1) ((n:Int) - (i:Nat)) 1) where
  mem:=by simp
  obj:=fun i h st b hb=>by
    have e:b=it:=by simpa using hb
    subst e
    exact ⟨_,st,fun v z=>by
      have z':Data.fields _=Data.cell v:=z
      cases z'⟩
  keep:=fun i h h' st k=>k it (by simp) _ st
  item:=by
    intro X hP hw hK hc i pins s σ H E I hf st hg
    subst hP hw hK
    obtain ⟨f0,f1,f2,f3,f4,f5⟩:=hf it (by simp)
    have W:=Walks.range (prog:=X.prog) (w:=X.w) (I.ok.hd hc) it lo 1 n
    refine W.item i s _ _ hg st fun v h' tk hv st' kk=>?_
    obtain ⟨t,rfl⟩:=hv
    have I1:Inv X pins σ H { s with heap:=h',toks:=tk }:=I.turned (fun b o hb e=>kk b o (by simpa using hb) e) f0 f1 f3 f4 f5
    refine ⟨_,rfl,vV (s:={ s with heap:=h',toks:=tk }) (n:="range_iterator") st' rfl rfl (by decide) ⟨.int (lo+i),H,I1,⟨t,?_⟩,⟨rfl,rfl⟩,st',fun b hb=>(hf b hb).1⟩⟩
    rw [Int.mul_one]
  done:=by
    intro X hP hw hK hc i pins s σ H E I hf st hg
    subst hP hw hK
    obtain ⟨f0,f1,f2,f3,f4,f5⟩:=hf it (by simp)
    exact wpAny_pyNext_range_end (I.ok.hd hc) st (by have:n<=i:=hg;omega) fun h' eb=>⟨rfl,I.turned (t':=s.toks) (fun b o hb e=>eb b o hb e) f0 f1 f3 f4 f5⟩
  self:=fun _ _ _ _ _ st h=>wpAny_pyIter_rangeiter st h
end L2
namespace L2
open PySem PySem.Spec PyProof.Rows
section
variable {X:Cx} {tg:Expr}
theorem oV {pins:List (Addr × Obj)} {σ:St} {H:Hp} {s:Shared} {R:It->Hp->Prop} {E:Value->Shared->Prop} {lo hi:Int} {t u v:Tok} {tk:Nat} (I:Inv X pins σ H s) (h1:-(2 ^ 62)<=lo) (h2:lo < 2 ^ 62) (h3:-(2 ^ 62)<=hi) (h4:hi < 2 ^ 62)
    (q:R (Itr lo (hi - lo).toNat) H):wpAny (model X.prog X.w) X.A (pyIter (.ref s.heap.objs.size)) (PIE X pins σ tg R) E { s with heap:=s.heap.push { cls:=.type "range",data:=.fields #[.int lo t,.int hi u,.int 1 v] },toks:=tk }:=by
  refine wpAny_pyIter_range (IsRange.new ..) (small_one h1 h2 h3 h4) ?_
  have I1:Inv X pins σ H { s with heap:=s.heap.push { cls:=.type "range",data:=.fields #[.int lo t,.int hi u,.int 1 v] },toks:=tk }:=I.kept fun b o e=>AT _ e
  refine ⟨(s.heap.push { cls:=.type "range",data:=.fields #[.int lo t,.int hi u,.int 1 v] }).objs.size,[(s.heap.push { cls:=.type "range",data:=.fields #[.int lo t,.int hi u,.int 1 v] }).objs.size],_,_,H,rfl,
    I1.kept (t':=tk) fun b o e=>AT _ e,qd _ lo (hi - lo).toNat,?_,fun b hb=>?_,q⟩
  · have e1:lo+((0:Nat):Int) * 1=lo:=by simp
    have e2:(((hi - lo).toNat:Nat):Int) - ((0:Nat):Int)=Builtin.Range.rangeSize lo hi 1:=by rw [rangeSize_one];split <;> omega
    show IsRangeIter _ _ (lo+((0:Nat):Int) * 1) ((((hi - lo).toNat:Nat):Int) - ((0:Nat):Int)) 1
    rw [e1,e2]
    exact A1 _ rfl
  · have e:b=(s.heap.push { cls:=.type "range",data:=.fields #[.int lo t,.int hi u,.int 1 v] }).objs.size:=by simpa using hb
    subst e
    exact I1.fpOk (A8 _) (I1.hok.fresh (A8 _))
noncomputable def y7 (ta:TA):TI:=fun σ H R=>ta σ H fun vs H1=>∃ j:Int,vs=[.int j]/\-(2 ^ 62)<=j/\j < 2 ^ 62/\R (Itr 0 j.toNat) H1
noncomputable def y6 (ta:TA):TI:=fun σ H R=>ta σ H fun vs H1=>∃ i j:Int,vs=[.int i,.int j]/\(-(2 ^ 62)<=i/\i < 2 ^ 62/\-(2 ^ 62)<=j/\j < 2 ^ 62)/\R (Itr i (j - i).toNat) H1
theorem sY {a:Expr} {ta:TA} {p pos:Pos} (hg:Gl X "range") (hm:X.mg "range"=none) (ha:PA X [a] ta) (hs:starEach [a] X.env=[(false,eval a X.env)]:=by rfl):PI X tg (.Call (.Name "range" p) [a] [] pos) (y7 ta):=by
  intro pins s σ H R I h
  refine Call_ (jo I hg hm boot_range (PyProof.Rows.callWith_type1 (thn (ha pos pins s σ H _ I h) fun us s1 ⟨vs,H1,I1,r1,q1⟩=>?_) hs rfl))
  obtain ⟨j,e,q1,q2,q⟩:=q1
  subst e
  cases r1 with
  | cons r rr =>
    cases rr
    obtain ⟨t,rfl⟩:=r
    exact call_range_1 (oV I1 (by omega) (by omega) q1 q2 (by simpa using q))
theorem sX {a b:Expr} {ta:TA} {p pos:Pos} (hg:Gl X "range") (hm:X.mg "range"=none) (ha:PA X [a,b] ta) (hs:starEach [a,b] X.env=[(false,eval a X.env),(false,eval b X.env)]:=by rfl) (hs2:starEach [b] X.env=[(false,eval b X.env)]:=by rfl) :
    PI X tg (.Call (.Name "range" p) [a,b] [] pos) (y6 ta):=by
  intro pins s σ H R I h
  refine Call_ (jo I hg hm boot_range (PyProof.Rows.callWith_type1 (thn (ha pos pins s σ H _ I h) fun us s1 ⟨vs,H1,I1,r1,q1⟩=>?_) (by rw [hs,hs2]) (by rw [hs2];rfl)))
  obtain ⟨i,j,e,⟨q1,q2,q3,q4⟩,q⟩:=q1
  subst e
  cases r1 with
  | cons r rr =>
    cases rr with
    | cons r' rr =>
      cases rr
      obtain ⟨t,rfl⟩:=r
      obtain ⟨t',rfl⟩:=r'
      exact call_range_2 (oV I1 q1 q2 q3 q4 q)
noncomputable def tFor (wi:TI) (g:TG) (tb:TS):TS:=fun D σ H=>wi σ H fun J H1=>∃ W:Nat->Nat->St->Hp->Prop,(∃ m,W 0 m σ H1)/\∀ i m σ H,W i m σ H ->
  (J.stop i H/\D.nx σ H)\/(J.go i H/\∃ N:St->Hp->Prop,(∀ σ' H',N σ' H'->∃ m',m' < m/\W (i+1) m' σ' H')/\∀ x H',J.yld i H x H'->g x σ H' fun σ2 H2=>tb { D with nx:=N,ct:=N,bk:=D.nx } σ2 H2)
noncomputable def ls (fp:List Addr) (h:Heap):List (Addr × Obj):=fp.filterMap fun b=>(h.get? b).map fun o=>(b,o)
theorem gE {fp:List Addr} {h:Heap} {b:Addr} {o:Obj} (hb:b ∈ fp) (e:h.get? b=some o):(b,o) ∈ ls fp h:=List.mem_filterMap.mpr ⟨b,hb,by rw [e];rfl⟩
theorem sZ {fp:List Addr} {h:Heap} {p:Addr × Obj} (hp:p ∈ ls fp h):p.1 ∈ fp/\h.get? p.1=some p.2:=by
  obtain ⟨b,hb,e⟩:=List.mem_filterMap.mp hp
  cases q:h.get? b with
  | none=>rw [q] at e;cases e
  | some o =>
    rw [q] at e
    have e':(b,o)=p:=BC e
    subst e'
    exact ⟨hb,q⟩
theorem Inv.pinned {pins:List (Addr × Obj)} {σ:St} {H:Hp} {s:Shared} {fp:List Addr} (I:Inv X pins σ H s) (hf:∀ b ∈ fp,FpOk X pins H b) (ho:∀ b ∈ fp,∃ o,s.heap.get? b=some o/\∀ v,o.data ≠ .cell v):Inv X (pins ++ ls fp s.heap) σ H s :=
  I.pins_of fun p hp=>(A0.mp hp).elim (fun z=>I.pin p (AW _ z)) fun z=>by
    obtain ⟨hb,e⟩:=sZ z
    obtain ⟨f0,f1,f2,_⟩:=hf p.1 hb
    obtain ⟨o,e',d⟩:=ho p.1 hb
    rw [e] at e';cases e'
    exact ⟨e,f0,f1,f2,d⟩
theorem Inv.unpinned {pins pl:List (Addr × Obj)} {σ:St} {H:Hp} {s:Shared} (I:Inv X (pins ++ pl) σ H s):Inv X pins σ H s:=I.pins_of fun p hp=>I.pin p (AW _ (AV _ hp))
set_option tactic.hygienic true in
theorem zV {iter:Expr} {body:List Stmt} {wi:TI} {g:TG} {tb:TS} {pos:Pos} (hp:PassesOwn (model X.prog X.w) X.A X.env X.xe) (hc:X.calm=true) (hi:PI X tg iter wi) (hg:PG X tg g) (hb:PSs X body tb)
    (hs:∀ x,foldedSetIterable iter X.env x=pure x:=by intro _;rfl):PS X (.For tg iter body [] pos) (tFor wi g tb):=by
  intro pins s σ H D I h
  refine wpAny_For (thn (hi pins s σ H _ I h) fun v s1 h1=>thn h1 fun itv s2 h2=>?_) hs
  obtain ⟨it,fp,tn,J,H2,e,I2,T,st2,f2,W,⟨m0,w0⟩,turn⟩:=h2
  subst e
  have stat:∀ {H':Hp},(∀ b ∈ fp,H' b=none)->∀ b ∈ fp,FpOk X pins H' b:=fun hn b hb=>⟨hn b hb,(f2 b hb).2⟩
  refine codeAny_forLoop_any (fun n s'=>∃ i σ' H',Inv X pins σ' H' s'/\tn i s'.heap/\(∀ b ∈ fp,H' b=none)/\W i n σ' H') ?_ m0 ⟨0,σ,H2,I2,st2,fun b hb=>(f2 b hb).1,w0⟩
  rintro n s3 ⟨i,σ3,H3,I3,st3,fr3,w3⟩
  rcases turn i n σ3 H3 w3 with ⟨stop,qn⟩ | ⟨go,N,hN,step⟩
  · refine wpAny_passesOwn hp (thn (T.done X rfl rfl rfl hc i pins s3 σ3 H3 X.xe I3 (stat fr3) st3 stop) fun r s4 ⟨hr,I4⟩=>?_)
    subst hr
    exact wpAny_execs_nil ⟨σ3,H3,I4,qn⟩
  · refine wpAny_passesOwn hp (thn (T.item X rfl rfl rfl hc i pins s3 σ3 H3 X.xe I3 (stat fr3) st3 go) fun r s4 ⟨u,hr,h4⟩=>?_)
    subst hr
    refine wpAny_passesOwn hp (thn h4 fun _ s5 ⟨x,H5,I5,r5,y5,st5,fr5⟩=>?_)
    have I5':=I5.pinned (stat fr5) (T.obj _ _ st5)
    refine wpAny_passesOwn hp (thn (hg _ s5 σ3 H5 x u _ I5' r5 (step x H5 y5)) fun _ s6 ⟨σ6,H6,I6,q6⟩=>?_)
    refine wpAny_passesOwn hp (thn (hb _ s6 σ6 H6 _ I6 q6) fun f s7 q7=>?_)
    have again:∀ {σ7:St} {H7:Hp},Inv X (pins ++ ls fp s5.heap) σ7 H7 s7->N σ7 H7->∃ m,m < n/\∃ i σ' H',Inv X pins σ' H' s7/\tn i s7.heap/\(∀ b ∈ fp,H' b=none)/\W i m σ' H':=fun {σ7 H7} I7 n7=>by
      obtain ⟨m',hm,w7⟩:=hN σ7 H7 n7
      refine ⟨m',hm,i+1,σ7,H7,I7.unpinned,T.keep _ _ _ st5 fun b hb o e=>(I7.pin (b,o) (AW _ (AW _ (gE hb e)))).1,fun b hb=>?_,w7⟩
      obtain ⟨o,e,d⟩:=T.obj _ _ st5 b hb
      exact (I7.pin (b,o) (AW _ (AW _ (gE hb e)))).2.1
    cases f with
    | next=>obtain ⟨σ7,H7,I7,n7⟩:=q7;exact again I7 n7
    | cont=>obtain ⟨σ7,H7,I7,n7⟩:=q7;exact again I7 n7
    | brk=>obtain ⟨σ7,H7,I7,q7⟩:=q7;exact ⟨σ7,H7,I7.unpinned,q7⟩
    | ret v=>obtain ⟨x7,σ7,H7,I7,r7,q7⟩:=q7;exact ⟨x7,σ7,H7,I7.unpinned,r7,q7⟩
end
end L2
namespace L2
open PySem PySem.Spec PyProof.Rows
noncomputable abbrev R2:=V->V->Hp->VK->Prop
noncomputable def OpR (X:Cx) (f:Value->Value->Sem Value) (r:R2):Prop :=
  ∀ (pins:List (Addr × Obj)) (s:Shared) (σ:St) (H:Hp) (x y:V) (v u:Value) (Q:VK),Inv X pins σ H s->RelV x v->RelV y u->r x y H Q ->
    wpAny (model X.prog X.w) X.A (f v u) (EP X pins σ Q) X.xe s
noncomputable def UnR (X:Cx) (f:Value->Sem Value) (r:V->Hp->VK->Prop):Prop :=
  ∀ (pins:List (Addr × Obj)) (s:Shared) (σ:St) (H:Hp) (x:V) (v:Value) (Q:VK),Inv X pins σ H s->RelV x v->r x H Q ->
    wpAny (model X.prog X.w) X.A (f v) (EP X pins σ Q) X.xe s
noncomputable def dJ (X:Cx) (f:Value) (r:List V->Hp->VK->Prop):Prop :=
  ∀ (pins:List (Addr × Obj)) (s:Shared) (σ:St) (H:Hp) (xs:List V) (us:List Value) (Q:VK),Inv X pins σ H s->Vals xs us->r xs H Q ->
    wpAny (model X.prog X.w) X.A (call f us) (EP X pins σ Q) X.xe s
noncomputable def tOp (r:R2) (ta tb:TE):TE:=fun σ H Q=>ta σ H fun x H1=>tb σ H1 fun y H2=>r x y H2 Q
noncomputable def tUn (r:V->Hp->VK->Prop) (ta:TE):TE:=fun σ H Q=>ta σ H fun x H1=>r x H1 Q
noncomputable def rI (C:Int->Int->Prop) (g:Int->Int->V):R2:=fun x y H Q=>∃ i j,x=.int i/\y=.int j/\C i j/\Q (g i j) H
noncomputable def rI0 (g:Int->Int->V):R2:=fun x y H Q=>∃ i j,x=.int i/\y=.int j/\Q (g i j) H
noncomputable def rU (g:Int->V):V->Hp->VK->Prop:=fun x H Q=>∃ i,x=.int i/\Q (g i) H
section
variable {X:Cx} {a b c:Expr} {ta tb tc:TE} {pos:Pos}
theorem AI (ha:PE X a ta) (hb:PE X b tb) {pins:List (Addr × Obj)} {s:Shared} {σ:St} {H:Hp} {R:V->V->Hp->Prop} (I:Inv X pins σ H s)
    (h:ta σ H fun x H1=>tb σ H1 fun y H2=>R x y H2) {Q:Value->Shared->Prop} {f:Value->Value->Sem Value}
    (hf:∀ v u s2 x y H2,Inv X pins σ H2 s2->RelV x v->RelV y u->R x y H2->wpAny (model X.prog X.w) X.A (f v u) Q X.xe s2) :
    wpAny (model X.prog X.w) X.A (eval a X.env) (fun v s₁=>wpAny (model X.prog X.w) X.A (eval b X.env) (fun u s₂=>wpAny (model X.prog X.w) X.A (f v u) Q X.xe s₂) X.xe s₁) X.xe s:=by
  refine thn (ha pins s σ H _ I h) fun v s1 ⟨x,H1,I1,r1,q1⟩=>?_
  refine thn (hb pins s1 σ H1 _ I1 q1) fun u s2 ⟨y,H2,I2,r2,q2⟩=>?_
  exact hf v u s2 x y H2 I2 r1 r2 q2
theorem pe_op {op:Operator} {r:R2} (ho:OpR X (binaryOp op) r) (ha:PE X a ta) (hb:PE X b tb):PE X (.BinOp a op b pos) (tOp r ta tb):=by
  intro pins s σ H Q I h
  exact wpAny_BinOp (AI ha hb I h fun v u s2 x y H2 I2 rx ry q=>ho pins s2 σ H2 x y v u Q I2 rx ry q)
theorem pe_un {op:UnaryOp} {r:V->Hp->VK->Prop} (ho:UnR X (unaryOp op) r) (ha:PE X a ta):PE X (.UnaryOp op a pos) (tUn r ta):=by
  intro pins s σ H Q I h
  exact UnaryOp_ (thn (ha pins s σ H _ I h) fun v s1 ⟨x,H1,I1,r1,q1⟩=>ho pins s1 σ H1 x v Q I1 r1 q1)
theorem opI {f:Value->Value->Sem Value} {C:Int->Int->Prop} {g:Int->Int->Int}
    (rule:∀ (i j:Int) (t u:Tok) (s:Shared) (Q:Value->Shared->Prop) (E:Value->Shared->Prop),C i j->Q (.int (g i j) s.toks) { s with toks:=s.toks+1 }->wpAny (model X.prog X.w) X.A (f (.int i t) (.int j u)) Q E s) :
    OpR X f (rI C fun i j=>.int (g i j)):=by
  intro pins s σ H x y v u Q I rx ry h
  obtain ⟨i,j,rfl,rfl,hc,q⟩:=h
  obtain ⟨t,rfl⟩:=rx
  obtain ⟨t',rfl⟩:=ry
  exact rule i j t t' s _ _ hc ⟨.int (g i j),H,I.tok _,⟨_,rfl⟩,q⟩
theorem Ae {f:Value->Value->Sem Value} {g:Int->Int->Int}
    (rule:∀ (i j:Int) (t u:Tok) (s:Shared) (Q:Value->Shared->Prop) (E:Value->Shared->Prop),Q (.int (g i j) s.toks) { s with toks:=s.toks+1 }->wpAny (model X.prog X.w) X.A (f (.int i t) (.int j u)) Q E s) :
    OpR X f (rI0 fun i j=>.int (g i j)):=by
  intro pins s σ H x y v u Q I rx ry h
  obtain ⟨i,j,rfl,rfl,q⟩:=h
  obtain ⟨t,rfl⟩:=rx
  obtain ⟨t',rfl⟩:=ry
  exact rule i j t t' s _ _ ⟨.int (g i j),H,I.tok _,⟨_,rfl⟩,q⟩
theorem xO {f:Value->Value->Sem Value} {g:Int->Int->Bool}
    (rule:∀ (i j:Int) (t u:Tok) (s:Shared) (Q:Value->Shared->Prop) (E:Value->Shared->Prop),Q (.bool (g i j)) s->wpAny (model X.prog X.w) X.A (f (.int i t) (.int j u)) Q E s) :
    OpR X f (rI0 fun i j=>.bl (g i j)):=by
  intro pins s σ H x y v u Q I rx ry h
  obtain ⟨i,j,rfl,rfl,q⟩:=h
  obtain ⟨t,rfl⟩:=rx
  obtain ⟨t',rfl⟩:=ry
  exact rule i j t t' s _ _ ⟨.bl (g i j),H,I,rfl,q⟩
noncomputable def uj (i j:Int):Prop:=0 < j/\j < 1073741824
noncomputable def qa (i j:Int):Prop:=0<=j/\j<=1000000/\i.natAbs < 2 ^ 64
noncomputable def CMul (i j:Int):Prop:=(-(2 ^ 64) < i/\i < 2 ^ 64)\/(-(2 ^ 64) < j/\j < 2 ^ 64)
theorem CMul.ok {i j:Int} (h:CMul i j):IntMulOk i j:=by
  rcases h with ⟨h1,h2⟩ | ⟨h1,h2⟩
  · exact .of_left (intBits_le_64 h1 h2)
  · exact .of_right (intBits_le_64 h1 h2)
theorem qb (k:Nat):(0:Int)<=2 ^ k:=by
  rw [two_pow_cast]
  exact Int.natCast_nonneg _
theorem op_add:OpR X (binaryOp .Add) (rI0 fun i j=>.int (i+j)):=Ae fun _ _ _ _ _ _ _ q=>add_int q
theorem dM:OpR X (binaryOp .Sub) (rI0 fun i j=>.int (i - j)):=Ae fun _ _ _ _ _ _ _ q=>sub_int q
theorem cS:OpR X (binaryOp .Mult) (rI CMul fun i j=>.int (i * j)):=opI fun _ _ _ _ _ _ _ hc q=>mul_int q hc.ok
theorem jV:OpR X (binaryOp .Mod) (rI (fun _ j=>0 < j) fun i j=>.int (i % j)):=opI fun i j _ _ _ _ _ hc q=>by
  have h1:(0:Int) < j:=hc
  exact mod_int' (by omega) (by rw [Int.fmod_eq_emod_of_nonneg i (by omega)];exact q)
theorem qz:OpR X (binaryOp .Pow) (rI qa fun i j=>.int (i ^ j.toNat)):=opI fun _ _ _ _ _ _ _ hc q=>pow_int_small hc.1 hc.2.1 hc.2.2 q
theorem Ab:OpR X (binaryOp .LShift) (rI qa fun i j=>.int (i * 2 ^ j.toNat)):=opI fun _ _ _ _ _ _ _ hc q=>lshift_int_small hc.1 hc.2.1 hc.2.2 q
theorem Aa:OpR X (binaryOp .RShift) (rI (fun _ j=>0<=j) fun i j=>.int (i / 2 ^ j.toNat)):=opI fun i j _ _ _ _ _ hc q =>
  rshift_int hc (by rw [Int.fdiv_eq_ediv_of_nonneg i (qb _)];exact q)
theorem Ad:OpR X (binaryOp .BitAnd) (rI0 fun i j=>.int (Builtin.bitAnd i j)):=Ae fun _ _ _ _ _ _ _ q=>and_int q
theorem unI {f:Value->Sem Value} {g:Int->Int}
    (rule:∀ (i:Int) (t:Tok) (s:Shared) (Q:Value->Shared->Prop) (E:Value->Shared->Prop),Q (.int (g i) s.toks) { s with toks:=s.toks+1 }->wpAny (model X.prog X.w) X.A (f (.int i t)) Q E s) :
    UnR X f (rU fun i=>.int (g i)):=by
  intro pins s σ H x v Q I rx h
  obtain ⟨i,rfl,q⟩:=h
  obtain ⟨t,rfl⟩:=rx
  exact rule i t s _ _ ⟨.int (g i),H,I.tok _,⟨_,rfl⟩,q⟩
theorem eX:UnR X (unaryOp .USub) (rU fun i=>.int (-i)):=unI fun _ _ _ _ _ q=>neg_int q
end
noncomputable def zF:V->V->Bool
  | .non,.non=>true | .non,.int _=>true | .int _,.non=>true | .non,.bl _=>true | .bl _,.non=>true | .non,.str _=>true | .str _,.non=>true
  | .int _,.int _=>true | .bl _,.bl _=>true | .str _,.str _=>true | .byt _,.byt _=>true
  | .int _,.str _=>true | .str _,.int _=>true | .bl _,.str _=>true | .str _,.bl _=>true
  | _,_=>false
noncomputable def rEq:R2:=fun x y H Q=>zF x y=true/\Q (.bl (decide (x=y))) H
noncomputable def rNe:R2:=fun x y H Q=>zF x y=true/\Q (.bl (!decide (x=y))) H
theorem sg {i j:Int}:decide (V.int i=V.int j)=(i == j):=by
  rw [Bool.eq_iff_iff]
  simp
theorem wm {i j:Bool}:decide (V.bl i=V.bl j)=(i == j):=by
  rw [Bool.eq_iff_iff]
  simp
theorem sf {i j:Str}:decide (V.str i=V.str j)=(i == j):=by
  rw [Bool.eq_iff_iff]
  simp
theorem sh {i j:Array UInt8}:decide (V.byt i=V.byt j)=(i.toList == j.toList):=by
  rw [Bool.eq_iff_iff]
  cases i
  cases j
  simp
section
variable {X:Cx} {a b c:Expr} {ta tb tc:TE} {pos:Pos}
theorem aX {pins:List (Addr × Obj)} {σ:St} {H:Hp} {s:Shared} {Q:VK} {k k':Bool} (I:Inv X pins σ H s) (q:Q (.bl k) H) (e:k=k'):EP X pins σ Q (.bool k') s:=by
  subst e
  exact ⟨.bl k,H,I,rfl,q⟩
theorem op_eq:OpR X (compareOp .Eq) rEq:=by
  intro pins s σ H x y v u Q I rx ry h
  obtain ⟨hs,q⟩:=h
  cases x with
  | non =>
    cases rx
    cases y with
    | non=>cases ry;exact PySem.EqNone.eq_none_none (aX I q (by simp))
    | bl j=>cases ry;exact PySem.EqNone.eq_none_bool (aX I q (by simp))
    | int j=>obtain ⟨t',rfl⟩:=ry;exact PySem.EqNone.eq_none_int (aX I q (by simp))
    | str j=>obtain ⟨t',rfl⟩:=ry;exact PySem.EqNone.eq_none_str (aX I q (by simp))
    | _=>exact absurd (show false=true from hs) A9
  | bl i =>
    cases rx
    cases y with
    | non=>cases ry;exact PySem.EqNone.eq_bool_none (aX I q (by simp))
    | bl j=>cases ry;exact eq_bool (aX I q wm)
    | str j=>obtain ⟨t',rfl⟩:=ry;exact PySem.EqMixed.eq_bool_str (aX I q (by simp))
    | _=>exact absurd (show false=true from hs) A9
  | int i =>
    obtain ⟨t,rfl⟩:=rx
    cases y with
    | non=>cases ry;exact PySem.EqNone.eq_int_none (aX I q (by simp))
    | int j=>obtain ⟨t',rfl⟩:=ry;exact eq_int (aX I q sg)
    | str j=>obtain ⟨t',rfl⟩:=ry;exact PySem.EqMixed.eq_int_str (aX I q (by simp))
    | _=>exact absurd (show false=true from hs) A9
  | str i =>
    obtain ⟨t,rfl⟩:=rx
    cases y with
    | non=>cases ry;exact PySem.EqNone.eq_str_none (aX I q (by simp))
    | bl j=>cases ry;exact PySem.EqMixed.eq_str_bool (aX I q (by simp))
    | int j=>obtain ⟨t',rfl⟩:=ry;exact PySem.EqMixed.eq_str_int (aX I q (by simp))
    | str j=>obtain ⟨t',rfl⟩:=ry;exact eq_str (aX I q sf)
    | _=>exact absurd (show false=true from hs) A9
  | byt i =>
    obtain ⟨t,rfl⟩:=rx
    cases y with
    | byt j=>obtain ⟨t',rfl⟩:=ry;exact PySem.W.eq_bytes (aX I q sh)
    | _=>exact absurd (show false=true from hs) A9
  | _=>cases y <;> exact absurd (show false=true from hs) A9
theorem op_ne:OpR X (compareOp .NotEq) rNe:=by
  intro pins s σ H x y v u Q I rx ry h
  obtain ⟨hs,q⟩:=h
  cases x with
  | non =>
    cases rx
    cases y with
    | non=>cases ry;exact PySem.EqNone.ne_none_none (aX I q (by simp))
    | bl j=>cases ry;exact PySem.EqNone.ne_none_bool (aX I q (by simp))
    | int j=>obtain ⟨t',rfl⟩:=ry;exact PySem.EqNone.ne_none_int (aX I q (by simp))
    | str j=>obtain ⟨t',rfl⟩:=ry;exact PySem.EqNone.ne_none_str (aX I q (by simp))
    | _=>exact absurd (show false=true from hs) A9
  | bl i =>
    cases rx
    cases y with
    | non=>cases ry;exact PySem.EqNone.ne_bool_none (aX I q (by simp))
    | bl j=>cases ry;exact ne_bool (aX I q (congrArg not wm))
    | str j=>obtain ⟨t',rfl⟩:=ry;exact PySem.EqMixed.ne_bool_str (aX I q (by simp))
    | _=>exact absurd (show false=true from hs) A9
  | int i =>
    obtain ⟨t,rfl⟩:=rx
    cases y with
    | non=>cases ry;exact PySem.EqNone.ne_int_none (aX I q (by simp))
    | int j=>obtain ⟨t',rfl⟩:=ry;exact ne_int (aX I q (congrArg not sg))
    | str j=>obtain ⟨t',rfl⟩:=ry;exact PySem.EqMixed.ne_int_str (aX I q (by simp))
    | _=>exact absurd (show false=true from hs) A9
  | str i =>
    obtain ⟨t,rfl⟩:=rx
    cases y with
    | non=>cases ry;exact PySem.EqNone.ne_str_none (aX I q (by simp))
    | bl j=>cases ry;exact PySem.EqMixed.ne_str_bool (aX I q (by simp))
    | int j=>obtain ⟨t',rfl⟩:=ry;exact PySem.EqMixed.ne_str_int (aX I q (by simp))
    | str j=>obtain ⟨t',rfl⟩:=ry;exact ne_str (aX I q (congrArg not sf))
    | _=>exact absurd (show false=true from hs) A9
  | byt i =>
    obtain ⟨t,rfl⟩:=rx
    cases y with
    | byt j=>obtain ⟨t',rfl⟩:=ry;exact PySem.W.ne_bytes (aX I q (congrArg not sh))
    | _=>exact absurd (show false=true from hs) A9
  | _=>cases y <;> exact absurd (show false=true from hs) A9
theorem kn:OpR X (compareOp .Lt) (rI0 fun i j=>.bl (decide (i < j))):=xO fun _ _ _ _ _ _ _ q=>lt_int q
theorem oY:OpR X (compareOp .LtE) (rI0 fun i j=>.bl (decide (i<=j))):=xO fun _ _ _ _ _ _ _ q=>le_int q
theorem yS:OpR X (compareOp .Gt) (rI0 fun i j=>.bl (decide (j < i))):=xO fun _ _ _ _ _ _ _ q=>gt_int q
theorem op_ge:OpR X (compareOp .GtE) (rI0 fun i j=>.bl (decide (j<=i))):=xO fun _ _ _ _ _ _ _ q=>ge_int q
theorem OpR.or {f:Value->Value->Sem Value} {r r':R2} (h:OpR X f r) (h':OpR X f r'):OpR X f (fun x y H Q=>r x y H Q\/r' x y H Q):=by
  intro pins s σ H x y v u Q I rx ry q
  rcases q with q | q
  · exact h pins s σ H x y v u Q I rx ry q
  · exact h' pins s σ H x y v u Q I rx ry q
theorem bb (b : Expr) {op : CmpOp} (h : op ≠ .In := by decide) (h2 : op ≠ .NotIn := by decide) : behindInMarks op b = false := by
  have e1 : (op == CmpOp.In) = false := by cases op <;> first | rfl | exact absurd rfl h
  have e2 : (op == CmpOp.NotIn) = false := by cases op <;> first | rfl | exact absurd rfl h2
  cases b <;> simp [behindInMarks, e1, e2]
theorem xM {op:CmpOp} {r:R2} (ho:OpR X (compareOp op) r) (ha:PE X a ta) (hb:PE X b tb) (hm:behindInMarks op b=false):PE X (.Compare a [op] [b] pos) (tOp r ta tb):=by
  intro pins s σ H Q I h
  exact wpAny_Compare1 (AI ha hb I h fun v u s2 x y H2 I2 rx ry q=>ho pins s2 σ H2 x y v u Q I2 rx ry q) hm
noncomputable def yF (t:TE):TT:=fun σ H Q=>t σ H fun x H'=>∃ k,x=.bl k/\Q k H'
theorem xC {op:CmpOp} {r:R2} (ho:OpR X (compareOp op) r) (ha:PE X a ta) (hb:PE X b tb) (hm:behindInMarks op b=false):PT X (.Compare a [op] [b] pos) (yF (tOp r ta tb)):=by
  intro pins s σ H Q I h
  refine wpAny_isTrue_Compare1 (thn (ha pins s σ H _ I h) fun v s1 ⟨x,H1,I1,r1,q1⟩=>thn (hb pins s1 σ H1 _ I1 q1) fun u s2 ⟨y,H2,I2,r2,q2⟩ =>
    thn (ho pins s2 σ H2 x y v u _ I2 r1 r2 q2) fun c s3 ⟨z,H3,I3,r3,k,e,q3⟩=>?_) hm
  subst e
  cases r3
  exact Bv ⟨H3,I3,q3⟩
noncomputable def ng (r r':R2) (ta tb tc:TE):TE:=fun σ H Q=>ta σ H fun x H1=>tb σ H1 fun y H2=>r x y H2 fun z H3=>∃ k,z=.bl k /\
  (if k=true then tc σ H3 fun w' H4=>r' y w' H4 Q else Q (.bl false) H3)
theorem vo {op op':CmpOp} {r r':R2} (ho:OpR X (compareOp op) r) (ho':OpR X (compareOp op') r') (ha:PE X a ta) (hb:PE X b tb) (hc:PE X c tc)
    (hm:lastMarks [op,op'] [b,c]=false:=by with_unfolding_all rfl):PE X (.Compare a [op,op'] [b,c] pos) (ng r r' ta tb tc):=by
  intro pins s σ H Q I h
  refine Compare_chain (thn (ha pins s σ H _ I h) fun v s1 ⟨x,H1,I1,r1,q1⟩=>chain_link (thn (hb pins s1 σ H1 _ I1 q1) fun u s2 ⟨y,H2,I2,r2,q2⟩ =>
    thn (ho pins s2 σ H2 x y v u _ I2 r1 r2 q2) fun d s3 ⟨z,H3,I3,r3,k,e,q3⟩=>?_)) hm
  subst e
  cases r3
  refine Bv ?_
  cases k with
  | false=>exact ite_ff ⟨.bl false,H3,I3,rfl,q3⟩
  | true=>exact ite_tt (chain_last (thn (hc pins s3 σ H3 _ I3 q3) fun w' s4 ⟨z',H4,I4,r4,q4⟩=>ho' pins s4 σ H4 y z' u w' Q I4 r2 r4 q4))
theorem u8 {op op':CmpOp} {r r':R2} (ho:OpR X (compareOp op) r) (ho':OpR X (compareOp op') r') (ha:PE X a ta) (hb:PE X b tb) (hc:PE X c tc)
    (hm:lastMarks [op,op'] [b,c]=false:=by with_unfolding_all rfl):PT X (.Compare a [op,op'] [b,c] pos) (yF (ng r r' ta tb tc)):=by
  intro pins s σ H Q I h
  refine isTrue_chain (thn (ha pins s σ H _ I h) fun v s1 ⟨x,H1,I1,r1,q1⟩=>test_link (thn (hb pins s1 σ H1 _ I1 q1) fun u s2 ⟨y,H2,I2,r2,q2⟩ =>
    thn (ho pins s2 σ H2 x y v u _ I2 r1 r2 q2) fun d s3 ⟨z,H3,I3,r3,k,e,q3⟩=>?_)) hm
  subst e
  cases r3
  refine Bv ?_
  cases k with
  | false =>
    obtain ⟨k',e',q'⟩:=q3
    cases e'
    exact ite_ff ⟨H3,I3,q'⟩
  | true =>
    refine ite_tt (test_last (thn (hc pins s3 σ H3 _ I3 q3) fun w' s4 ⟨z',H4,I4,r4,q4⟩=>thn (ho' pins s4 σ H4 y z' u w' _ I4 r2 r4 q4) fun d' s5 ⟨z2,H5,I5,r5,k2,e2,q5⟩=>?_))
    subst e2
    cases r5
    exact Bv ⟨H5,I5,q5⟩
theorem nM:(sizeLine:Nat) < 2 ^ 63:=by rw [sizeLine_eq];decide
theorem op_add_str:OpR X (binaryOp .Add) (fun x y H Q=>∃ i j,x=.str i/\y=.str j/\i.length+j.length<=sizeLine/\Q (.str (i ++ j)) H):=by
  intro pins s σ H x y v u Q I rx ry h
  obtain ⟨i,j,rfl,rfl,hz,q⟩:=h
  obtain ⟨t,rfl⟩:=rx
  obtain ⟨t',rfl⟩:=ry
  exact add_str (fun t' tk=>⟨.str (i ++ j),H,I.tok _,⟨_,rfl⟩,q⟩) hz
theorem kh {x:V} {us:List Value} (r:Vals [x] us):∃ u,us=[u]/\RelV x u:=by
  cases r with
  | cons r1 r2=>cases r2;exact ⟨_,rfl,r1⟩
theorem mm {x y:V} {us:List Value} (r:Vals [x,y] us):∃ u w',us=[u,w']/\RelV x u/\RelV y w':=by
  cases r with
  | cons r1 r2 =>
    cases r2 with
    | cons r3 r4=>cases r4;exact ⟨_,_,rfl,r1,r3⟩
theorem t9 (hc:X.calm=true):dJ X (.builtin "max") (fun xs H Q=>∃ i j,xs=[.int i,.int j]/\Q (.int (if j > i then j else i)) H):=by
  intro pins s σ H xs us Q I r h
  obtain ⟨i,j,rfl,q⟩:=h
  obtain ⟨u,w',rfl,⟨t,rfl⟩,⟨t',rfl⟩⟩:=mm r
  refine max_two_ints (I.ok.hd hc) fun h' tk k=>⟨_,H,I.kept k,?_,q⟩
  by_cases hj:j > i
  · rw [if_pos hj,if_pos hj];exact ⟨_,rfl⟩
  · rw [if_neg hj,if_neg hj];exact ⟨_,rfl⟩
theorem t8 (hc:X.calm=true):dJ X (.builtin "min") (fun xs H Q=>∃ i j,xs=[.int i,.int j]/\Q (.int (if j < i then j else i)) H):=by
  intro pins s σ H xs us Q I r h
  obtain ⟨i,j,rfl,q⟩:=h
  obtain ⟨u,w',rfl,⟨t,rfl⟩,⟨t',rfl⟩⟩:=mm r
  refine min_two_ints (I.ok.hd hc) fun h' tk k=>⟨_,H,I.kept k,?_,q⟩
  by_cases hj:j < i
  · rw [if_pos hj,if_pos hj];exact ⟨_,rfl⟩
  · rw [if_neg hj,if_neg hj];exact ⟨_,rfl⟩
theorem ua:dJ X (.type "int") (fun xs H Q=>(∃ i,xs=[.int i]/\Q (.int i) H)\/∃ k,xs=[.bl k]/\Q (.int (if k then 1 else 0)) H):=by
  intro pins s σ H xs us Q I r h
  rcases h with ⟨i,rfl,q⟩ | ⟨k,rfl,q⟩
  · obtain ⟨u,rfl,t,rfl⟩:=kh r
    exact call_int_int ⟨.int i,H,I,⟨_,rfl⟩,q⟩
  · obtain ⟨u,rfl,r1⟩:=kh r
    cases r1
    exact call_int_bool ⟨.int (if k then 1 else 0),H,I.tok _,⟨_,rfl⟩,q⟩
theorem pP:dJ X (.builtin "divmod") (fun xs H Q=>∃ i j,xs=[.int i,.int j]/\uj i j/\∀ p,H p=none->Q (.ref p) (upd H p (.tup [.int (i / j),.int (i % j)]))):=by
  intro pins s σ H xs us Q I r h
  obtain ⟨i,j,rfl,⟨h1,h2⟩,q⟩:=h
  obtain ⟨u,w',rfl,⟨t,rfl⟩,⟨t',rfl⟩⟩:=mm r
  refine divmod_int (by omega) ?_ (.inl (PyProof.noPylong_small (by omega)))
  rw [Int.fdiv_eq_ediv_of_nonneg i (by omega),Int.fmod_eq_emod_of_nonneg i (by omega)]
  have hn:H s.heap.objs.size=none:=I.hok.fresh (A8 _)
  refine ⟨.ref s.heap.objs.size,_,?_,rfl,q _ hn⟩
  refine I.laid (fun b o e=>AT _ e) (A8 _) ⟨by simp only [Bj,List.length_nil];rw [sizeLine_eq];decide,[.int (i / j) s.toks,.int (i % j) (s.toks+1)],.cons ⟨_,rfl⟩ (.cons ⟨_,rfl⟩ .nil),?_⟩
  exact ⟨_,A1 s.heap rfl,rfl,0,rfl⟩
end
end L2
namespace L2
open PySem PySem.Spec PyProof.Rows
theorem RelO.some_of {v:V} {o:Option Value} (r:RelO (some v) o):∃ u,o=some u/\RelV v u:=by
  cases o with
  | none=>exact (show False from r).elim
  | some u=>exact ⟨u,rfl,r⟩
end L2
namespace L2
open PySem PySem.Spec PyProof.Rows
structure Room (k:Nat) (A:Around):Prop where
  hd:A.handled=none
  dp:A.depth+3 * k+5 < recursionLimit
  un:A.units+16 * k+200 < cLine
  gd:A.guards=some []
theorem Room.mono {j k:Nat} {A:Around} (r:Room k A) (h:j<=k):Room j A:=⟨r.hd,by have:=r.dp;omega,by have:=r.un;omega,r.gd⟩
theorem Room.deeper {k:Nat} {A:Around} (r:Room (k+1) A) (env:Env):Room k (A.deeper env) :=
  ⟨r.hd,by have:=r.dp;show A.depth+1+3 * k+5 < _;omega,by have:=r.un;show A.units+3+16 * k+200 < _;omega,r.gd⟩
theorem Room.depth {k:Nat} {A:Around} (r:Room k A):A.depth < recursionLimit:=by have:=r.dp;omega
theorem Room.units {k:Nat} {A:Around} (r:Room k A):A.units+64 < cLine:=by have:=r.un;omega
noncomputable def tNil:TA:=fun _ H Q=>Q [] H
noncomputable def yM (ta:TE) (tr:TA):TA:=fun σ H Q=>ta σ H fun x H1=>tr σ H1 fun xs H2=>Q (x :: xs) H2
section
variable {X:Cx} {e:Expr} {es:List Expr} {te:TE} {t:TA} {pos:Pos}
theorem qx:PA X [] tNil:=fun _ _ _ _ H Q I h=>Calls.spliced_nil ⟨[],H,I,.nil,h⟩
theorem kR (ha:PE X e te) (hr:PA X es t) (hs:starEach (e :: es) X.env=(false,eval e X.env) :: starEach es X.env:=by rfl):PA X (e :: es) (yM te t):=by
  intro pos pins s σ H Q I h
  rw [hs]
  show wpAny _ _ (spliced ((false,eval e X.env) :: backTo pos (starEach es X.env))) _ _ s
  refine Calls.spliced_cons (thn (ha pins s σ H _ I h) fun u s1 ⟨x,H1,I1,r1,q1⟩=>?_)
  exact thn (hr pos pins s1 σ H1 _ I1 q1) fun us s2 ⟨xs,H2,I2,r2,q2⟩=>⟨x :: xs,H2,I2,.cons r1 r2,q2⟩
noncomputable def tTup (t:TA):TE:=fun σ H Q=>t σ H fun xs H1=>xs.length<=sizeLine/\∀ p,H1 p=none->Q (.ref p) (upd H1 p (.tup xs))
noncomputable def tLst (t:TA):TE:=fun σ H Q=>t σ H fun xs H1=>xs.length<=sizeLine/\∀ p,H1 p=none->Q (.ref p) (upd H1 p (.lst xs))
theorem zY {x1} (h:PA X es t):PE X (.Tuple es x1 pos) (tTup t):=by
  intro pins s σ H Q I hq
  refine wpAny_Tuple_spliced (thn (h pos pins s σ H _ I hq) fun us s1 ⟨xs,H1,I1,r,z,q⟩=>⟨by rw [<- r.length];exact z,?_⟩)
  have hf:H1 s1.heap.objs.size=none:=I1.hok.fresh (A8 _)
  refine ⟨.ref s1.heap.objs.size,upd H1 s1.heap.objs.size (.tup xs),I1.laid (t':=s1.toks) (fun b u e=>AT _ e) (A8 _) ?_,rfl,q _ hf⟩
  exact ⟨z,us,r,⟨_,A1 _ rfl,rfl,_,rfl⟩⟩
theorem z6 (h:PA X es t):PE X (.List es pos) (tLst t):=by
  intro pins s σ H Q I hq
  refine wpAny_List_spliced (thn (h pos pins s σ H _ I hq) fun us s1 ⟨xs,H1,I1,r,z,q⟩=>⟨by rw [<- r.length];exact z,?_⟩)
  have hf:H1 s1.heap.objs.size=none:=I1.hok.fresh (A8 _)
  refine ⟨.ref s1.heap.objs.size,upd H1 s1.heap.objs.size (.lst xs),I1.laid (t':=s1.toks) (fun b u e=>AT _ e) (A8 _) ?_,rfl,q _ hf⟩
  exact ⟨z,us,0,r,A1 _ rfl⟩
end
noncomputable abbrev Sp:=List V->Hp->VK->XK->Prop
noncomputable abbrev CXT:=List Env->Hp->Shared->XK->Value->Shared->Prop
structure Env0 (P:Program) (w:World) (K:FG) (mg:Str->Option Value) (base:Heap) (A:Around) (outer:List Env) (s:Shared) (H:Hp):Prop where
  frames:A.frames=some outer
  mod:Mod K mg base
  bs:∀ b o,base.get? b=some o->s.heap.get? b=some o/\H b=none
  bsz:base.objs.size<=s.heap.objs.size
  funs:s.heap.FunFrames base outer
  frf:∀ b ∈ frs outer,H b=none
  hok:HOk P w H s.heap
  bare:AllBare s.gens
noncomputable def CE (outer:List Env) (P:Program) (w:World) (H:Hp) (s:Shared) (Q:VK) (u:Value) (s':Shared):Prop :=
  ∃ v H',s'.os=s.os/\AllBare s'.gens/\Un (frs outer) [] H H' s.heap s'.heap/\HOk P w H' s'.heap/\RelV v u/\Q v H'
noncomputable def CR (CX:CXT) (outer:List Env) (P:Program) (w:World) (H:Hp) (s:Shared) (Q:VK) (E:XK) (r:Result) (s':Shared):Prop :=
  match r with
  | .ok (.ret u)=>CE outer P w H s Q u s'
  | .ok _=>False
  | .error e=>CX outer H s E e s'
structure FnOk (P:Program) (w:World) (K:FG) (mg:Str->Option Value) (base:Heap) (CX:CXT) (k:Nat) (f:Addr) (fd:FuncData) (ps:List Str) (sp:Sp):Prop where
  len:∀ vs H Q E,sp vs H Q E->vs.length=ps.length
  run:∀ (A:Around) (outer:List Env) (s:Shared) (H:Hp) (args:Args) (us:List Value) (vs:List V) (Q:VK) (E:XK),Room k A->Env0 P w K mg base A outer s H->BindsTo s fd args (ps.zip us)->Vals vs us->sp vs H Q E ->
    codeAny (model P w) A (.call (.ref f) args) (CR CX outer P w H s Q E) s
theorem FnOk.imp {P:Program} {w:World} {K:FG} {mg:Str->Option Value} {base:Heap} {CX:CXT} {k:Nat} {f:Addr} {fd:FuncData} {ps:List Str} {sp sp':Sp} (F:FnOk P w K mg base CX k f fd ps sp)
    (h:∀ vs H Q E,sp' vs H Q E->sp vs H Q E):FnOk P w K mg base CX k f fd ps sp' :=
  ⟨fun vs H Q E q=>F.len vs H Q E (h _ _ _ _ q),fun A outer s H args us vs Q E hr he hb hv hs=>F.run A outer s H args us vs Q E hr he hb hv (h _ _ _ _ hs)⟩
section
variable {X:Cx} {pins:List (Addr × Obj)} {σ:St} {H:Hp} {s s':Shared}
theorem Inv.env0 (I:Inv X pins σ H s):Env0 X.prog X.w X.K X.mg X.base X.A X.stack s H :=
  ⟨I.ok.frames,I.ok.mod,I.bs,Bw I.ok.bsz I.sz,I.stack,I.stkFree,I.hok,I.bare⟩
theorem Inv.after {Q:VK} {u:Value} (I:Inv X pins σ H s) (h:CE X.stack X.prog X.w H s Q u s'):EP X pins σ Q u s':=by
  obtain ⟨v,H',os,bare,un,hok,r,q⟩:=h
  obtain ⟨hh,g,d,t,os'⟩:=s'
  obtain rfl:os'=s.os:=os
  exact ⟨v,H',I.call (h':=hh) (g':=g) (d':=d) (t':=t) (ch:=[]) un hok bare (fun b z=>absurd z (by simp)),r,q⟩
end
noncomputable def tCall (sp:Sp) (dvs:List V) (E:XK) (t:TA):TE:=fun σ H Q=>t σ H fun vs H1=>sp (vs ++ dvs) H1 Q E
noncomputable def Binds (K:FG) (fd:FuncData) (ps:List Str) (ds:List Value):Prop :=
  ∀ (s:Shared) (us:List Value),K.In s.heap->(us ++ ds).length=ps.length->BindsTo s fd ⟨us,[]⟩ (ps.zip (us ++ ds))
theorem Binds.all {K:FG} {fd:FuncData} {ps:List Str} (h:∀ us:List Value,us.length=ps.length->bindArgs fd ⟨us,[]⟩=pure (ps.zip us)):Binds K fd ps []:=fun s us _ hl=>by
  rw [List.append_nil] at hl ⊢
  exact .of_eq (h us hl)
noncomputable def rh (CX:CXT) (X:Cx) (E:XK):Prop:=∀ (pins:List (Addr × Obj)) (σ:St) (H:Hp) (s:Shared) (e:Value) (s':Shared),Inv X pins σ H s->CX X.stack H s E e s'->X.xe e s'
section
variable {X:Cx} {CX:CXT} {k:Nat} {f C:Addr} {fd:FuncData} {ps:List Str} {sp:Sp} {dvs:List V} {ds:List Value} {E:XK} {x m:Str} {p pos apos:Pos} {e o:Expr} {es:List Expr} {ta:TE} {t:TA}
set_option tactic.hygienic true in
theorem zJ {pins:List (Addr × Obj)} {σ:St} {H:Hp} {s:Shared} {Q:VK} {us:List Value} {vs:List V} (F:FnOk X.prog X.w X.K X.mg X.base CX k f fd ps sp) (hr:Room k X.A) (hb:Binds X.K fd ps ds) (hd:Vals dvs ds) (hx:rh CX X E)
    (I:Inv X pins σ H s) (r:Vals vs us) (h:sp (vs ++ dvs) H Q E):wpAny (model X.prog X.w) X.A (call (.ref f) us) (EP X pins σ Q) X.xe s:=by
  have r2:Vals (vs ++ dvs) (us ++ ds):=r.append hd
  have hl:(us ++ ds).length=ps.length:=by rw [<- r2.length];exact F.len _ _ _ _ h
  refine wpAny_call (codeAny_mono (F.run X.A X.stack s H ⟨us,[]⟩ (us ++ ds) (vs ++ dvs) Q E hr I.env0 (hb s us I.kIn hl) r2 h) fun r s' hq=>?_)
  cases r with
  | error e=>exact hx pins σ H s e s' I hq
  | ok fl =>
    cases fl with
    | ret u=>exact I.after hq
    | next=>exact False.elim hq
    | brk=>exact False.elim hq
    | cont=>exact False.elim hq
theorem xN (F:FnOk X.prog X.w X.K X.mg X.base CX k f fd ps sp) (hr:Room k X.A) (hg:Gl X x) (hm:X.mg x=some (.ref f)) (hk:PySem.W.keepIn X.K (.ref f)=true) (hb:Binds X.K fd ps ds) (hd:Vals dvs ds) (hx:rh CX X E)
    (ha:PA X (e :: es) t) (hdb:(x == ("__debug__":Str))=false:=by decide) (he:starEach (e :: es) X.env=(false,eval e X.env) :: starEach es X.env:=by rfl) (hpl:(backTo pos (starEach es X.env)).any (·.1)=false:=by rfl) :
    PE X (.Call (.Name x p) (e :: es) [] pos) (tCall sp dvs E t):=by
  intro pins s σ H Q I h
  refine wpAny_Call_Name_kw (rS I hg hm ?_ hdb)
  refine PySem.W.callWith_K (h₀:=X.base) I.ok.mod.kin hk (thn (ha pos pins s σ H _ I h) fun us s1 ⟨vs,H1,I1,r,q⟩=>⟨I1.kIn,?_⟩) he hpl
  exact zJ F hr hb hd hx I1 r q
end
structure FnScope (N P:List Str) (sc:Scope):Prop where
  kind:sc.kind=.function
  co:sc.isCoroutine=false
  gen:sc.isGenerator=false
  nd:N.Nodup
  pre:N.take P.length=P
  par:∀ x ∈ P,sc.names.lookup x=some .local\/sc.names.lookup x=some .cell
  nofree:∀ y ∈ sc.names,y.2 ≠ .free
theorem mW {kindOf:Str->Option NameKind} {x:Str}:∀ {binds:List (Str × Value)} {m:Str->Option Value},(∀ v,(x,v) ∉ binds)->bindL kindOf binds m x=m x
  | [],_,_=>rfl
  | (n,v) :: r,m,h=>by
    unfold bindL
    rw [mW fun w hw=>h w (AS _ hw)]
    split
    · have:x ≠ n:=by rintro rfl;exact h v AR
      simp [this]
    · rfl
theorem mZ {kindOf:Str->Option NameKind} {x:Str}:∀ {binds:List (Str × Value)} {m:Str->Option Value},(∀ v,(x,v) ∉ binds)->bindC kindOf binds m x=m x
  | [],_,_=>rfl
  | (n,v) :: r,m,h=>by
    unfold bindC
    rw [mZ fun w hw=>h w (AS _ hw)]
    split
    · rfl
    · have:x ≠ n:=by rintro rfl;exact h v AR
      simp [this]
theorem mY {kindOf:Str->Option NameKind} {x:Str} {v:Value}:∀ {P:List Str} {vs:List Value} {i:Nat} {m:Str->Option Value},P.Nodup->P[i]?=some x->vs[i]?=some v->kindOf x=some .local ->
    bindL kindOf (P.zip vs) m x=some v
  | [],_,_,_,_,h,_,_=>by simp at h
  | _ :: _,[],_,_,_,_,h,_=>by simp at h
  | p :: P,w :: vs,0,m,nd,h1,h2,hk=>by
    simp at h1 h2;subst h1;subst h2
    show bindL kindOf ((p,w) :: P.zip vs) m p=_
    unfold bindL
    rw [mW fun v hv=>(List.nodup_cons.mp nd).1 (List.of_mem_zip hv).1,if_pos hk]
    simp
  | p :: P,w :: vs,i+1,m,nd,h1,h2,hk=>by
    show bindL kindOf ((p,w) :: P.zip vs) m x=_
    unfold bindL
    exact mY (i:=i) (List.nodup_cons.mp nd).2 (by simpa using h1) (by simpa using h2) hk
theorem m4 {kindOf:Str->Option NameKind} {x:Str} {v:Value}:∀ {P:List Str} {vs:List Value} {i:Nat} {m:Str->Option Value},P.Nodup->P[i]?=some x->vs[i]?=some v->kindOf x ≠ some .local ->
    bindC kindOf (P.zip vs) m x=some v
  | [],_,_,_,_,h,_,_=>by simp at h
  | _ :: _,[],_,_,_,_,h,_=>by simp at h
  | p :: P,w :: vs,0,m,nd,h1,h2,hk=>by
    simp at h1 h2;subst h1;subst h2
    show bindC kindOf ((p,w) :: P.zip vs) m p=_
    unfold bindC
    rw [mZ fun v hv=>(List.nodup_cons.mp nd).1 (List.of_mem_zip hv).1,if_neg hk]
    simp
  | p :: P,w :: vs,i+1,m,nd,h1,h2,hk=>by
    show bindC kindOf ((p,w) :: P.zip vs) m x=_
    unfold bindC
    exact m4 (i:=i) (List.nodup_cons.mp nd).2 (by simpa using h1) (by simpa using h2) hk
noncomputable def ki (N:List Str) (vs:List V):St:=vs.map some ++ List.replicate (N.length - vs.length) none
noncomputable def pJ (CX:CXT) (P:Program) (w:World) (K:FG) (mg:Str->Option Value) (base:Heap) (N:List Str) (qual:Str) (scope:Scope) (f:Addr) (cd:Value) (A:Around) (outer:List Env) (s:Shared) (H:Hp) (E:XK):Cx where
  prog:=P
  w:=w
  K:=K
  mg:=mg
  base:=base
  A:=A.deeper (envOfC qual scope s.heap.objs.size f cd)
  N:=N
  s₀:=s
  H₀:=H
  env:=envOfC qual scope s.heap.objs.size f cd
  outer:=outer
  stack:=envOfC qual scope s.heap.objs.size f cd :: outer
  ex:=[]
  calm:=true
  fn:=fun _=>true
  pn:=[]
  xe:=fun e s'=>wpAny (model P w) (A.deeper (envOfC qual scope s.heap.objs.size f cd)) (leaving (envOfC qual scope s.heap.objs.size f cd) e) (fun _ s''=>CX outer H s E e s'') (fun e' s''=>CX outer H s E e' s'') s'
theorem pO {sc:Scope} {n:Nat} {x:Str} (h:sc.names.lookup x=some .cell):∃ c,(cellsFrom n sc.names []).lookup x=some c:=by
  have q:=PySem.W.cellsFrom_some sc.names n [] (.inl h)
  exact Option.isSome_iff_exists.mp q
theorem tJ {CX:CXT} {P:Program} {w:World} {K:FG} {mg:Str->Option Value} {base:Heap} {N ps:List Str} {qual:Str} {scope:Scope} {f:Addr} {cd:Value} {A:Around} {outer:List Env} {s s1:Shared} {H:Hp} {E:XK} {us:List Value} {vs:List V}
    (S:FnScope N ps scope) (hd:A.handled=none) (e0:Env0 P w K mg base A outer s H) (hl:vs.length=ps.length) (r:Vals vs us)
    (x:InCallC s s.heap.objs.size (bindL (envOfC qual scope s.heap.objs.size f cd).kindOf (ps.zip us) fun _=>none) (cellsFrom (s.heap.objs.size+1) scope.names []) (bindC (envOfC qual scope s.heap.objs.size f cd).kindOf (ps.zip us) fun _=>none) s1) :
    Inv (pJ CX P w K mg base N qual scope f cd A outer s H E) [] (ki N vs) H s1:=by
  have hpl:ps.length<=N.length:=by have:=congrArg List.length S.pre;rw [Bk] at this;omega
  obtain ⟨h1,tk,rfl,hk⟩:=x.done
  have noA:∀ b:Addr,b ∉ (pJ CX P w K mg base N qual scope f cd A outer s H E).ex:=fun b z=>absurd (show b ∈ ([]:List Addr) from z) (by simp)
  refine ⟨⟨e0.mod,S.kind,rfl,rfl,A8 _,fun y z c h1 h2=>?_,fun y hy=>?_,fun y c _ h=>?_,fun _=>hd,Around.frames_deeper e0.frames,.inr ⟨rfl,rfl⟩,fun b z=>absurd z (noA b),e0.bs,e0.bsz,fun b _ _=>noA b,fun b z=>absurd z (noA b),e0.funs,e0.frf⟩,
    rfl,e0.bare,Un.kept hk,⟨_,x.toInCall.ns,fun i y v h1 h2 h3=>?_⟩,fun y c h=>⟨_,x.cell y c h⟩,e0.hok.fresh (A8 _),fun y c h=>?_,fun p hp=>absurd (show p ∈ ([]:List (Addr × Obj)) from hp) (by simp),e0.hok.kept hk,?_⟩
  · exact name_of_addr x.apart (PySem.mem_of_lookup h1) (PySem.mem_of_lookup h2)
  · have hy:scope.names.lookup y=some .cell\/scope.names.lookup y=some .free:=hy
    rcases hy with hy | hy
    · exact pO hy
    · exact absurd rfl (S.nofree _ (PySem.mem_of_lookup hy))
  · exact Nat.le_of_lt (x.above y c (PySem.mem_of_lookup h))
  · have hi:i < vs.length:=by
      unfold ki at h2
      by_cases hi:i < vs.length
      · exact hi
      · rw [List.getElem?_append_right (by simpa using hi)] at h2
        rw [List.getElem?_replicate] at h2
        split at h2 <;> cases h2
    have ha:vs[i]?=some v:=by
      unfold ki at h2
      rw [Bs (by simpa using hi),A7] at h2
      cases e:vs[i]? with
      | none=>rw [e] at h2;cases h2
      | some a=>rw [e] at h2;cases h2;rfl
    obtain ⟨u,hu,rv⟩:=r.get ha
    have hp:ps[i]?=some y:=by
      rw [<- S.pre,List.getElem?_take_of_lt (by omega)];exact h1
    have ndP:ps.Nodup:=by rw [<- S.pre];exact S.nd.sublist (List.take_sublist _ _)
    refine ⟨u,rv,?_⟩
    rcases S.par y (A4 hp) with k | k
    · exact .inl ⟨k,mY ndP hp hu k⟩
    · obtain ⟨c,e⟩:=pO (n:=s.heap.objs.size+1) k
      refine .inr ⟨.inl k,c,e,?_⟩
      have q:=x.cell y c e
      rw [m4 ndP hp hu (by show scope.names.lookup y ≠ _;rw [k];decide)] at q
      exact q
  · exact e0.hok.fresh (Nat.le_of_lt (x.above y c (PySem.mem_of_lookup h)))
  · unfold ki
    show _=N.length
    rw [Bi,A2,List.length_replicate]
    omega
set_option tactic.hygienic true in
theorem fn_of {CX:CXT} {P:Program} {w:World} {K:FG} {mg:Str->Option Value} {base:Heap} {k:Nat} {f:Addr} {name qual:Str} {params:Arguments} {body:List Stmt} {scope:Scope} {dV kV doc pm cdv ct oc:Value} {an od:Option Addr}
    {osl:Array (Option Value)} {N ps:List Str} {sp:Sp} (lk:K.lookup f=some ⟨oc,od,.func (PySem.W.fnOf name qual params body scope dV kV doc pm an cdv ct),osl⟩) (hcd:PySem.W.codeIn K cdv qual=true) (S:FnScope N ps scope)
    (len:∀ vs H Q E,sp vs H Q E->vs.length=ps.length)
    (hbody:∀ (A:Around) (outer:List Env) (s:Shared) (H:Hp) (vs:List V) (Q:VK) (E:XK),Room k (A.deeper (envOfC qual scope s.heap.objs.size f cdv))->sp vs H Q E ->
      ∃ t,PSs (pJ CX P w K mg base N qual scope f cdv A outer s H E) body t/\t { nx:=fun _ H'=>Q .non H',rt:=Q } (ki N vs) H) :
    FnOk P w K mg base CX (k+1) f (PySem.W.fnOf name qual params body scope dV kV doc pm an cdv ct) ps sp:=by
  refine ⟨len,fun A outer s H args us vs Q E hr e0 hb r hsp=>?_⟩
  have hl:=len _ _ _ _ hsp
  have KX:K.In s.heap:=e0.mod.kin.keeps fun b o e=>(e0.bs b o e).1
  have lim:s.heap.NoLimit:=e0.mod.nolimit.keeps fun b o e=>(e0.bs b o e).1
  have hkind:∀ y ∈ ps.zip us,scope.names.lookup y.1=some .local\/(scope.names.lookup y.1=some .cell/\((cellsFrom (s.heap.objs.size+1) scope.names []).lookup y.1).isSome=true):=fun ⟨n,v⟩ hy=>by
    rcases S.par n (List.of_mem_zip hy).1 with q | q
    · exact .inl q
    · exact .inr ⟨q,PySem.W.cellsFrom_some _ _ _ (.inl q)⟩
  refine codeAny_call_function hr.depth (KX _ _ lk) rfl S.co S.gen rfl (PySem.W.codeRec_of KX hcd) (hb _ _ _ _ ?_)
  refine wpAny_newFunctionEnv_cells S.kind hkind fun env he s1 x=>?_
  subst he
  refine ⟨lim.keeps x.toInCall.keep,codeAny_func ?_⟩
  obtain ⟨t,ht,hq⟩:=hbody A outer s H vs Q E (hr.deeper _) hsp
  have I:Inv (pJ CX P w K mg base N qual scope f cdv A outer s H E) [] (ki N vs) H s1:=tJ S hr.hd e0 hl r x
  refine wpAny_mono (ht [] s1 (ki N vs) H _ I hq) (fun fl s' hs=>?_) fun e s' hs=>hs
  have fin:∀ {σ':St} {H':Hp} {v:V} {u:Value},Inv (pJ CX P w K mg base N qual scope f cdv A outer s H E) [] σ' H' s'->RelV v u->Q v H'->CE outer P w H s Q u s' :=
    fun {σ' H' v u} J rv q=>⟨v,H',J.os,J.bare,J.base,J.hok,rv,q⟩
  cases fl with
  | ret u =>
    obtain ⟨v,σ',H',J,rv,q⟩:=hs
    exact fin J rv q
  | next =>
    obtain ⟨σ',H',J,q⟩:=hs
    exact fin (v:=V.non) (u:=Value.none) J rfl q
  | brk =>
    obtain ⟨_,_,_,q⟩:=hs
    exact False.elim q
  | cont =>
    obtain ⟨_,_,_,q⟩:=hs
    exact False.elim q
end L2
namespace L2
open PySem PySem.Spec PyProof.Rows
section
variable {X:Cx} {x:Str} {p pos:Pos} {e:Expr} {es:List Expr} {t:TA} {id T:String} {r:List V->Hp->VK->Prop}
noncomputable def tCB (r:List V->Hp->VK->Prop) (t:TA):TE:=fun σ H Q=>t σ H fun vs H1=>r vs H1 Q
theorem lw (hc:dJ X (.builtin id) r) (hg:Gl X x) (hm:X.mg x=none) (hv:bootBuiltins x=some (.builtin id)) (ha:PA X (e :: es) t) (hn:x ≠ "__name__":=by decide) (hdb:(x == ("__debug__":Str))=false:=by decide)
    (he:starEach (e :: es) X.env=(false,eval e X.env) :: starEach es X.env:=by rfl) (hpl:(backTo pos (starEach es X.env)).any (·.1)=false:=by rfl):PE X (.Call (.Name x p) (e :: es) [] pos) (tCB r t):=by
  intro pins s σ H Q I h
  refine wpAny_Call_Name_kw (jo I hg hm hv ?_ hn hdb)
  exact PyProof.Rows.callWith_builtin1 (thn (ha pos pins s σ H _ I h) fun us s1 ⟨vs,H1,I1,r1,q1⟩=>hc pins s1 σ H1 vs us Q I1 r1 q1) he hpl
theorem mG (hc:dJ X (.type T) r) (hg:Gl X x) (hm:X.mg x=none) (hv:bootBuiltins x=some (.type T)) (ha:PA X (e :: es) t) (hn:x ≠ "__name__":=by decide) (hdb:(x == ("__debug__":Str))=false:=by decide)
    (he:starEach (e :: es) X.env=(false,eval e X.env) :: starEach es X.env:=by rfl) (hpl:(backTo pos (starEach es X.env)).any (·.1)=false:=by rfl):PE X (.Call (.Name x p) (e :: es) [] pos) (tCB r t):=by
  intro pins s σ H Q I h
  refine wpAny_Call_Name_kw (jo I hg hm hv ?_ hn hdb)
  exact PyProof.Rows.callWith_type1 (thn (ha pos pins s σ H _ I h) fun us s1 ⟨vs,H1,I1,r1,q1⟩=>hc pins s1 σ H1 vs us Q I1 r1 q1) he hpl
end
end L2
namespace HT
open PySem PyProof.Rows
noncomputable def lexLt:List Int->List Int->Bool
  | [],[]=>false
  | [],_ :: _=>true
  | _ :: _,[]=>false
  | x :: xs,y :: ys=>if x=y then lexLt xs ys else decide (x < y)
section
open PySem.SeqAt
open PySem.AutoSeq1 (wpAny_loadPart')
open PySem.MeetsSeq PySem.MeetsSeq2 PySem.MeetsSeq3
end
section
variable {prog:Program} {w:World} {A:Around} {E:Value->Shared->Prop} {s:Shared}
theorem cat_tup {t b:Addr} {vs ws:List Value} {Q:Value->Shared->Prop} (ht:IsTup s.heap t vs.toArray) (hb:IsTup s.heap b ws.toArray) (hv:vs ≠ [])
    (h1:ws=[]->Q (.ref t) s) (h2:ws ≠ []->Q (.ref s.heap.objs.size) { s with heap:=s.heap.push { cls:=.type "tuple",data:=.seq (vs ++ ws).toArray } })
    (hsz:vs.length+ws.length<=sizeLine):wpAny (model prog w) A (binaryOp .Add (.ref t) (.ref b)) Q E s:=by
  obtain ⟨⟨cls,dd,data,sl⟩,ho,hc,n,hd⟩:=id ht
  obtain ⟨⟨cls2,dd2,data2,sl2⟩,ho2,hc2,n2,hd2⟩:=id hb
  simp only at hc hd hc2 hd2
  subst hc hd hc2 hd2
  have e:vs.toArray ++ ws.toArray=(vs ++ ws).toArray:=by simp
  by_cases hw:ws=[]
  · exact concat_meets ⟨_,ho,rfl⟩ ⟨_,ho2,rfl⟩ noFill_tuple_add seq_tuple_add PySem.F.slot_tuple_add PySem.F.entry_tuple_add (PySem.F.args_tuple_add_2 _ _)
      (tuple_addW1 t b vs.toArray ws.toArray n n2 dd dd2 sl sl2 (by simpa using hv) (by simp [hw])) ⟨ho,ho2,h1 hw⟩
  · refine concat_meets ⟨_,ho,rfl⟩ ⟨_,ho2,rfl⟩ noFill_tuple_add seq_tuple_add PySem.F.slot_tuple_add PySem.F.entry_tuple_add (PySem.F.args_tuple_add_2 _ _)
      (tuple_addW2 t b vs.toArray ws.toArray n n2 dd dd2 sl sl2 (by simpa using hv) (by simpa using hw) (by rw [Bb,Bb];exact hsz)) ⟨ho,ho2,?_⟩
    rw [e]
    exact h2 hw
noncomputable def sIx (n d:Nat):Option Int->Nat
  | none=>d
  | some v=>if v < 0 then (v+(n:Int)).toNat else min v.toNat n
theorem sIx_none (n d:Nat):sIx n d none=d:=rfl
theorem sIx_nat (n d k:Nat):sIx n d (some (k:Int))=min k n:=by
  show (if (k:Int) < 0 then ((k:Int)+(n:Int)).toNat else min (k:Int).toNat n)=min k n
  rw [if_neg (by omega),Int.toNat_natCast]
theorem zG (n d:Nat) (hd:d<=n) (o:Option Int):sIx n d o<=n:=by
  cases o with
  | none=>exact hd
  | some v =>
    show (if v < 0 then (v+(n:Int)).toNat else min v.toNat n)<=n
    by_cases hv:v < 0
    · rw [if_pos hv];omega
    · rw [if_neg hv];exact Nat.min_le_right _ _
theorem su (v:Int) (n d:Nat):(if v < 0 then max (v+(n:Int)) 0 else min v (n:Int))=((sIx n d (some v):Nat):Int):=by
  show (if v < 0 then max (v+(n:Int)) 0 else min v (n:Int))=(((if v < 0 then (v+(n:Int)).toNat else min v.toNat n):Nat):Int)
  by_cases hv:v < 0
  · simp only [if_pos hv];omega
  · simp only [if_neg hv];omega
theorem rg (lo hi:Option Int) (n:Nat):Builtin.Slice.sliceAdjust lo hi 1 (n:Int)=(((sIx n 0 lo:Nat):Int),((sIx n n hi:Nat):Int)):=by
  have h1:¬ ((1:Int) < 0):=by omega
  unfold Builtin.Slice.sliceAdjust
  simp only [h1,if_false]
  refine Prod.ext ?_ ?_
  · cases lo with
    | none=>rfl
    | some v=>exact su v n 0
  · cases hi with
    | none=>rfl
    | some v=>exact su v n n
theorem qw (i j:Nat):Builtin.Slice.slicePlaces (i:Int) (j:Int) 1=j - i:=by
  unfold Builtin.Slice.slicePlaces
  have h1:(1:Int) > 0:=by omega
  simp only [h1,if_true,Int.ediv_one]
  split <;> omega
theorem k8 {v:Value} {o:Option Int} {Q:Option Int->Shared->Prop} (p:IsPart v o) (h:Q o s):wpAny (model prog w) A (Builtin.Slice.slicePartIndex v) Q E s:=by
  cases p with
  | none=>exact slicePart_none h
  | int i t=>exact slicePart_int h
theorem gb {sl:Addr} {vl vu:Value} {lo hi:Option Int} {n:Nat} {Q:Int × Int × Nat->Shared->Prop} (hs:s.heap.IsSliceOf sl vl vu .none) (pl:IsPart vl lo) (pu:IsPart vu hi)
    (h:Q (((sIx n 0 lo:Nat):Int),1,sIx n n hi - sIx n 0 lo) s):wpAny (model prog w) A (Builtin.Slice.sliceApplied (.ref sl) (pure (n:Int))) Q E s:=by
  obtain ⟨os,hos,hcs,hds⟩:=id hs
  unfold Builtin.Slice.sliceApplied Builtin.Slice.sliceFields
  refine AN (AN (wpAny_field hos hds (x:=vl) rfl (AN (wpAny_field hos hds (x:=vu) rfl (AN (wpAny_field hos hds (x:=.none) rfl (AO ?_)))))))
  refine AN (slicePart_none ?_)
  show wpAny _ _ (if ((1:Int) == 0)=true then _ else _) _ _ s
  rw [if_neg (by decide)]
  refine AN (k8 pl (AN (k8 pu (AN (AO ?_)))))
  show wpAny _ _ (match Builtin.Slice.sliceAdjust lo hi 1 (n:Int) with | (lo,hi)=>pure (lo,(1:Int),Builtin.Slice.slicePlaces lo hi 1)) _ _ s
  rw [rg lo hi n]
  show wpAny _ _ (pure (((sIx n 0 lo:Nat):Int),(1:Int),Builtin.Slice.slicePlaces ((sIx n 0 lo:Nat):Int) ((sIx n n hi:Nat):Int) 1)) _ _ s
  rw [qw]
  exact AO h
theorem vh (xs:Array Value) (i k:Nat):((List.range k).filterMap fun (m:Nat)=>xs[((i:Int)+(m:Int) * 1).toNat]?).toArray=((xs.toList.drop i).take k).toArray:=by
  have e:(fun (m:Nat)=>xs[((i:Int)+(m:Int) * 1).toNat]?)=fun m=>xs[i+m]?:=by
    funext m
    have:((i:Int)+(m:Int) * 1).toNat=i+m:=by omega
    rw [this]
  rw [e]
  have:=pick_run xs i k
  rw [List.filterMap_map] at this
  have e2:((fun x=>xs[x]?) ∘ fun x=>i+x)=fun m=>xs[i+m]?:=rfl
  rw [e2] at this
  rw [this]
theorem getItem_tuple_cut {t sl:Addr} {items:Array Value} {vl vu:Value} {lo hi:Option Int} {Q:Value->Shared->Prop} (ht:IsTup s.heap t items) (hs:s.heap.IsSliceOf sl vl vu .none) (pl:IsPart vl lo) (pu:IsPart vu hi)
    (hw:¬ (sIx items.size 0 lo=0/\sIx items.size items.size hi=items.size))
    (h:Q (.ref s.heap.objs.size) { s with heap:=s.heap.push { cls:=.type "tuple",data:=.seq ((items.toList.drop (sIx items.size 0 lo)).take (sIx items.size items.size hi - sIx items.size 0 lo)).toArray } })
    (hsz:items.size<=sizeLine):wpAny (model prog w) A (getItem (.ref t) (.ref sl)) Q E s:=by
  have htake:sizeOk (.seq ((items.toList.drop (sIx items.size 0 lo)).take (sIx items.size items.size hi - sIx items.size 0 lo)).toArray):=by
    show ((items.toList.drop (sIx items.size 0 lo)).take (sIx items.size items.size hi - sIx items.size 0 lo)).toArray.size<=sizeLine
    rw [Bb,Bk,List.length_drop,Array.length_toList]
    omega
  have hj:sIx items.size items.size hi<=items.size:=zG _ _ (A8 _) hi
  obtain ⟨os,hos,hcs,hds⟩:=id hs
  have hTs:s.TypeIs (.ref sl) "slice":=⟨os,hos,hcs⟩
  unfold getItem
  try with_reducible refine AQ ?_
  first | refine AN (AO ?_) | skip
  refine AN (wpAny_sequenceKey ht.typeIs (by decide) ?_)
  refine AN (wpAny_callSpecial?_slot (name:=Str.ofString "__getitem__") ht.typeIs PyProof.Rows.slot_tuple_getitem
    (wpAny_call_entry PyProof.Rows.slot_tuple_getitem ht.typeIs entry_tuple_getitem ?_ (args_tuple_getitem _ _)))
  show wpAny _ _ (Builtin.Tuple.tupleItemsOf (.ref t) >>= _) _ _ s
  refine AN (tupleItemsOf_ ht ?_)
  refine AN (wpAny_typeOf hTs ?_)
  rw [if_pos (by decide)]
  refine AN (gb hs pl pu ?_)
  have hno:¬ ((((sIx items.size 0 lo:Nat):Int) == 0 && (1:Int) == 1 && (sIx items.size items.size hi - sIx items.size 0 lo) == items.size)=true):=by
    intro q
    rw [Bool.and_eq_true,Bool.and_eq_true] at q
    have q1:((sIx items.size 0 lo:Nat):Int)=0:=eq_of_beq q.1.1
    have q2:sIx items.size items.size hi - sIx items.size 0 lo=items.size:=eq_of_beq q.2
    exact hw ⟨by omega,by omega⟩
  show wpAny _ _ (if (((sIx items.size 0 lo:Nat):Int) == 0 && (1:Int) == 1 && (sIx items.size items.size hi - sIx items.size 0 lo) == items.size)=true then _ else _) _ _ s
  rw [if_neg hno,vh]
  first
    | exact AN (m:=Builtin.Tuple.tupleExact _) (wpAny_newObj_type (AO ⟨_,rfl,AO h⟩) htake)
    | exact AN (m:=Builtin.Tuple.tupleExact _) (wpAny_newObj_type (AN (AO (AO ⟨_,rfl,AO h⟩))) htake)
    | exact AN (AN (m:=Builtin.Tuple.tupleExact _) (wpAny_newObj_type (AO (AO ⟨_,rfl,AO h⟩)) htake))
    | exact AN (AN (m:=Builtin.Tuple.tupleExact _) (wpAny_newObj_type (AO ⟨_,rfl,AO h⟩) htake))
end
end HT
namespace L2
open PySem PySem.Spec PyProof.Rows
noncomputable abbrev TO:=St->Hp->(Option Int->Hp->Prop)->Prop
noncomputable def PO (X:Cx) (e:Option Expr) (t:TO):Prop :=
  ∀ (pins:List (Addr × Obj)) (s:Shared) (σ:St) (H:Hp) (Q:Option Int->Hp->Prop),Inv X pins σ H s->t σ H Q ->
    wpAny (model X.prog X.w) X.A (evalPart e X.env) (fun u s'=>∃ o H',Inv X pins σ H' s'/\IsPart u o/\Q o H') X.xe s
noncomputable def wR:TO:=fun _ H Q=>Q none H
noncomputable def tPart (t:TE):TO:=fun σ H Q=>t σ H fun x H1=>∃ i,x=.int i/\Q (some i) H1
theorem qL {ns:List Int}:∀ {us:List Value},Vals (ns.map V.int) us->IntsAre us ns:=by
  induction ns with
  | nil=>intro us r;rw [List.map_nil] at r;cases r;exact .nil
  | cons n ns ih =>
    intro us r
    rw [Bc] at r
    cases r with
    | cons r1 r2 =>
      obtain ⟨t,e⟩:=r1
      subst e
      exact .cons n t (ih r2)
section
variable {X:Cx} {e:Expr} {te:TE} {lo hi:Option Expr} {tl th:TO} {pos p2:Pos}
theorem xH:PO X none wR:=by
  intro pins s σ H Q I h
  rw [evalPart_none]
  exact AO ⟨none,H,I,.none,h⟩
theorem xG (h:PE X e te):PO X (some e) (tPart te):=by
  intro pins s σ H Q I hw
  rw [evalPart_some]
  refine thn (h pins s σ H _ I hw) fun u s1 ⟨x,H1,I1,r1,q1⟩=>?_
  obtain ⟨i,rfl,q⟩:=q1
  obtain ⟨t,rfl⟩:=r1
  exact ⟨some i,H1,I1,.int i t,q⟩
noncomputable def SlR (X:Cx) (r:V->Option Int->Option Int->Hp->VK->Prop):Prop :=
  ∀ (pins:List (Addr × Obj)) (s:Shared) (σ:St) (H:Hp) (x:V) (v vl vu:Value) (lo hi:Option Int) (sl:Addr) (Q:VK),Inv X pins σ H s->RelV x v->s.heap.IsSliceOf sl vl vu .none->IsPart vl lo->IsPart vu hi->r x lo hi H Q ->
    ∃ T id,typeLookup (.type T) "__getitem__"=pure (some (.builtin id))/\s.TypeIs v T/\wpAny (model X.prog X.w) X.A (getItem v (.ref sl)) (EP X pins σ Q) X.xe s
theorem SlR.or {r r':V->Option Int->Option Int->Hp->VK->Prop} (h:SlR X r) (h':SlR X r'):SlR X (fun x lo hi H Q=>r x lo hi H Q\/r' x lo hi H Q):=by
  intro pins s σ H x v vl vu lo hi sl Q I rx hs pl pu q
  rcases q with q | q
  · exact h pins s σ H x v vl vu lo hi sl Q I rx hs pl pu q
  · exact h' pins s σ H x v vl vu lo hi sl Q I rx hs pl pu q
noncomputable def tSl (r:V->Option Int->Option Int->Hp->VK->Prop) (te:TE) (tl th:TO):TE:=fun σ H Q=>te σ H fun x H1=>tl σ H1 fun l H2=>th σ H2 fun u H3=>r x l u H3 Q
theorem vm {r:V->Option Int->Option Int->Hp->VK->Prop} (hr:SlR X r) (he:PE X e te) (hl:PO X lo tl) (hu:PO X hi th):PE X (.Subscript e (.Slice lo hi none p2) pos) (tSl r te tl th):=by
  intro pins s σ H Q I h
  refine Subscript_ (thn (he pins s σ H _ I h) fun v s1 ⟨x,H1,I1,r1,q1⟩=>?_)
  refine wpAny_Slice (thn (hl pins s1 σ H1 _ I1 q1) fun vl s2 ⟨l,H2,I2,pl,q2⟩=>thn (hu pins s2 σ H2 _ I2 q2) fun vu s3 ⟨u,H3,I3,pu,q3⟩=>?_)
  rw [evalPart_none]
  refine AO ?_
  have I4:Inv X pins σ H3 { s3 with heap:=s3.heap.push { cls:=.type "slice",data:=.fields #[vl,vu,.none] } }:=I3.kept (t':=s3.toks) fun b ob q=>AT _ q
  obtain ⟨T,id,hT,ht,hg⟩:=hr pins { s3 with heap:=s3.heap.push { cls:=.type "slice",data:=.fields #[vl,vu,.none] } } σ H3 x v vl vu l u s3.heap.objs.size Q I4 r1 (Heap.IsSliceOf.new ..) pl pu q3
  show wpAny (model X.prog X.w) X.A (subscriptTail e (.Slice lo hi none p2) v (.ref s3.heap.objs.size)) (EP X pins σ Q) X.xe { s3 with heap:=s3.heap.push { cls:=.type "slice",data:=.fields #[vl,vu,.none] } }
  exact tail_any (ops:=[.ref s3.heap.objs.size,v]) ht hT hg (by with_unfolding_all rfl)
noncomputable def pK (xs:List V) (lo hi:Option Int):List V:=(xs.drop (HT.sIx xs.length 0 lo)).take (HT.sIx xs.length xs.length hi - HT.sIx xs.length 0 lo)
theorem kB (xs:List V) (lo hi:Option Int):(pK xs lo hi).length<=xs.length:=by
  unfold pK
  rw [Bk,List.length_drop]
  omega
noncomputable def zO (K:FG):V->Option Int->Option Int->Hp->VK->Prop:=fun x lo hi H Q=>∃ a xs,x=.ref a/\SqT K H a xs /\
  ¬ (HT.sIx xs.length 0 lo=0/\HT.sIx xs.length xs.length hi=xs.length)/\∀ p,H p=none->Q (.ref p) (upd H p (.tup (pK xs lo hi)))
theorem sl_tup:SlR X (zO X.K):=by
  intro pins s σ H x v vl vu lo hi sl Q I rx hs pl pu h
  obtain ⟨a,xs,rfl,hx,hw,q⟩:=h
  cases rx
  obtain ⟨its,r,ht,hz⟩:=I.tuple hx
  have hlen:its.toArray.size=xs.length:=by rw [Bb];exact r.length.symm
  refine ⟨"tuple",_,PyProof.Rows.slot_tuple_getitem.lookup,ht.typeIs,?_⟩
  refine HT.getItem_tuple_cut ht hs pl pu (by rw [hlen];exact hw) ?_ (by rw [hlen];exact hz)
  rw [hlen]
  refine ⟨.ref s.heap.objs.size,_,I.laid (t':=s.toks) (o:=.tup (pK xs lo hi)) (fun b ob q=>AT _ q) (A8 _) ?_,rfl,q _ (I.hok.fresh (A8 _))⟩
  exact ⟨Bw (kB xs lo hi) hz,_,(r.drop (HT.sIx xs.length 0 lo)).take (HT.sIx xs.length xs.length hi - HT.sIx xs.length 0 lo),IsTupD.new _ _⟩
noncomputable def rH (K:FG):R2:=fun x y H Q=>∃ a b xs ys,x=.ref a/\y=.ref b/\SqT K H a xs/\SqT K H b ys/\xs ≠ []/\xs.length+ys.length<=sizeLine /\
  (ys=[]->Q (.ref a) H)/\(ys ≠ []->∀ p,H p=none->Q (.ref p) (upd H p (.tup (xs ++ ys))))
theorem Vals.nil_iff {xs:List V} {us:List Value} (r:Vals xs us):us=[] ↔ xs=[]:=by
  cases r with
  | nil=>simp
  | cons _ _=>simp
theorem op_catT:OpR X (binaryOp .Add) (rH X.K):=by
  intro pins s σ H x y v u Q I rx ry h
  obtain ⟨a,b,xs,ys,rfl,rfl,ha,hb,hx,hz,q1,q2⟩:=h
  cases rx
  cases ry
  obtain ⟨its,r1,p1,_⟩:=I.tuple ha
  obtain ⟨its2,r2,p2,_⟩:=I.tuple hb
  refine HT.cat_tup p1 p2 (fun z=>hx (r1.nil_iff.mp z)) (fun z=>⟨.ref a,H,I,rfl,q1 (r2.nil_iff.mp z)⟩) (fun z=>?_) (by rw [<- r1.length,<- r2.length];exact hz)
  refine ⟨.ref s.heap.objs.size,_,I.laid (t':=s.toks) (o:=.tup (xs ++ ys)) (fun b ob q=>AT _ q) (A8 _) ?_,rfl,q2 (fun w=>z (r2.nil_iff.mpr w)) _ (I.hok.fresh (A8 _))⟩
  exact ⟨by rw [Bi];exact hz,_,r1.append r2,IsTupD.new _ _⟩
end
end L2
namespace L2
open PySem PySem.Spec PyProof.Rows
noncomputable def ixN (n:Nat) (i:Int):Option Nat:=if 0<=i then (if i < n then some i.toNat else none) else if -(n:Int)<=i then some (i+n).toNat else none
noncomputable def atI {α:Type} (xs:List α) (i:Int):Option α:=(ixN xs.length i).bind fun j=>xs[j]?
theorem rV {n:Nat} {i:Int} {j:Nat} (h:ixN n i=some j):seqIndex? i n=some j/\j < n/\-(n:Int)<=i/\i < n:=by
  unfold ixN at h
  by_cases h0:0<=i
  · rw [if_pos h0] at h
    by_cases h1:i < n
    · rw [if_pos h1] at h
      have e:i.toNat=j:=BC h
      exact ⟨by rw [seqIndex_of h0 h1,e],by omega,by omega,h1⟩
    · rw [if_neg h1] at h;cases h
  · rw [if_neg h0] at h
    by_cases h1:-(n:Int)<=i
    · rw [if_pos h1] at h
      have e:(i+n).toNat=j:=BC h
      exact ⟨by rw [seqIndex_neg (by omega) h1,e],by omega,h1,by omega⟩
    · rw [if_neg h1] at h;cases h
theorem sC {α:Type} {xs:List α} {i:Int} {v:α} (h:atI xs i=some v):∃ j,seqIndex? i xs.length=some j/\xs[j]?=some v/\j < xs.length/\-(xs.length:Int)<=i/\i < xs.length:=by
  unfold atI at h
  cases e:ixN xs.length i with
  | none=>rw [e] at h;cases h
  | some j =>
    rw [e] at h
    obtain ⟨h1,h2,h3,h4⟩:=rV e
    exact ⟨j,h1,h,h2,h3,h4⟩
theorem wC {α:Type} (xs:List α) (v:α):atI (xs ++ [v]) (-1)=some v:=by
  have hl:(xs ++ [v]).length=xs.length+1:=by simp
  have e:ixN (xs ++ [v]).length (-1)=some xs.length:=by
    unfold ixN
    rw [hl,if_neg (by decide),if_pos (by omega)]
    congr 1
    omega
  unfold atI
  rw [e]
  show (xs ++ [v])[xs.length]?=some v
  simp
noncomputable def sE (b:Expr):Prop:=∀ o i,subscripted b false o i=operate [o,i] (getItem o i)
noncomputable def IxR (X:Cx) (r:R2):Prop :=
  ∀ (value slice:Expr) (pins:List (Addr × Obj)) (s:Shared) (σ:St) (H:Hp) (x y:V) (v u:Value) (Q:VK),Inv X pins σ H s->RelV x v->RelV y u->r x y H Q ->
    subscripted slice false v u=operate [v,u] (getItem v u)->wpAny (model X.prog X.w) X.A (subscriptTail value slice v u) (EP X pins σ Q) X.xe s
noncomputable def MtR (X:Cx) (id:String) (r:V->List V->Hp->VK->Prop):Prop :=
  ∀ (pins:List (Addr × Obj)) (s:Shared) (σ:St) (H:Hp) (x:V) (xs:List V) (v:Value) (us:List Value) (Q:VK),Inv X pins σ H s->RelV x v->Vals xs us->r x xs H Q ->
    wpAny (model X.prog X.w) X.A (call (.builtin id) (v :: us)) (EP X pins σ Q) X.xe s
section
variable {X:Cx} {a b:Expr} {ta tb:TE} {pos:Pos}
theorem IxR.or {r r':R2} (h:IxR X r) (h':IxR X r'):IxR X (fun x y H Q=>r x y H Q\/r' x y H Q):=by
  intro value slice pins s σ H x y v u Q I rx ry q hs
  rcases q with q | q
  · exact h value slice pins s σ H x y v u Q I rx ry q hs
  · exact h' value slice pins s σ H x y v u Q I rx ry q hs
theorem pe_ix {r:R2} (hr:IxR X r) (ha:PE X a ta) (hb:PE X b tb) (hs:sE b):PE X (.Subscript a b pos) (tOp r ta tb):=by
  intro pins s σ H Q I h
  exact Subscript_ (AI ha hb I h fun v u s2 x y H2 I2 rx ry q=>hr a b pins s2 σ H2 x y v u Q I2 rx ry q (hs _ _))
noncomputable def u5 (K:FG):R2:=fun x y H Q=>∃ p xs i v,x=.ref p/\y=.int i/\SqL K H p xs/\atI xs i=some v/\Q v H
noncomputable def u3 (K:FG):R2:=fun x y H Q=>∃ p xs i v,x=.ref p/\y=.int i/\SqT K H p xs/\atI xs i=some v/\Q v H
theorem ix_list:IxR X (u5 X.K):=by
  intro value slice pins s σ H x y v u Q I rx ry h hs
  obtain ⟨p,xs,i,z,rfl,rfl,hq,he,q⟩:=h
  cases rx
  obtain ⟨t,rfl⟩:=ry
  obtain ⟨its,r,pl,hz⟩:=I.list hq
  obtain ⟨j,h1,h2,h3,h4,h5⟩:=sC he
  obtain ⟨w,ew,rw'⟩:=r.get h2
  have hl:=r.length
  have hn:=nM
  have fin:EP X pins σ Q w s:=⟨z,H,I,rw',q⟩
  by_cases h0:0<=i
  · have hj:i.toNat=j:=by
      rw [seqIndex_of h0 h5] at h1
      exact BC h1
    exact item_listR pl.isList h0 (by omega) (by rw [hj];simpa using ew) fin hs
  · have hj:(i+(its.toArray.size:Int)).toNat=j:=by
      rw [seqIndex_neg (by omega) h4] at h1
      rw [Bb,<- hl]
      exact BC h1
    exact subscriptTail_builtinR (x:=w) pl.isList.typeIs slot_list_getitem.lookup
      (wpAny_getItem_list_neg (Q:=fun r s'=>r=w/\EP X pins σ Q r s') pl.isList (by omega) (by rw [Bb] <;> omega) (by omega) (by rw [hj];simpa using ew) ⟨rfl,fin⟩) hs
theorem Ax:IxR X (u3 X.K):=by
  intro value slice pins s σ H x y v u Q I rx ry h hs
  obtain ⟨p,xs,i,z,rfl,rfl,hq,he,q⟩:=h
  cases rx
  obtain ⟨t,rfl⟩:=ry
  obtain ⟨its,r,pl,hz⟩:=I.tuple hq
  obtain ⟨j,h1,h2,h3,h4,h5⟩:=sC he
  obtain ⟨w,ew,rw'⟩:=r.get h2
  have hl:=r.length
  have hn:=nM
  have fin:EP X pins σ Q w s:=⟨z,H,I,rw',q⟩
  exact subscriptTail_builtinR (x:=w) pl.typeIs slot_tuple_getitem.lookup
    (getItem_tuple (j:=j) (Q:=fun r s'=>r=w/\EP X pins σ Q r s') pl (by omega) (by omega) (by rw [Bb,<- hl];exact h1) (by simpa using ew) ⟨rfl,fin⟩) hs
theorem qE (its:List Value) (n j:Nat) (u:Value):Obj.mapSeq (·.setIfInBounds j u) { cls:=.type "list",data:=.seq its.toArray n } = { cls:=.type "list",data:=.seq (its.set j u).toArray n }:=by
  simp [Obj.mapSeq]
theorem Inv.lst {pins:List (Addr × Obj)} {σ:St} {H:Hp} {s:Shared} {p:Addr} {xs:List V} (I:Inv X pins σ H s) (h:H p=some (.lst xs)) :
    ∃ (its:List Value) (n:Nat),Vals xs its/\s.heap.get? p=some { cls:=.type "list",data:=.seq its.toArray n }/\xs.length<=sizeLine:=by
  obtain ⟨z,its,n,r,e⟩:=I.hok p _ h
  exact ⟨its,n,r,e,z⟩
theorem Inv.lstUpd {pins:List (Addr × Obj)} {σ:St} {H:Hp} {s:Shared} {p:Addr} {xs ys:List V} {its its':List Value} {n n':Nat} {f:Obj->Obj} (I:Inv X pins σ H s) (h:H p=some (.lst xs))
    (ho:s.heap.get? p=some { cls:=.type "list",data:=.seq its.toArray n }) (hf:f { cls:=.type "list",data:=.seq its.toArray n } = { cls:=.type "list",data:=.seq its'.toArray n' }) (r:Vals ys its') (hz:ys.length<=sizeLine) (t:Nat) :
    Inv X pins σ (upd H p (.lst ys)) { s with heap:=s.heap.update p f,toks:=t }:=by
  have e:(s.heap.update p f).get? p=some { cls:=.type "list",data:=.seq its'.toArray n' }:=by
    rw [Bh f ho (by rw [hf] <;> rfl),hf]
  refine I.write (x:=p) (e:=p) (by rw [h];trivial) (.inl rfl) (fun b u hb q=>(Bt _ _ (Ne.symm hb)).trans q) ⟨_,e⟩ ?_
  exact ⟨hz,its',n',r,e⟩
noncomputable def rD:V->V->V->Hp->(Hp->Prop)->Prop:=fun o i v H Q=>∃ p xs k j,o=.ref p/\i=.int k/\H p=some (.lst xs)/\ixN xs.length k=some j/\Q (upd H p (.lst (xs.set j v)))
theorem uG:wI X rD:=by
  intro pins s σ H o i v ov iv u Q I ro ri rv h
  obtain ⟨p,xs,k,j,rfl,rfl,hp,hj,q⟩:=h
  cases ro
  obtain ⟨t,rfl⟩:=ri
  obtain ⟨its,n,r,ho,hz⟩:=I.lst hp
  obtain ⟨h1,h2,h3,h4⟩:=rV hj
  have hl:=r.length
  have hn:=nM
  have I':Inv X pins σ (upd H p (.lst (xs.set j v))) { s with heap:=s.heap.update p (Obj.mapSeq (·.setIfInBounds j u)) } :=
    I.lstUpd hp ho (qE its n j u) (r.set rv j) (by rw [List.length_set];exact hz) s.toks
  by_cases h0:0<=k
  · have hk:k.toNat=j:=by
      rw [seqIndex_of h0 h4] at h1
      exact BC h1
    exact PySem.W.ki_setAt ho h0 (by omega) (by rw [Bb,<- hl];exact h4) (by rw [hk];exact ⟨_,I',q⟩)
  · have hk:(k+(its.toArray.size:Int)).toNat=j:=by
      rw [seqIndex_neg (by omega) h3] at h1
      rw [Bb,<- hl]
      exact BC h1
    exact PySem.W.ki_setBack ho (by omega) (by rw [Bb,<- hl];exact h3) (by omega) (by rw [hk];exact ⟨_,I',q⟩)
theorem nh (lo hi:Option Int) (n:Nat):(sliceBounds lo hi none n).1=((HT.sIx n 0 lo:Nat):Int)/\(sliceBounds lo hi none n).2.1=((HT.sIx n n hi:Nat):Int)/\(sliceBounds lo hi none n).2.2=1:=by
  refine ⟨?_,?_,rfl⟩
  · cases lo with
    | none=>simp [sliceBounds,HT.sIx]
    | some i =>
      simp only [sliceBounds,HT.sIx,Option.getD_none,show (1:Int) > 0 by decide,if_true]
      by_cases h:i < 0
      · simp only [h,if_true] <;> omega
      · simp only [h,if_false] <;> omega
  · cases hi with
    | none=>simp [sliceBounds,HT.sIx]
    | some i =>
      simp only [sliceBounds,HT.sIx,Option.getD_none,show (1:Int) > 0 by decide,if_true]
      by_cases h:i < 0
      · simp only [h,if_true] <;> omega
      · simp only [h,if_false] <;> omega
theorem lX (its:List Value) (lo hi:Option Int):slicePick its.toArray lo hi none=((its.drop (HT.sIx its.length 0 lo)).take (HT.sIx its.length its.length hi - HT.sIx its.length 0 lo)).toArray:=by
  obtain ⟨h1,h2,h3⟩:=nh lo hi its.toArray.size
  unfold slicePick
  rw [h1,h2,h3]
  simp only [sliceRange_one,pick_run,Bb] <;> rfl
noncomputable def zP (K:FG):V->Option Int->Option Int->Hp->VK->Prop:=fun x lo hi H Q=>∃ a xs,x=.ref a/\SqL K H a xs/\∀ p,H p=none->Q (.ref p) (upd H p (.lst (pK xs lo hi)))
theorem sl_list:SlR X (zP X.K):=by
  intro pins s σ H x v vl vu lo hi sl Q I rx hs pl pu h
  obtain ⟨a,xs,rfl,hx,q⟩:=h
  cases rx
  obtain ⟨its,r,ht,hz⟩:=I.list hx
  have hlen:=r.length
  refine ⟨"list",_,slot_list_getitem.lookup,ht.isList.typeIs,?_⟩
  refine wpAny_getItem_list_slice ht.isList hs pl pu .none (by simp) ?_ (by rw [Bb] <;> omega)
  rw [lX,<- hlen]
  refine ⟨.ref s.heap.objs.size,_,I.laid (t':=s.toks) (o:=.lst (pK xs lo hi)) (fun b ob q=>AT _ q) (A8 _) ?_,rfl,q _ (I.hok.fresh (A8 _))⟩
  exact ⟨Bw (kB xs lo hi) hz,_,0,(r.drop (HT.sIx xs.length 0 lo)).take (HT.sIx xs.length xs.length hi - HT.sIx xs.length 0 lo),A1 _ rfl⟩
theorem aH:dJ X (.builtin "len") (fun xs H Q=>∃ p ys,xs=[.ref p]/\(SqL X.K H p ys\/SqT X.K H p ys)/\Q (.int ys.length) H):=by
  intro pins s σ H xs us Q I r h
  obtain ⟨p,ys,rfl,hq,q⟩:=h
  obtain ⟨u,rfl,rx⟩:=kh r
  cases rx
  have hn:=nM
  rcases hq with hq | hq
  · obtain ⟨its,r',pl,hz⟩:=I.list hq
    have hlen:=r'.length
    exact Calls.call_len_list pl.isList (by simp only [Bb] <;> omega) ⟨.int ys.length,H,I.tok _,⟨s.toks+1,by rw [Bb,hlen]⟩,q⟩
  · obtain ⟨its,r',pl,hz⟩:=I.tuple hq
    have hlen:=r'.length
    exact len_tuple pl (by simp only [Bb] <;> omega) ⟨.int ys.length,H,I.tok _,⟨s.toks+1,by rw [Bb,hlen]⟩,q⟩
theorem n4:dJ X (.type "list") (fun xs H Q=>∃ p ys,xs=[.ref p]/\(SqL X.K H p ys\/SqT X.K H p ys)/\∀ l,H l=none->Q (.ref l) (upd H l (.lst ys))):=by
  intro pins s σ H xs us Q I r h
  obtain ⟨p,ys,rfl,hq,q⟩:=h
  obtain ⟨u,rfl,rx⟩:=kh r
  cases rx
  have fin:∀ (its:List Value),Vals ys its->ys.length<=sizeLine->∀ (h':Heap) (c':Nat),(∀ b o',s.heap.get? b=some o'->h'.get? b=some o') ->
      h'.get? s.heap.objs.size=some { cls:=.type "list",dict:=none,data:=.seq its.toArray c',slots:=#[] }->EP X pins σ Q (.ref s.heap.objs.size) { s with heap:=h' }:=fun its r' hz h' c' kp e =>
    ⟨.ref s.heap.objs.size,_,I.laid (t':=s.toks) kp (A8 _) (show ObjOk X.prog X.w _ h' _ (.lst ys) from ⟨hz,its,c',r',e⟩),rfl,q _ (I.hok.fresh (A8 _))⟩
  rcases hq with hq | hq
  · obtain ⟨its,r',pl,hz⟩:=I.list hq
    have hlen:=r'.length
    obtain ⟨o,ho,hc,n,hd⟩:=pl.isList
    exact call_list_seq p (.inl rfl) ho hc hd (fun h' c' kp e=>fin its r' hz h' c' kp e) (by simp only [Bb] <;> omega)
  · obtain ⟨its,r',pl,hz⟩:=I.tuple hq
    have hlen:=r'.length
    obtain ⟨o,ho,hc,n,hd⟩:=pl
    exact call_list_seq p (.inr rfl) ho hc hd (fun h' c' kp e=>fin its r' hz h' c' kp e) (by simp only [Bb] <;> omega)
theorem cH:dJ X (.type "tuple") (fun xs H Q=>∃ p ys,xs=[.ref p]/\((SqL X.K H p ys/\∀ l,H l=none->Q (.ref l) (upd H l (.tup ys)))\/(SqT X.K H p ys/\Q (.ref p) H))):=by
  intro pins s σ H xs us Q I r h
  obtain ⟨p,ys,rfl,h⟩:=h
  obtain ⟨u,rfl,rx⟩:=kh r
  cases rx
  rcases h with ⟨hq,q⟩ | ⟨hq,q⟩
  · obtain ⟨its,r',pl,hz⟩:=I.list hq
    have hlen:=r'.length
    refine call_tuple_list pl.isList (fun h' kp=>?_) (by simp only [Bb] <;> omega)
    have I1:Inv X pins σ H { s with heap:=h' }:=I.kept (t':=s.toks) kp
    have I2:Inv X pins σ (upd H h'.objs.size (.tup ys)) { s with heap:=h'.push { cls:=.type "tuple",data:=.seq its.toArray } } :=
      I1.laid (t':=s.toks) (fun b o e=>AT _ e) (A8 _) (show ObjOk X.prog X.w _ _ _ (.tup ys) from ⟨hz,its,r',IsTupD.new _ _⟩)
    exact ⟨.ref h'.objs.size,_,I2,rfl,q _ (I1.hok.fresh (A8 _))⟩
  · obtain ⟨its,r',pl,hz⟩:=I.tuple hq
    exact call_tuple_same pl ⟨.ref p,H,I,rfl,q⟩
noncomputable def tyV (K:FG) (T:String) (x:V) (H:Hp):Prop:=match x with
  | .str _=>T = "str"
  | .int _=>T = "int"
  | .ref p=>(T = "list"/\∃ xs,SqL K H p xs)\/(T = "tuple"/\((∃ o,K.lookup p=some o/\o.cls=.type "tuple"/\o.dict=none)\/∃ xs,H p=some (.tup xs))) \/
      (T = "dict"/\((∃ kvs,H p=some (.dK kvs))\/∃ kvs,H p=some (.dT kvs)))\/(T = "set"/\∃ S n,H p=some (.set S n))
  | _=>False
theorem zf {pins:List (Addr × Obj)} {σ:St} {H:Hp} {s:Shared} {T:String} {x:V} {v:Value} (I:Inv X pins σ H s) (r:RelV x v) (ty:tyV X.K T x H) :
    s.TypeIs v T/\∀ a,v=.ref a->∃ ob,s.heap.get? a=some ob/\ob.dict=none:=by
  cases x with
  | str z =>
    obtain ⟨t,rfl⟩:=r
    cases (show T = "str" from ty)
    exact ⟨typeIs_str s z t,fun _ e=>nomatch e⟩
  | int i =>
    obtain ⟨t,rfl⟩:=r
    cases (show T = "int" from ty)
    exact ⟨typeIs_int s i t,fun _ e=>nomatch e⟩
  | ref p =>
    cases r
    rcases ty with ⟨rfl,xs,hq⟩ | ⟨rfl,⟨o,hk,hc,hd⟩ | ⟨xs,ht⟩⟩ | ⟨rfl,hk⟩ | ⟨rfl,S,n,hk⟩
    · obtain ⟨its,_,pl,_⟩:=I.list hq
      refine ⟨pl.isList.typeIs,fun a e=>?_⟩
      cases e
      obtain ⟨o,n,e,c,hd,_⟩:=pl
      exact ⟨o,e,hd⟩
    · refine ⟨⟨o,I.kIn p o hk,hc⟩,fun a e=>?_⟩
      cases e
      exact ⟨o,I.kIn _ o hk,hd⟩
    · obtain ⟨_,its,_,o,e,c,n,d⟩:=I.hok p _ ht
      refine ⟨⟨o,e,c⟩,fun a e2=>?_⟩
      cases e2
      exact ⟨o,e,congrArg Prod.snd d⟩
    · have z:∃ o,s.heap.get? p=some o/\o.ExactDict:=by
        rcases hk with ⟨kvs,hk⟩ | ⟨kvs,hk⟩
        · obtain ⟨_,_,_,_,o,_,_,e,ex,_⟩:=I.hok p _ hk
          exact ⟨o,e,ex⟩
        · obtain ⟨_,_,_,_,o,_,_,e,ex,_⟩:=I.hok p _ hk
          exact ⟨o,e,ex⟩
      obtain ⟨o,e,ex⟩:=z
      refine ⟨⟨o,e,ex.1⟩,fun a e2=>?_⟩
      cases e2
      exact ⟨o,e,ex.2.1⟩
    · obtain ⟨o,_,_,_,e,ex,_⟩:=I.hok p _ hk
      refine ⟨⟨o,e,ex.1⟩,fun a e2=>?_⟩
      cases e2
      exact ⟨o,e,ex.2.1⟩
  | _=>exact False.elim ty
noncomputable def tBM (K:FG) (T:String) (r:V->List V->Hp->VK->Prop) (to:TE) (t:TA):TE:=fun σ H Q=>to σ H fun x H1=>tyV K T x H1/\t σ H1 fun xs H2=>r x xs H2 Q
variable {o e:Expr} {es:List Expr} {to:TE} {t:TA} {name:Str} {apos cpos:Pos} {T id:String} {r:V->List V->Hp->VK->Prop}
theorem pe_bm (pa:PlainAttrs T) (slot:Slot T name id) (hty:typeOf (.builtin id)=pure (.type "method_descriptor")) (hm:MtR X id r) (ho:PE X o to) (ha:PA X (e :: es) t)
    (hbase:attributeBase o name X.env (eval o X.env)=eval o X.env:=by rfl)
    (hfew:((backTo cpos (starEach (e :: es) X.env)).all (fun x=>!x.1) && (backToKw cpos (keywordEach [] X.env)).all (fun x=>x.1.isSome)
      && decide ((e :: es).length+([]:List Keyword).length+(if ([]:List Keyword).isEmpty then 0 else 1) < 30))=true:=by rfl)
    (hline:(apos.endLine == cpos.line)=true:=by rfl) (hs:starEach (e :: es) X.env=(false,eval e X.env) :: starEach es X.env:=by rfl) (hplain:(backTo cpos (starEach es X.env)).any (·.1)=false:=by rfl) :
    PE X (.Call (.Attribute o name apos) (e :: es) [] cpos) (tBM X.K T r to t):=by
  intro pins s σ H Q I h
  refine wpAny_Call_method_late hbase hfew hline rfl (thn (ho pins s σ H _ I h) fun v s1 ⟨x,H1,I1,r1,ty,q1⟩=>?_)
  obtain ⟨h1,h2⟩:=zf I1 r1 ty
  refine ⟨T,id,pa,slot,hty,h1,h2,?_⟩
  have hA:=ha cpos pins s1 σ H1 _ I1 q1
  rw [hs] at hA ⊢
  refine Calls.callWith_builtin (by show (false || (backTo cpos (starEach es X.env)).any (·.1))=false;rw [hplain] <;> rfl) (Calls.evalArgs_plain ?_)
  exact thn hA fun us s2 ⟨vs,H2,I2,r2,q2⟩=>hm pins s2 σ H2 x vs v us Q I2 r1 r2 q2
end
end L2
namespace L2
open PySem PySem.Spec PyProof.Rows
noncomputable def MtM (X:Cx) (id:String) (r:V->List V->Hp->VK->Prop):Prop :=
  ∀ (pins:List (Addr × Obj)) (s:Shared) (σ:St) (H:Hp) (x:V) (xs:List V) (v:Value) (us:List Value) (Q:VK),Inv X pins σ H s->RelV x v->Vals xs us->r x xs H Q ->
    wpAny (model X.prog X.w) X.A (call (.builtin id) (v :: us)) (EP X pins σ Q) X.xe s
theorem Vals.one:∀ {x:V} {us:List Value},Vals [x] us->∃ u,us=[u]/\RelV x u
  | _,_,.cons r .nil=>⟨_,rfl,r⟩
section
variable {X:Cx} {pins:List (Addr × Obj)} {σ:St} {H:Hp} {s:Shared} {l b:Addr} {xs ys zs:List V}
theorem Inv.lset {its its':List Value} {n:Nat} {f:Array Value->Array Value} {t':Nat} (I:Inv X pins σ H s) (hH:H l=some (.lst xs))
    (e:s.heap.get? l=some { cls:=.type "list",data:=.seq its.toArray n }) (hf:f its.toArray=its'.toArray) (hv:Vals ys its') (hz:ys.length<=sizeLine) :
    Inv X pins σ (upd H l (.lst ys)) { s with heap:=s.heap.update l (Obj.mapSeq f),toks:=t' }:=by
  have q:=PySem.IsL.update e f
  rw [hf] at q
  refine I.write (x:=l) (e:=l) (by rw [hH];exact trivial) (.inl rfl) (fun b' u hb hu=>(Bt s.heap (Obj.mapSeq f) (Ne.symm hb)).trans hu) ⟨_,q⟩ ?_
  exact ⟨hz,its',_,hv,q⟩
theorem Inv.lnew {its:List Value} {t':Nat} (I:Inv X pins σ H s) (hv:Vals ys its) (hz:ys.length<=sizeLine) :
    Inv X pins σ (upd H s.heap.objs.size (.lst ys)) { s with heap:=s.heap.push { cls:=.type "list",data:=.seq its.toArray },toks:=t' } :=
  I.laid (fun _ _ q=>AT _ q) (A8 _) ⟨hz,its,0,hv,A1 _ rfl⟩
theorem Inv.fresh (I:Inv X pins σ H s):H s.heap.objs.size=none:=I.hok.fresh (A8 _)
theorem Inv.lstM (I:Inv X pins σ H s) (hH:H l=some (.lst xs)):xs.length<=sizeLine/\∃ (its:List Value) (n:Nat),Vals xs its/\xs.length=its.length/\s.heap.get? l=some { cls:=.type "list",data:=.seq its.toArray n }:=by
  obtain ⟨z,its,n,r,e⟩:=I.hok l _ hH
  exact ⟨z,its,n,r,r.length,e⟩
theorem vz {n:Nat} (h:n<=sizeLine):Builtin.List.listTooLong n=false:=by
  unfold Builtin.List.listTooLong
  exact Be (by omega)
end
section
variable {X:Cx}
noncomputable def rJ:V->List V->Hp->VK->Prop:=fun x vs H Q=>∃ l xs y,x=.ref l/\vs=[y]/\H l=some (.lst xs)/\xs.length < sizeLine/\Q .non (upd H l (.lst (xs ++ [y])))
theorem jW:MtM X "list.append" rJ:=by
  intro pins s σ H x vs v us Q I rx rv h
  obtain ⟨l,xs,y,rfl,rfl,hH,hz,q⟩:=h
  cases rx
  obtain ⟨u,rfl,ru⟩:=rv.one
  obtain ⟨z,its,n,r,hl,e⟩:=I.lstM hH
  refine call_meets F.slot_list_append ⟨_,e,rfl⟩ F.entry_list_append (F.args_list_append_2 _ _) (PySem.list_append l its.toArray n u (by rw [Bb];omega)) ⟨e,?_⟩
  refine ⟨.non,_,I.lset (its':=its ++ [u]) hH e (by simp) (r.append (.cons ru .nil)) ?_,rfl,q⟩
  rw [Bi,List.length_singleton]
  omega
noncomputable def rF:V->List V->Hp->VK->Prop:=fun x vs H Q=>∃ l b xs zs,x=.ref l/\vs=[.ref b]/\H l=some (.lst xs)/\H b=some (.lst zs)/\xs.length+zs.length<=sizeLine/\Q .non (upd H l (.lst (xs ++ zs)))
theorem mI:MtM X "list.extend" rF:=by
  intro pins s σ H x vs v us Q I rx rv h
  obtain ⟨l,b,xs,zs,rfl,rfl,hH,hB,hz,q⟩:=h
  cases rx
  obtain ⟨u,rfl,ru⟩:=rv.one
  cases ru
  obtain ⟨z,its,n,r,hl,e⟩:=I.lstM hH
  obtain ⟨z2,its2,n2,r2,hl2,e2⟩:=I.lstM hB
  have hsz:its.toArray.size+its2.toArray.size<=sizeLine:=by rw [Bb,Bb];omega
  have hlong:¬ (!its.toArray.isEmpty && Builtin.List.listTooLong (its.toArray.size+its2.toArray.size))=true:=by
    rw [vz hsz,Bool.and_false]
    exact A9
  refine call_meets F.slot_list_extend ⟨_,e,rfl⟩ F.entry_list_extend (F.args_list_extend_2 _ _)
    (AutoSeq1.list_extend_list_list_0 l its.toArray n b its2.toArray n2 hlong (by rw [Bb];omega) (by omega)) ⟨e,e2,?_⟩
  refine ⟨.non,_,I.lset (its':=its ++ its2) hH e (by simp) (r.append r2) ?_,rfl,q⟩
  rw [Bi]
  omega
noncomputable def xz:R2:=fun x y H Q=>∃ l b xs zs,x=.ref l/\y=.ref b/\H l=some (.lst xs)/\H b=some (.lst zs)/\xs.length+zs.length<=sizeLine/\∀ p,H p=none->Q (.ref p) (upd H p (.lst (xs ++ zs)))
theorem Ac:OpR X (binaryOp .Add) xz:=by
  intro pins s σ H x y v u Q I rx ry h
  obtain ⟨l,b,xs,zs,rfl,rfl,hH,hB,hz,q⟩:=h
  cases rx
  cases ry
  obtain ⟨z,its,n,r,hl,e⟩:=I.lstM hH
  obtain ⟨z2,its2,n2,r2,hl2,e2⟩:=I.lstM hB
  refine PySem.P.add_list e e2 ?_ (by rw [Bb,Bb];omega)
  have ea:its.toArray ++ its2.toArray=(its ++ its2).toArray:=by simp
  rw [ea]
  exact ⟨.ref _,_,I.lnew (t':=s.toks) (r.append r2) (by rw [Bi];omega),rfl,q _ I.fresh⟩
end
end L2
namespace Att
open PySem PySem.W PySem.Calls PyProof.Rows
theorem kH {P:Params} {h:Heap}:∀ (ns:List Int) (vs:List Value),WellAll P h vs (ns.map WData.int)->IntsAre vs ns:=by
  intro ns
  induction ns with
  | nil =>
    intro vs w
    rw [List.map_nil] at w
    cases w
    exact .nil
  | cons n ns ih =>
    intro vs w
    rw [Bc] at w
    cases w with
    | cons a b =>
      cases a
      exact .cons _ _ (ih _ b)
theorem sM {l:OpenLaw} {n:Nat} (hn:l.most=some n) {P:Params} {h:Heap} {args:List WData} {vals:List Value}
    (hpre:l.row.toRowW.claim.pre args=true) (hwl:WellAll P h vals args) :
    ∃ a vs ns,vals=[Value.ref a]/\args=[WData.list (ns.map WData.int)]/\h.get? a=some { cls:=.type "list",data:=.seq vs.toArray }/\IntsAre vs ns/\ns.length<=n:=by
  have hsh:WShape.hasAll [] args [.list .int]=true:=(pre_splitW hpre).1
  have hc:l.pre.holds [] { args:=args }=true:=(pre_splitW hpre).2
  obtain ⟨d,r,rfl,h1,h2⟩:=hasAllW_cons hsh
  obtain rfl:=hasAllW_nil h2
  obtain ⟨xs,rfl,h3⟩:=hasW_list h1
  obtain ⟨ns,rfl⟩:=items_int h3
  have hlen:ns.length<=n:=by
    unfold OpenLaw.pre at hc
    have h4:(WTm.not (.lt (.lit (.int (n:Int))) (.len (.arg 0)))).holds [] { args:=[.list (ns.map .int)] }=true:=by
      have h4:=(holds_andW hc).1
      rw [hn] at h4
      exact h4
    have h5:=condW_of h4 (w_not (w_lt w_lit (w_len_list (w_arg rfl))))
    rw [A2] at h5
    refine Nat.le_of_not_lt fun q=>?_
    have q':(n:Int) < ((ns.length:Nat):Int):=by omega
    first
      | (rw [Bd q'] at h5;exact absurd h5 (by decide))
      | (simp at h5;omega)
  cases hwl with
  | cons w1 w2 =>
    cases w2
    cases w1 with
    | list ho hall=>exact ⟨_,_,ns,rfl,rfl,ho,kH ns _ hall,hlen⟩
theorem sV (l:OpenLaw) (args:List WData):l.row.toRowW.claim.post args (.bool true) args=true :=
  postW_of (r:=l.row.toRowW) (X:=(true == true))
    (show WShape.has [] (.bool true) .bool=true by first | rfl | decide | simp [WShape.has,WShape.arms,WShape.armsAll])
    (show (WTm.eq .res (.lit (.bool true))).value [] { args:=args,res:=some (.bool true),after:=args }=some (.bool (true == true)) from w_eq_bool (w_res rfl) w_lit) rfl
theorem attach_call {l:OpenLaw} {n:Nat} {q:Program} {loose:List Str} {XP:(Str->Option Value)->Heap->Prop} {YP:World->Heap->Prop} {d:DefRec}
    (hn:l.most=some n) (hdf:d.params.defaults=[])
    (call:∀ (w:World) (s₀ s₁:Shared) (mg mb:Str->Option Value) (fa:Addr) (o:Obj) (pm cd doc:Value) (a:Addr) (vs:List Value) (ns:List Int),
      Ground q loose [] XP w s₀ mg mb s₁.heap->YP w s₁.heap ->
      s₁.heap.get? fa=some o->o.data=.func (docDef d.name d.params d.body d.scope pm cd doc)->s₁.heap.CodeRec cd d.name->mg d.name=some (.ref fa) ->
      s₁.heap.get? a=some { cls:=.type "list",data:=.seq vs.toArray }->IntsAre vs ns->ns.length<=n->s₁.gens = #[] ->
      codeAny (model l.prog w) callerA (.call (.ref fa) ⟨[.ref a],[]⟩) (fun r s'=>r=.ok (.ret (.bool true))/\OldK s₁.heap s'.heap/\s'.os=s₁.os/\AllBare s'.gens) s₁) :
    WalkO q loose XP YP l.row.toRowW d [] (fun f vs=>PySem.call f vs):=by
  intro w s₀ s₁ mg mb G Y fa o pm cd doc dV kV ho hd hcd hD hmg hg args vals as hpre hlay hrd hwl hlo
  obtain rfl:dV=.none:=Dflts.none hD hdf
  obtain rfl:kV=.none:=Dflts.noKw hD
  obtain ⟨a,vs,ns,rfl,rfl,hobj,hints,hlen⟩:=sM hn hpre hwl
  refine enter_call (codeAny_mono (call w s₀ s₁ mg mb fa o pm cd doc a vs ns G Y ho (fd_plain hd) hcd hmg hobj hints hlen hg) fun r s' hq=>?_)
  obtain ⟨rfl,h2,h3,h4⟩:=hq
  exact ⟨.inl ⟨.bool true,.bool true,[],rfl,fun _=>rfl,.bool true,sV l _,fun _=>⟨List.Pairwise.nil,fun _ hm=>(nomatch hm)⟩⟩,h2,h3,h4⟩
end Att
namespace L2
open PySem PySem.Spec PyProof.Rows
theorem mj:∀ {vs:List Value} {ns:List Int},IntsAre vs ns->Vals (ns.map V.int) vs
  | _,_,.nil=>.nil
  | _,_,.cons n t h=>.cons ⟨t,rfl⟩ (mj h)
noncomputable def yE (H:Hp):Prop:=∀ b,H b=none\/∃ o xs,H b=some (.frz o (.lst xs))
set_option tactic.hygienic true in
theorem vN {P:Program} {w:World} {K:FG} {mg mb:Str->Option Value} {CX:CXT} {k:Nat} {fa a:Addr} {fd:FuncData} {x:Str} {sp:Sp} {s₁:Shared} {vs:List Value} {ns:List Int}
    (KX:K.In s₁.heap) (hns:s₁.heap.Ns mainGlobals mg) (hb:s₁.heap.Ns builtinsNs mb) (hbb:∀ x:Str,x ≠ "__name__"->mb x=bootBuiltins x) (hlim:s₁.heap.NoLimit) (hg:s₁.gens = #[])
    (ha:s₁.heap.get? a=some { cls:=.type "list",data:=.seq vs.toArray }) (hi:IntsAre vs ns) (hl:ns.length<=sizeLine) (hr:Room k callerA)
    (F:∀ base:Heap,K.In base->base.Ns mainGlobals mg->FnOk P w K mg base CX k fa fd [x] sp) (hbind:∀ (s:Shared) (u:Value),BindsTo s fd ⟨[u],[]⟩ [(x,u)])
    (hsp:∀ H:Hp,yE H->SqL K H a (ns.map V.int)->sp [.ref a] H (fun v _=>v=.bl true) fun _ _ _=>False)
    (hCX:∀ H e s',CX [] H s₁ (fun _ _ _=>False) e s'->False) :
    codeAny (model P w) callerA (.call (.ref fa) ⟨[.ref a],[]⟩) (fun r s'=>r=.ok (.ret (.bool true))/\OldK s₁.heap s'.heap/\s'.os=s₁.os/\AllBare s'.gens) s₁:=by
  have rv:=mj hi
  have lenV:=hi.length
  have core:∀ H:Hp,yE H->SqL K H a (ns.map V.int)->HOk P w H s₁.heap->(∀ b,H b ≠ none->b=a)->(H a ≠ none->K.lookup a=none) ->
      codeAny (model P w) callerA (.call (.ref fa) ⟨[.ref a],[]⟩) (fun r s'=>r=.ok (.ret (.bool true))/\OldK s₁.heap s'.heap/\s'.os=s₁.os/\AllBare s'.gens) s₁:=by
    intro H hO hS hok hA hK
    have base_of:∀ {b:Addr} {o:Obj},s₁.heap.get? b=some o->H b=none->(nR s₁.heap H).get? b=some o:=fun e n=>vU e n
    have noA:∀ {b:Addr} {o:Obj} {es:Array DictEntry} {ep:Nat},s₁.heap.get? b=some o->o.data=.dict es ep->H b=none:=fun {b o es ep} e d=>by
      cases q:H b with
      | none=>rfl
      | some u =>
        have e':b=a:=hA b (by rw [q];simp)
        subst e'
        rw [ha] at e;cases e
        have d':Data.seq vs.toArray _=Data.dict es ep:=d
        cases d'
    have nsK:∀ {b:Addr} {m:Str->Option Value},s₁.heap.Ns b m->(nR s₁.heap H).Ns b m:=fun {b m} ⟨o,es,ep,e,d,r⟩=>⟨o,es,ep,base_of e (noA e d),d,r⟩
    have hKb:K.In (nR s₁.heap H):=fun b o e=>base_of (KX b o e) (by
      cases q:H b with
      | none=>rfl
      | some u =>
        have e':b=a:=hA b (by rw [q];simp)
        subst e'
        rw [hK (by rw [q];simp)] at e;cases e)
    have hM:Mod K mg (nR s₁.heap H):=⟨hKb,nsK hns,⟨mb,nsK hb,hbb⟩,let ⟨mc,h1,h2⟩:=hlim;⟨mc,nsK h1,h2⟩⟩
    have e0:Env0 P w K mg (nR s₁.heap H) callerA [] s₁ H:=⟨rfl,hM,fun b o e=>xP e,Nat.le_of_eq (tK _ _),trivial,fun b hb=>absurd (show b ∈ ([]:List Addr) from hb) (by simp),hok,.of_eq hg⟩
    refine codeAny_mono ((F _ hKb (nsK hns)).run callerA [] s₁ H ⟨[.ref a],[]⟩ [.ref a] [.ref a] _ _ hr e0 (hbind s₁ (.ref a)) (.cons rfl .nil) (hsp H hO hS)) fun r s' h=>?_
    cases r with
    | error e=>exact (hCX H e s' h).elim
    | ok fl =>
      cases fl with
      | next=>exact False.elim h
      | brk=>exact False.elim h
      | cont=>exact False.elim h
      | ret u =>
        obtain ⟨v,H',os,bare,un,hok',r',q⟩:=h
        have q':v=.bl true:=q
        subst q'
        obtain rfl:u=Value.bool true:=r'
        refine ⟨rfl,OldK.of_keep fun b o e=>?_,os,bare⟩
        cases q:H b with
        | none=>exact un.keep b o e q (by intro z;exact absurd (show b ∈ ([]:List Addr) from z) (by simp)) (by simp)
        | some u =>
          rcases hO b with z | ⟨ob,xs,z⟩
          · rw [q] at z;cases z
          · have z2:=un.frzs b ob _ z
            obtain ⟨e1,_⟩:=hok b _ z
            obtain ⟨e2,_⟩:=hok' b _ z2
            rw [e] at e1;cases e1
            exact e2
  cases hk:K.lookup a with
  | some o =>
    have e:=KX a o hk
    rw [ha] at e
    cases e
    refine core (fun _=>none) (fun _=>.inl rfl) (.inr ⟨_,vs.toArray,_,hk,rfl,rfl,rfl,by rw [Bb,lenV];exact hl,by simpa using rv⟩) (fun b u z=>by have z':(none:Option HO)=some u:=z;cases z') (fun b z=>absurd rfl z) fun z=>absurd rfl z
  | none =>
    refine core (fun b=>if b=a then some (.frz { cls:=.type "list",data:=.seq vs.toArray } (.lst (ns.map V.int))) else none) (fun b=>?_) (.inl (.inr ⟨{ cls:=.type "list",data:=.seq vs.toArray },if_pos rfl⟩)) (fun b u z=>?_) (fun b z=>?_) fun _=>hk
    · by_cases hb:b=a
      · exact .inr ⟨_,_,if_pos hb⟩
      · exact .inl (if_neg hb)
    · by_cases hb:b=a
      · have z':=(if_pos hb).symm.trans z
        cases z'
        subst hb
        exact ⟨ha,by rw [A2];exact hl,vs,_,rv,ha⟩
      · have z':=(if_neg hb).symm.trans z
        cases z'
    · by_cases hb:b=a
      · exact hb
      · exact absurd (if_neg hb) z
end L2
namespace L2
open PySem PySem.Spec PyProof.Rows
end L2
namespace L2
open PySem PySem.Spec PyProof.Rows
noncomputable abbrev CX0:CXT:=fun _ _ _ _ _ _=>False
noncomputable abbrev E0:XK:=fun _ _ _=>False
theorem pass0 {X:Cx}:rh CX0 X E0:=fun _ _ _ _ _ _ _ h=>h.elim
structure Fun (K:FG) (x qual:Str) (st:Stmt) (f:Addr) (fd:FuncData):Prop where
  ex:∃ (oc:Value) (od:Option Addr) (kV doc pm:Value) (an:Option Addr) (cdv ct:Value) (osl:Array (Option Value)),
    fd=PySem.W.fnOf x qual (bG st) (bo st) (ak st) .none kV doc pm an cdv ct/\K.lookup f=some ⟨oc,od,.func fd,osl⟩/\PySem.W.codeIn K cdv qual=true
  kp:PySem.W.keepIn K (.ref f)=true
section
variable {P:Program} {w:World} {K:FG} {mg:Str->Option Value} {base:Heap}
theorem Fun.ok {x qual:Str} {st:Stmt} {f:Addr} {fd:FuncData} {N ps:List Str} {k:Nat} {sp:Sp} (F:Fun K x qual st f fd) (S:FnScope N ps (ak st)) (len:∀ vs H Q E,sp vs H Q E->vs.length=ps.length)
    (hbody:∀ (cdv:Value) (A:Around) (outer:List Env) (s:Shared) (H:Hp) (vs:List V) (Q:VK) (E:XK),Room k (A.deeper (envOfC qual (ak st) s.heap.objs.size f cdv))->sp vs H Q E ->
      ∃ t,PSs (pJ CX0 P w K mg base N qual (ak st) f cdv A outer s H E).nox (bo st) t/\t { nx:=fun _ H'=>Q .non H',rt:=Q } (ki N vs) H):FnOk P w K mg base CX0 (k+1) f fd ps sp:=by
  obtain ⟨oc,od,kV,doc,pm,an,cdv,ct,osl,rfl,lk,hcd⟩:=F.ex
  refine fn_of lk hcd S len fun A outer s H vs Q E hr hsp=>?_
  obtain ⟨t,h,q⟩:=hbody cdv A outer s H vs Q E hr hsp
  exact ⟨t,h.nox,q⟩
theorem Fun.binds {x qual:Str} {st:Stmt} {f:Addr} {fd:FuncData} {ps:List Str} (F:Fun K x qual st f fd)
    (h:∀ (kV doc pm:Value) (an:Option Addr) (cdv ct:Value) (us:List Value),us.length=ps.length->bindArgs (PySem.W.fnOf x qual (bG st) (bo st) (ak st) .none kV doc pm an cdv ct) ⟨us,[]⟩=pure (ps.zip us)):Binds K fd ps []:=by
  obtain ⟨oc,od,kV,doc,pm,an,cdv,ct,osl,rfl,lk,hcd⟩:=F.ex
  exact .all (h kV doc pm an cdv ct)
theorem AA {x qual:Str} {st:Stmt} {f:Addr} {oc:Value} {od an:Option Addr} {osl:Array (Option Value)} {kV doc pm cdv ct:Value} (l:K.lookup f=some ⟨oc,od,.func (PySem.W.fnOf x qual (bG st) (bo st) (ak st) .none kV doc pm an cdv ct),osl⟩)
    (c:PySem.W.codeIn K cdv qual=true) (k:PySem.W.keepIn K (.ref f)=true):Fun K x qual st f (PySem.W.fnOf x qual (bG st) (bo st) (ak st) .none kV doc pm an cdv ct):=⟨⟨oc,od,kV,doc,pm,an,cdv,ct,osl,rfl,l,c⟩,k⟩
end
theorem hu_of {A:Around} {k:Nat} (hr:Room k A):A.units+1 < cLine:=Nat.lt_of_le_of_lt (Nat.add_le_add_left (by decide:1<=64) _) hr.units
noncomputable def Same (H H':Hp):Prop:=∀ b o,H b=some o->H' b=some o
theorem Same.refl (H:Hp):Same H H:=fun _ _ h=>h
theorem Same.trans {H H1 H2:Hp} (a:Same H H1) (b:Same H1 H2):Same H H2:=fun c o h=>b c o (a c o h)
theorem Same.free {H H':Hp} (e:Same H H') {l:Addr} (h:H' l=Option.none):H l=Option.none:=by
  cases q:H l with
  | none=>rfl
  | some o =>
    rw [e l o q] at h
    cases h
end L2
end
section
namespace L2
open PySem PySem.Spec PyProof.Rows
section
variable {prog:Program} {w:World} {A:Around} {E:Value->Shared->Prop} {s:Shared}
theorem oJ {d:Addr} {k v:Value} {Q:Unit->Shared->Prop} (ty:s.TypeIs (.ref d) "dict") (h:wpAny (model prog w) A.in1 (dictSet d k v) Q E s) :
    wpAny (model prog w) A (setItem (.ref d) k v) Q E s:=by
  unfold setItem
  refine AQ (AN (wpAny_sequenceKey ty (by decide) (AN (wpAny_callSpecial?_slot ty slot_dict_setitem (wpAny_call_entry slot_dict_setitem ty entry_dict_setitem ?_ (args_dict_setitem _ _ _))))))
  refine AN (wpAny_notOrdered_dict ty ?_)
  refine (?_:wpAny _ _ (dictSet d k v >>= _) _ _ s)
  exact AN (wpAny_mono h (fun _ _ z=>AO ⟨_,rfl,AO z⟩) fun _ _ z=>z)
theorem mw {d:Addr} {key v:Value} {hs:Int} {o:Obj} {es:Array DictEntry} {ep:Nat} {F:Option Nat->Prop} {Q:Unit->Shared->Prop} (ho:s.heap.get? d=some o) (hc:o.ExactDict) (hd:o.data=.dict es ep) (hz:es.size<=sizeLine)
    (find:wpAny (model prog w) A (dictFind d key hs) (fun r s'=>s'=s/\F r) E s)
    (old:∀ i h' o',F (some i)->h'.get? d=some o'->o'.ExactDict->o'.data=.dict (es.modify i fun e=>{ e with val:=v }) ep->Heap.SameBut d s.heap h'->Q () { s with heap:=h' })
    (new:∀ h' o',F none->h'.get? d=some o'->o'.ExactDict->o'.data=.dict (es.push ⟨hs,key,v⟩) (ep+1)->Heap.SameBut d s.heap h'->Q () { s with heap:=h' }) :
    wpAny (model prog w) A (dictSetHashed d key hs v) Q E s:=by
  unfold dictSetHashed
  refine AQ (AN (wpAny_mono find ?_ fun _ _ z=>z))
  rintro (_ | i) _ ⟨rfl,f⟩
  · exact AN (wpAny_rule (wpAny_updateDictKeys (hz:=hz) ho hd (new _ _ f (Bh _ ho (Obj.isFreed_of_dict (Obj.data_mapDictKeys hd _))) (hc.mapDictKeys _) (Obj.data_mapDictKeys hd _) (Heap.SameBut.update ..))))
  · exact AN (wpAny_rule (AN (wpAny_updateDict ho hd (wpAny_point (old i _ _ f (Bh _ ho (Obj.isFreed_of_dict (Obj.data_mapDict hd _))) (hc.mapDict _) (Obj.data_mapDict hd _) (Heap.SameBut.update ..))))))
end
section
variable {prog:Program} {w:World} {K:Type} [DecidableEq K] {A:Around} {E:Value->Shared->Prop} {s:Shared} {d:Addr} {k:K}
section
variable {knd:HeapKind prog w K}
noncomputable def DictOfHE (knd:HeapKind prog w K) (h:Heap) (d:Addr) (xs:List (K × Addr × Value)):Prop :=
  ∃ o es ep,h.get? d=some o/\o.ExactDict/\o.data=.dict es ep/\es.toList=xs.map (entryOfKey knd)/\(∀ x ∈ xs,knd.is h x.1 x.2.1)/\(xs.map (·.1)).Nodup/\ep=es.size
theorem DictOfHE.of {h:Heap} {d:Addr} {xs:List (K × Addr × Value)} (x:DictOfHE knd h d xs):h.DictOfH knd d xs:=let ⟨o,es,ep,h1,h2,h3,h4,h5,h6,_⟩:=x;⟨o,es,ep,h1,h2,h3,h4,h5,h6⟩
theorem s9 {xs:List (K × Addr × Value)} {y:Addr × Value} (hn:(xs.map (·.1)).Nodup) (h:k ∉ xs.map (·.1)):((xs ++ [(k,y)]).map (·.1)).Nodup:=by
  rw [List.map_append]
  exact List.nodup_append.mpr ⟨hn,List.nodup_cons.mpr ⟨List.not_mem_nil,List.nodup_nil⟩,fun x hx y hy e=>h (by have:=Bp.mp hy;subst this;exact e ▸ hx)⟩
theorem ja {a:Addr} {xs:List (K × Addr × Value)} {v:Value} {Q:Unit->Shared->Prop} (hu:knd.room A) (hkey:knd.is s.heap k a) (hm:DictOfHE knd s.heap d xs)
    (hQ:∀ h',DictOfHE knd h' d (storedH xs k a v)->Heap.SameBut d s.heap h'->Q () { s with heap:=h',toks:=s.toks+knd.draws k })
    (hsz:xs.length<=sizeLine:=by size_fits):wpAny (model prog w) A (dictSet d (.ref a) v) Q E s:=by
  obtain ⟨o,es,ep,ho,hc,hd,he,his,hn,rfl⟩:=hm
  unfold dictSet
  refine AQ (AN (knd.pyHash hu hkey ?_))
  refine mw (s:={ s with toks:=s.toks+knd.draws k }) (F:=fun | none=>∀ (j:Nat) (p:Addr × Value),xs[j]? ≠ some (k,p) | some j=>∃ p,xs[j]?=some (k,p)) ho hc hd (size_of_entries he ▸ hsz)
    (wpAny_dictFind_heap (s:={ s with toks:=s.toks+knd.draws k }) hu hkey ho hd he his hn (fun z=>⟨rfl,z⟩) fun j p z=>⟨rfl,p,z⟩) ?_ ?_
  · rintro i h' o' ⟨p,f⟩ g1 g2 g3 g4
    have at':=storedH_old (atKey_of_get hn f) a v
    refine hQ h' ⟨o',_,_,g1,g2,g3,?_,?_,?_,?_⟩ g4 <;> try rw [at']
    · rw [Array.toList_modify,he]
      exact modify_map_putAt (entryOfKey knd) _ k v (fun _ _=>rfl) hn f
    · intro x hx
      obtain ⟨y,hy,rfl⟩:=A6.mp hx
      have:=knd.keeps (his y hy) ho hd g4
      by_cases e:y.1=k <;> simpa [putAt,e] using this
    · exact (keys_map_putAt xs k v).symm ▸ hn
    · exact (Array.size_modify).symm
  · intro h' o' f g1 g2 g3 g4
    have at':=storedH_new (atKey_none_of_get f) a v
    refine hQ h' ⟨o',_,_,g1,g2,g3,?_,?_,?_,?_⟩ g4 <;> try rw [at']
    · simp [he,entryOfKey]
    · intro x hx
      rcases A0.mp hx with hx | hx
      · exact knd.keeps (his x hx) ho hd g4
      · cases Bp.mp hx;exact knd.keeps hkey ho hd g4
    · exact s9 hn (not_mem_keys_of_get f)
    · simp
theorem lZ {a:Addr} {xs:List (K × Addr × Value)} {v:Value} {Q:Unit->Shared->Prop} (hu:knd.room A.in1) (hkey:knd.is s.heap k a) (hm:DictOfHE knd s.heap d xs)
    (hQ:∀ h',DictOfHE knd h' d (storedH xs k a v)->Heap.SameBut d s.heap h'->Q () { s with heap:=h',toks:=s.toks+knd.draws k })
    (hsz:xs.length<=sizeLine:=by size_fits):wpAny (model prog w) A (setItem (.ref d) (.ref a) v) Q E s :=
  oJ hm.of.typeIs (ja (hsz:=hsz) hu hkey hm hQ)
end
section
variable {knd:KeyKind prog w K} {key:Value}
theorem iG {kvs:List (K × Value)} {v:Value} {Q:Unit->Shared->Prop} (hkey:knd.is k key=true) (hm:DictOfE knd s.heap d kvs)
    (hQ:∀ h',DictOfE knd h' d (stored kvs k v)->Heap.SameBut d s.heap h'->Q () { s with heap:=h',toks:=s.toks+1 })
    (hsz:kvs.length<=sizeLine:=by size_fits):wpAny (model prog w) A (dictSet d key v) Q E s:=by
  obtain ⟨o,⟨es⟩,ep,ho,hc,hd,hk,hp,hn,rfl⟩:=hm
  have same:=hp.findIdx k
  have hz:(⟨es⟩:Array DictEntry).size<=sizeLine:=by have:=hp.length;simp at this ⊢;omega
  unfold dictSet
  refine AQ (AN (knd.pyHash hkey ?_))
  refine mw (s:={ s with toks:=s.toks+1 }) (F:=fun r=>es.findIdx? (fun e=>knd.is k e.key)=r) ho hc hd hz
    (wpAny_dictFind_of (s:={ s with toks:=s.toks+1 }) hkey ho hd hk ⟨rfl,by simp⟩) ?_ ?_
  · intro i h' o' f g1 g2 g3 g4
    have at':stored kvs k v=_:=if_pos (any_of_findIdx_some (same.symm.trans f))
    refine hQ h' ⟨o',_,_,g1,g2,g3,hk.modify _ _,?_,?_,(Array.size_modify).symm⟩ g4 <;> rw [at']
    · simpa using hp.modify hn f v
    · exact (keys_map_store kvs k v).symm ▸ hn
  · intro h' o' f g1 g2 g3 g4
    have no:=not_mem_of_findIdx_none (same.symm.trans f)
    have at':stored kvs k v=_:=if_neg fun z=>by
      obtain ⟨x,hx,e⟩:=List.any_eq_true.mp z
      exact no (A6.mpr ⟨x,hx,of_decide_eq_true e⟩)
    refine hQ h' ⟨o',_,_,g1,g2,g3,hk.push hkey _,?_,?_,by simp⟩ g4 <;> rw [at']
    · simpa using hp.append hkey (knd.hash k) v
    · rw [List.map_append]
      exact List.nodup_append.mpr ⟨hn,List.nodup_cons.mpr ⟨List.not_mem_nil,List.nodup_nil⟩,fun x hx y hy e=>no (by cases Bp.mp hy;have e':x=k:=e;exact e' ▸ hx)⟩
theorem k9 {kvs:List (K × Value)} {v:Value} {Q:Unit->Shared->Prop} (hkey:knd.is k key=true) (hm:DictOfE knd s.heap d kvs)
    (hQ:∀ h',DictOfE knd h' d (stored kvs k v)->Heap.SameBut d s.heap h'->Q () { s with heap:=h',toks:=s.toks+1 })
    (hsz:kvs.length<=sizeLine:=by size_fits):wpAny (model prog w) A (setItem (.ref d) key v) Q E s :=
  oJ hm.of.typeIs (iG (hsz:=hsz) hkey hm hQ)
end
end
section
variable {κ:Type} [DecidableEq κ]
noncomputable def kD (kvs:List (κ × V)) (k:κ):Option V:=(kvs.find? fun kv=>decide (kv.1=k)).map (·.2)
noncomputable def gB (kvs:List (κ × V)) (k:κ) (v:V):List (κ × V) :=
  if (kvs.any fun kv=>decide (kv.1=k))=true then kvs.map (fun kv=>if kv.1=k then (kv.1,v) else kv) else kvs ++ [(k,v)]
theorem js {p:κ × V} {r:List (κ × V)} {k:κ} (e:p.1=k):kD (p :: r) k=some p.2:=by simp [kD,List.find?_cons,e]
theorem jt {p:κ × V} {r:List (κ × V)} {k:κ} (e:¬ p.1=k):kD (p :: r) k=kD r k:=by simp [kD,List.find?_cons,e]
theorem oC (k:κ):∀ kvs:List (κ × V),(kvs.any fun kv=>decide (kv.1=k))=(kD kvs k).isSome
  | []=>rfl
  | p :: r=>by
    rw [List.any_cons]
    by_cases e:p.1=k
    · simp only [js e,Bd e,Bool.true_or,Option.isSome_some]
    · rw [jt e,Be e,Bool.false_or];exact oC k r
theorem ky (kvs:List (κ × V)) (k:κ) (v:V):(gB kvs k v).length<=kvs.length+1:=by
  unfold gB
  split
  · rw [A2];omega
  · rw [Bi,Bj,List.length_nil];omega
theorem RelO.isSome_eq {o:Option V} {u:Option Value} (r:RelO o u):o.isSome=u.isSome:=by
  cases o with
  | none=>cases u with
    | none=>rfl
    | some _=>exact (show False from r).elim
  | some _=>cases u with
    | none=>exact (show False from r).elim
    | some _=>rfl
theorem RelO.getD {o:Option V} {u:Option Value} {d:V} {d':Value} (r:RelO o u) (rd:RelV d d'):RelV (o.getD d) (u.getD d'):=by
  cases o with
  | none=>cases u with
    | none=>exact rd
    | some _=>exact (show False from r).elim
  | some _=>cases u with
    | none=>exact (show False from r).elim
    | some _=>exact r
theorem KV.val {kvs:List (κ × V)} {vs:List (κ × Value)} (r:KV kvs vs) (k:κ):RelO (kD kvs k) (valueAt vs k):=by
  unfold KV at r
  induction r with
  | nil=>exact True.intro
  | @cons p q ps qs h t ih =>
    obtain ⟨h1,h2⟩:=h
    by_cases e:p.1=k
    · have e':q.1=k:=h1.symm.trans e
      have b:valueAt (q :: qs) k=some q.2:=by simp [valueAt,List.find?_cons,e']
      rw [js e,b];exact h2
    · have e':¬ q.1=k:=fun z=>e (h1.trans z)
      have b:valueAt (q :: qs) k=valueAt qs k:=by simp [valueAt,List.find?_cons,e']
      rw [jt e,b];exact ih
theorem KV.any {kvs:List (κ × V)} {vs:List (κ × Value)} (r:KV kvs vs) (k:κ):(kvs.any fun kv=>decide (kv.1=k))=vs.any fun kv=>decide (kv.1=k):=by
  unfold KV at r
  induction r with
  | nil=>rfl
  | cons h t ih=>rw [List.any_cons,List.any_cons,ih,h.1]
theorem KV.repl {kvs:List (κ × V)} {vs:List (κ × Value)} (r:KV kvs vs) (k:κ) {y:V} {u:Value} (ry:RelV y u) :
    KV (kvs.map fun kv=>if kv.1=k then (kv.1,y) else kv) (vs.map fun kv=>if kv.1=k then (kv.1,u) else kv):=by
  unfold KV at r ⊢
  induction r with
  | nil=>exact .nil
  | @cons p q ps qs h t ih =>
    rw [Bc,Bc]
    refine .cons ?_ ih
    obtain ⟨h1,h2⟩:=h
    by_cases e:p.1=k
    · rw [if_pos e,if_pos (h1.symm.trans e)];exact ⟨h1,ry⟩
    · rw [if_neg e,if_neg (fun z=>e (h1.trans z))];exact ⟨h1,h2⟩
theorem KV.put {kvs:List (κ × V)} {vs:List (κ × Value)} (r:KV kvs vs) (k:κ) {y:V} {u:Value} (ry:RelV y u):KV (gB kvs k y) (stored vs k u):=by
  unfold gB stored
  rw [r.any k]
  by_cases e:(vs.any fun kv=>decide (kv.1=k))=true
  · rw [if_pos e,if_pos e];exact r.repl k ry
  · rw [if_neg e,if_neg e];exact Paired.snoc r ⟨rfl,ry⟩
theorem KV.length {kvs:List (κ × V)} {vs:List (κ × Value)} (r:KV kvs vs):kvs.length=vs.length:=Paired.length r
end
theorem rT {P:Program} {w:World} {k:Key} {u:Value} (r:RelV (kV k) u):(bK P w).is k u=true:=by
  cases k with
  | inl i=>obtain ⟨t,e⟩:=(show ∃ t,u=Value.int i t from r);subst e;exact pe P w i t
  | inr x=>obtain ⟨t,e⟩:=(show ∃ t,u=Value.str x t from r);subst e;exact pd P w x t
theorem mO {P:Program} {w:World}:∀ {ks:List Key} {us:List Value},Vals (ks.map kV) us->ItemsAre (bK P w) ks us
  | [],_,r=>by rw [List.map_nil] at r;cases r;exact .nil
  | k :: ks,_,r=>by
    rw [Bc] at r
    cases r with
    | cons h t=>exact .cons (rT h) (mO t)
noncomputable abbrev KT (H:Hp):List (List Key × V)->List (List Key × Addr × Value)->Prop:=Paired fun p q=>p.1=q.1/\H q.2.1=some (.tup (p.1.map kV))/\RelV p.2 q.2.2
theorem KT.val {H:Hp} {kvs:List (List Key × V)} {xs:List (List Key × Addr × Value)} (r:KT H kvs xs) (k:List Key):RelO (kD kvs k) ((atKey xs k).map (·.2)):=by
  induction r with
  | nil=>exact True.intro
  | @cons p q ps qs h t ih =>
    obtain ⟨h1,_,h2⟩:=h
    by_cases e:p.1=k
    · have e':q.1=k:=h1.symm.trans e
      have b:atKey (q :: qs) k=some q.2:=by simp [atKey,List.find?_cons,e']
      rw [js e,b];exact h2
    · have e':¬ q.1=k:=fun z=>e (h1.trans z)
      have b:atKey (q :: qs) k=atKey qs k:=by simp [atKey,List.find?_cons,e']
      rw [jt e,b];exact ih
theorem KT.repl {H:Hp} {kvs:List (List Key × V)} {xs:List (List Key × Addr × Value)} (r:KT H kvs xs) (k:List Key) {y:V} {u:Value} (ry:RelV y u) :
    KT H (kvs.map fun kv=>if kv.1=k then (kv.1,y) else kv) (xs.map (putAt k u)):=by
  induction r with
  | nil=>exact .nil
  | @cons p q ps qs h t ih =>
    rw [Bc,Bc]
    refine .cons ?_ ih
    obtain ⟨h1,h2,h3⟩:=h
    unfold putAt
    by_cases e:p.1=k
    · rw [if_pos e,if_pos (h1.symm.trans e)];exact ⟨h1,h2,ry⟩
    · rw [if_neg e,if_neg (fun z=>e (h1.trans z))];exact ⟨h1,h2,h3⟩
theorem KT.put {H:Hp} {kvs:List (List Key × V)} {xs:List (List Key × Addr × Value)} (r:KT H kvs xs) (k:List Key) {b:Addr} {y:V} {u:Value} (hb:H b=some (.tup (k.map kV))) (ry:RelV y u) :
    KT H (gB kvs k y) (storedH xs k b u):=by
  have e:(kvs.any fun kv=>decide (kv.1=k))=(atKey xs k).isSome:=by
    rw [oC,(r.val k).isSome_eq,Option.isSome_map]
  unfold gB storedH
  rw [e]
  by_cases q:(atKey xs k).isSome=true
  · rw [if_pos q,if_pos q];exact r.repl k ry
  · rw [if_neg q,if_neg q];exact Paired.snoc r ⟨rfl,hb,ry⟩
theorem KT.keeps {H H':Hp} {kvs:List (List Key × V)} {xs:List (List Key × Addr × Value)} (r:KT H kvs xs) (ht:∀ b ys,H b=some (.tup ys)->H' b=some (.tup ys)):KT H' kvs xs :=
  Paired.mapP r fun _ _ z=>⟨z.1,ht _ _ z.2.1,z.2.2⟩
section
variable {P:Program} {w:World} {H:Hp} {h:Heap} {a:Addr}
theorem yR {u:HO} (ok:HOk P w H h) (e:Rd H a u):ObjOk P w H h a u:=e.ok ok
theorem qQ {kvs:List (Key × V)} (ok:HOk P w H h) (e:Rd H a (.dK kvs)):kvs.length<=sizeLine/\(a == sysModules)=false/\∃ vs,KV kvs vs/\DictOfE (bK P w) h a vs :=
  show ObjOk P w H h a (.dK kvs) from yR ok e
theorem zc {kvs:List (Key × V)} (ok:HOk P w H h) (e:Rd H a (.dK kvs)):kvs.length<=sizeLine/\(a == sysModules)=false/\∃ vs,KV kvs vs/\h.DictOf (bK P w) a vs:=let ⟨z,y,vs,r,d⟩:=qQ ok e;⟨z,y,vs,r,d.of⟩
theorem nN {ks:List Key} (ok:HOk P w H h) (e:H a=some (.tup (ks.map kV))):(tupleKind (bK P w)).is h ks a:=by
  obtain ⟨_,its,r,o,h1,h2,n,h3⟩:=(show ObjOk P w H h a (.tup (ks.map kV)) from ok a _ e)
  exact ⟨o,its.toArray,n,h1,h2,congrArg Prod.fst h3,by simpa using mO r⟩
theorem we {kvs:List (List Key × V)} (ok:HOk P w H h) (e:Rd H a (.dT kvs)):kvs.length<=sizeLine/\(a == sysModules)=false /\
    ∃ xs,KT H kvs xs/\DictOfHE (tupleKind (bK P w)) h a xs:=by
  obtain ⟨z,y,xs,r,o,es,ep,h1,h2,h3,h4,h5⟩:=(show ObjOk P w H h a (.dT kvs) from yR ok e)
  refine ⟨z,y,xs,r,o,es,ep,h1,h2,h3,h4,fun x hx=>?_,h5⟩
  have all:∀ {l:List (List Key × V)} {m:List (List Key × Addr × Value)},KT H l m->∀ x ∈ m,(tupleKind (bK P w)).is h x.1 x.2.1:=by
    intro l m q
    induction q with
    | nil=>intro x hx;exact nomatch hx
    | @cons p q ps qs hq t ih =>
      intro x hx
      rcases AX.mp hx with e | hx
      · subst e
        exact nN ok (by rw [<- hq.1];exact hq.2.1)
      · exact ih x hx
  exact all r x hx
theorem zb {kvs:List (List Key × V)} (ok:HOk P w H h) (e:Rd H a (.dT kvs)):kvs.length<=sizeLine/\(a == sysModules)=false /\
    ∃ xs,KT H kvs xs/\h.DictOfH (tupleKind (bK P w)) a xs:=let ⟨z,y,xs,r,d⟩:=we ok e;⟨z,y,xs,r,d.of⟩
end
noncomputable def DGet (H:Hp) (a:Addr) (y:V) (r:Option V):Prop :=
  (∃ kvs k,Rd H a (.dK kvs)/\y=kV k/\r=kD kvs k)\/∃ kvs k b,Rd H a (.dT kvs)/\y=.ref b/\H b=some (.tup (k.map kV))/\r=kD kvs k
noncomputable def DPut (H:Hp) (a:Addr) (y v:V) (H':Hp):Prop :=
  (∃ kvs k,H a=some (.dK kvs)/\y=kV k/\kvs.length < sizeLine/\H'=upd H a (.dK (gB kvs k v))) \/
  ∃ kvs k b,H a=some (.dT kvs)/\y=.ref b/\H b=some (.tup (k.map kV))/\kvs.length < sizeLine/\H'=upd H a (.dT (gB kvs k v))
theorem DGet.t {H:Hp} {a b:Addr} {kvs:List (List Key × V)} {k:List Key} (e:H a=some (.dT kvs)) (eb:H b=some (.tup (k.map kV))):DGet H a (.ref b) (kD kvs k):=.inr ⟨kvs,k,b,.inl e,rfl,eb,rfl⟩
theorem DPut.t {H:Hp} {a b:Addr} {kvs:List (List Key × V)} {k:List Key} {v:V} (e:H a=some (.dT kvs)) (eb:H b=some (.tup (k.map kV))) (hl:kvs.length < sizeLine) :
    DPut H a (.ref b) v (upd H a (.dT (gB kvs k v))):=.inr ⟨kvs,k,b,e,rfl,eb,hl,rfl⟩
section
variable {X:Cx} {pins:List (Addr × Obj)} {σ:St} {H:Hp} {s:Shared} {a:Addr} {y v:V} {u r:Value} {o:Option V} {A:Around} {E:Value->Shared->Prop}
theorem Inv.big (I:Inv X pins σ H s):sysModules < s.heap.objs.size:=by
  have h:mainGlobals < s.heap.objs.size:=(I.mod.glob.keeps I.bk).lt
  exact Nat.lt_trans (by decide) h
theorem tW {Q:Value->Shared->Prop} (hu:A.units+1 < cLine) (I:Inv X pins σ H s) (g:DGet H a y (some v)) (ry:RelV y u) (h:∀ w' s',Inv X pins σ H s'->RelV v w'->Q w' s') :
    wpAny (model X.prog X.w) A (getItem (.ref a) u) Q E s:=by
  rcases g with ⟨kvs,k,e,ey,l⟩ | ⟨kvs,k,b,e,ey,eb,l⟩
  · subst ey
    obtain ⟨z,hd,vs,rel,dd⟩:=zc I.hok e
    obtain ⟨w',hw,rw'⟩:=RelO.some_of (v:=v) (o:=valueAt vs k) (by rw [l];exact rel.val k)
    exact wpAny_getItem_of (rT ry) dd.mapOf hw (h w' _ (I.tok _) rw')
  · subst ey
    cases (show u=Value.ref b from ry)
    obtain ⟨z,hd,xs,rel,dd⟩:=zb I.hok e
    obtain ⟨w',hw,rw'⟩:=RelO.some_of (v:=v) (o:=(atKey xs k).map (·.2)) (by rw [l];exact rel.val k)
    obtain ⟨p,hp,hp2⟩:=AU.mp hw
    refine wpAny_getItem_heap (tupleKind_room_in1 hu) (nN I.hok eb) dd hp ?_
    rw [hp2]
    exact h w' _ (I.tok _) rw'
theorem nW {h':Heap} {t':Nat} {ob:HO} (I:Inv X pins σ H s) (mu:Mut (H a)) (hs:Heap.SameBut a s.heap h') (he:∃ q,h'.get? a=some q) (new:ObjOk X.prog X.w (upd H a ob) h' a ob) :
    Inv X pins σ (upd H a ob) { s with heap:=h',toks:=t' } :=
  I.write (x:=a) (e:=a) mu (.inl rfl) (fun b q hb z=>(hs.2 b hb).trans z) he new
theorem wk {P:Program} {w:World} {H':Hp} {h':Heap} {kvs:List (Key × V)} {vs:List (Key × Value)} (z:kvs.length<=sizeLine) (hd:(a == sysModules)=false) (rel:KV kvs vs) (dd:DictOfE (bK P w) h' a vs) :
    ObjOk P w H' h' a (.dK kvs):=⟨z,hd,vs,rel,dd⟩
theorem tV {H':Hp} {Q:Unit->Shared->Prop} (hu:A.units+1 < cLine) (I:Inv X pins σ H s) (g:DPut H a y v H') (ry:RelV y u) (rv:RelV v r) (h:∀ s',Inv X pins σ H' s'->Q () s') :
    wpAny (model X.prog X.w) A (setItem (.ref a) u r) Q E s:=by
  rcases g with ⟨kvs,k,e,ey,l,eH⟩ | ⟨kvs,k,b,e,ey,eb,l,eH⟩
  · subst ey eH
    obtain ⟨z,hd,vs,rel,dd⟩:=qQ I.hok (.inl e)
    have hz:vs.length<=sizeLine:=by rw [<- rel.length];exact z
    have hl:(gB kvs k v).length<=sizeLine:=by have:=ky kvs k v;omega
    refine k9 (hsz:=hz) (rT ry) dd fun h' dd' hs=>h _ ?_
    have he:∃ q,h'.get? a=some q:=let ⟨q,_,_,hq,_⟩:=dd';⟨q,hq⟩
    exact nW I (by rw [e];exact True.intro) hs he (wk hl hd (rel.put k rv) dd')
  · subst ey eH
    cases (show u=Value.ref b from ry)
    obtain ⟨z,hd,xs,rel,dd⟩:=we I.hok (.inl e)
    have hz:xs.length<=sizeLine:=by rw [<- Paired.length rel];exact z
    have hl:(gB kvs k v).length<=sizeLine:=by have:=ky kvs k v;omega
    refine lZ (hsz:=hz) (tupleKind_room_in1 hu) (nN I.hok eb) dd fun h' dd' hs=>h _ ?_
    obtain ⟨q,es,ep,hq,h2,h3,h4,_,h5⟩:=dd'
    refine nW I (by rw [e];exact True.intro) hs ⟨q,hq⟩ ⟨hl,hd,_,(rel.put k eb rv).keeps fun c ys ec=>?_,q,es,ep,hq,h2,h3,h4,h5⟩
    rw [aN (ne_of ec e (fun z=>nomatch z))]
    exact ec
end
theorem pI {X:Cx} {pins:List (Addr × Obj)} {σ:St} {H:Hp} {s:Shared} {a:Addr} {y:V} {o:Option V} (I:Inv X pins σ H s) (g:DGet H a y o):s.TypeIs (.ref a) "dict":=by
  rcases g with ⟨kvs,k,e,_,_⟩ | ⟨kvs,k,b,e,_,_,_⟩
  · obtain ⟨_,_,vs,_,dd⟩:=zc I.hok e
    exact dd.typeIs
  · obtain ⟨_,_,xs,_,dd⟩:=zb I.hok e
    exact dd.typeIs
theorem wl {P:Program} {w:World} {H:Hp} (h:Heap) (hb:sysModules < h.objs.size):ObjOk P w H (h.push { cls:=.type "dict",data:=.dict #[] }) h.objs.size (.dK []) :=
  ⟨Nat.zero_le _,beq_eq_false_iff_ne.mpr (Ne.symm (Ba hb)),[],.nil,_,#[],0,A1 _ rfl,⟨rfl,rfl,rfl⟩,rfl,(fun _ h=>by simp at h),.nil,List.nodup_nil,rfl⟩
structure M1 (X:Cx) (o:Expr) (m:Str) (apos:Pos) (e:Expr) (cpos:Pos):Prop where
  base:attributeBase o m X.env (eval o X.env)=eval o X.env
  few:((backTo cpos (starEach [e] X.env)).all (fun x=>!x.1) && (backToKw cpos (keywordEach [] X.env)).all (fun x=>x.1.isSome)
    && decide (([e]:List Expr).length+([]:List Keyword).length+(if ([]:List Keyword).isEmpty then 0 else 1) < 30))=true
  line:(apos.endLine == cpos.line)=true
  trees:backTo cpos (starEach [e] X.env)=[(false,eval e X.env)]
structure M2 (X:Cx) (o:Expr) (m:Str) (apos:Pos) (e f:Expr) (cpos:Pos):Prop where
  base:attributeBase o m X.env (eval o X.env)=eval o X.env
  few:((backTo cpos (starEach [e,f] X.env)).all (fun x=>!x.1) && (backToKw cpos (keywordEach [] X.env)).all (fun x=>x.1.isSome)
    && decide (([e,f]:List Expr).length+([]:List Keyword).length+(if ([]:List Keyword).isEmpty then 0 else 1) < 30))=true
  line:(apos.endLine == cpos.line)=true
  trees:backTo cpos (starEach [e,f] X.env)=[(false,eval e X.env),(false,eval f X.env)]
end L2
namespace L2
open PySem PySem.Spec PyProof.Rows
end L2
end
section
namespace L2
open PySem PySem.Spec PyProof.Rows
noncomputable def kI (cells:List (Str × Addr)) (cs:List (Str × Addr)) (x:Str × NameKind):List (Str × Addr) :=
  if x.2 == .free then (match cells.lookup x.1 with | some c=>(x.1,c) :: cs | none=>cs) else cs
noncomputable def clo (cells:List (Str × Addr)) (names:List (Str × NameKind)):List (Str × Addr):=names.foldl (kI cells) []
theorem lK {α β:Type} {f:α->β->Sem (ForInStep β)} {g:β->α->β}:∀ {l:List α} {c:β},(∀ x ∈ l,∀ c,f x c=pure (.yield (g c x)))->forIn l c f=pure (l.foldl g c)
  | [],c,_=>rfl
  | x :: l,c,h=>by
    rw [List.forIn_cons,h x AR,pure_bind]
    exact lK fun y hy=>h y (AS _ hy)
theorem iI {scope:Scope} {env:Env} (h:∀ x ∈ scope.names,x.2=.free->∃ c,env.cells.lookup x.1=some c):closureFor scope env=pure (clo env.cells scope.names):=by
  simp only [closureFor]
  rw [lK (g:=kI env.cells) (fun x hx c=>by
    obtain ⟨n,kind⟩:=x
    unfold kI
    by_cases hk:kind=.free
    · subst hk
      obtain ⟨a,e⟩:=h _ hx rfl
      have e':env.cells.lookup n=some a:=e
      simp [cellOf,e']
    · have hb:(kind == NameKind.free)=false:=by simpa using hk
      simp [hb])]
  rfl
theorem mS {cells:List (Str × Addr)} {x:Str} {c:Addr}:∀ {l:List (Str × NameKind)} {cs:List (Str × Addr)},(∀ y d,cs.lookup y=some d->cells.lookup y=some d)->(l.foldl (kI cells) cs).lookup x=some c->cells.lookup x=some c
  | [],cs,h,e=>h x c e
  | y :: l,cs,h,e=>by
    refine mS (l:=l) (cs:=kI cells cs y) (fun z d q=>?_) e
    unfold kI at q
    split at q
    · cases e2:cells.lookup y.1 with
      | none=>rw [e2] at q;exact h z d q
      | some a =>
        rw [e2] at q
        simp only [List.lookup_cons] at q
        cases hz:z == y.1 with
        | true=>rw [hz] at q;have:=eq_of_beq hz;subst this;rw [e2];exact q
        | false=>rw [hz] at q;exact h z d q
    · exact h z d q
theorem nX {cells:List (Str × Addr)} {l:List (Str × NameKind)} {x:Str} {c:Addr} (e:(clo cells l).lookup x=some c):cells.lookup x=some c:=mS (fun _ _ q=>by simp at q) e
theorem lL {cells:List (Str × Addr)} {x:Str} {c:Addr} (hc:cells.lookup x=some c):∀ {l:List (Str × NameKind)} {cs:List (Str × Addr)},cs.lookup x=some c->(l.foldl (kI cells) cs).lookup x=some c
  | [],_,e=>e
  | y :: l,cs,e=>by
    refine lL hc (l:=l) (cs:=kI cells cs y) ?_
    unfold kI
    split
    · cases e2:cells.lookup y.1 with
      | none=>exact e
      | some a =>
        simp only [List.lookup_cons]
        cases hz:x == y.1 with
        | true=>have:=eq_of_beq hz;subst this;rw [hc] at e2;exact e2.symm
        | false=>exact e
    · exact e
theorem mT {cells:List (Str × Addr)} {x:Str} {c:Addr} (hc:cells.lookup x=some c):∀ {l:List (Str × NameKind)} {cs:List (Str × Addr)},(x,NameKind.free) ∈ l->(l.foldl (kI cells) cs).lookup x=some c
  | [],_,m=>by simp at m
  | y :: l,cs,m=>by
    rcases AX.mp m with rfl | m
    · refine lL hc (l:=l) ?_
      simp [kI,hc]
    · exact mT hc (l:=l) (cs:=kI cells cs y) m
theorem sk {cells:List (Str × Addr)} {l:List (Str × NameKind)} {x:Str} {c:Addr} (hc:cells.lookup x=some c) (m:(x,NameKind.free) ∈ l):(clo cells l).lookup x=some c:=mT hc m
theorem jB {env:Env}:∀ {names:List (Str × NameKind)} {x:Str},names.lookup x=some .free ->
    (names.map fun (n,k)=>if (k == NameKind.free && env.scope.kind == .function && env.kindOf n == some .cell) then (n,NameKind.cell) else (n,k)).lookup x=some .cell \/
    (names.map fun (n,k)=>if (k == NameKind.free && env.scope.kind == .function && env.kindOf n == some .cell) then (n,NameKind.cell) else (n,k)).lookup x=some .free
  | [],_,h=>by simp at h
  | (n,k) :: r,x,h=>by
    have ih:=@jB env r x
    show List.lookup x ((if (k == NameKind.free && env.scope.kind == .function && env.kindOf n == some .cell)=true then (n,NameKind.cell) else (n,k)) :: _)=_ \/
      List.lookup x ((if (k == NameKind.free && env.scope.kind == .function && env.kindOf n == some .cell)=true then (n,NameKind.cell) else (n,k)) :: _)=_
    cases hx:x == n with
    | true =>
      simp only [List.lookup_cons,hx] at h
      cases h
      split
      · left;simp [List.lookup_cons,hx]
      · right;simp [List.lookup_cons,hx]
    | false =>
      simp only [List.lookup_cons,hx] at h
      split
      · simp only [List.lookup_cons,hx];exact ih h
      · simp only [List.lookup_cons,hx];exact ih h
theorem lp {env:Env}:∀ {names:List (Str × NameKind)} {x:Str},(∀ y ∈ names,y.2 ≠ .cell) ->
    ((names.map fun (n,k)=>if (k == NameKind.free && env.scope.kind == .function && env.kindOf n == some .cell) then (n,NameKind.cell) else (n,k)).lookup x=some .cell \/
    (names.map fun (n,k)=>if (k == NameKind.free && env.scope.kind == .function && env.kindOf n == some .cell) then (n,NameKind.cell) else (n,k)).lookup x=some .free)->(x,NameKind.free) ∈ names
  | [],_,_,h=>by simp at h
  | (n,k) :: r,x,hc,h=>by
    have ih:=@lp env r x (fun y hy=>hc y (AS _ hy))
    have hk:=hc (n,k) AR
    have h':List.lookup x ((if (k == NameKind.free && env.scope.kind == .function && env.kindOf n == some .cell)=true then (n,NameKind.cell) else (n,k)) :: (r.map fun (n,k)=>if (k == NameKind.free && env.scope.kind == .function && env.kindOf n == some .cell) then (n,NameKind.cell) else (n,k)))=some .cell \/
      List.lookup x ((if (k == NameKind.free && env.scope.kind == .function && env.kindOf n == some .cell)=true then (n,NameKind.cell) else (n,k)) :: (r.map fun (n,k)=>if (k == NameKind.free && env.scope.kind == .function && env.kindOf n == some .cell) then (n,NameKind.cell) else (n,k)))=some .free:=h
    cases hx:x == n with
    | true =>
      have e:=eq_of_beq hx
      subst e
      by_cases hf:k=.free
      · subst hf;exact AR
      · exfalso
        have hb:(k == NameKind.free)=false:=by simpa using hf
        simp [hb,List.lookup_cons] at h'
        rcases h' with q | q
        · exact hk q
        · exact hf q
    | false =>
      refine AS _ (ih ?_)
      split at h'
      · simpa only [List.lookup_cons,hx] using h'
      · simpa only [List.lookup_cons,hx] using h'
noncomputable def bu (X:Cx) (NY:List Str) (scope:Scope) (s:Shared) (H:Hp) (C:Addr) (fp:List Addr):Cx where
  prog:=X.prog
  w:=X.w
  K:=X.K
  mg:=X.mg
  base:=X.base
  A:=X.A
  N:=NY
  s₀:=s
  H₀:=H
  env:=compEnvC scope (clo X.env.cells scope.names) C X.env
  outer:=X.stack
  stack:=X.stack
  ex:=fp
  fn:=fun _=>false
  calm:=X.calm
  pn:=[]
  xe:=fun _ _=>False
noncomputable def cap (ix:List (Option Nat)) (σ:St):St:=ix.map fun o=>match o with | some i=>(σ[i]?).getD none | none=>none
noncomputable def j7 (sc:Scope) (XN:List Str) (Xsc:Scope) (NY:List Str) (ix:List (Option Nat)):Bool :=
  sc.kind == .function && sc.names.all (fun y=>y.2 != .cell) && sc.names.all (fun y=>y.2 != .local || sc.names.lookup y.1 == some .local) && sc.names.all (fun y=>y.2 != .free || sc.names.lookup y.1 == some .free)
    && sc.names.all (fun y=>y.2 != .free || (Xsc.names.lookup y.1 == some .cell || Xsc.names.lookup y.1 == some .free))
    && ix.length == NY.length && (NY.zip ix).all fun p=>match p.2 with | none=>true | some i=>(XN[i]? == some p.1) && sc.names.contains (p.1,NameKind.free)
structure CompOk (sc:Scope) (XN:List Str) (Xsc:Scope) (NY:List Str) (ix:List (Option Nat)):Prop where
  kind:sc.kind=.function
  nocell:∀ y ∈ sc.names,y.2 ≠ .cell
  loc:∀ y ∈ sc.names,y.2=.local->sc.names.lookup y.1=some .local
  fre:∀ y ∈ sc.names,y.2=.free->sc.names.lookup y.1=some .free
  out:∀ y ∈ sc.names,y.2=.free->Xsc.names.lookup y.1=some .cell\/Xsc.names.lookup y.1=some .free
  len:ix.length=NY.length
  cap:∀ (j:Nat) x i,NY[j]?=some x->ix[j]?=some (some i)->XN[i]?=some x/\(x,NameKind.free) ∈ sc.names
theorem CompOk.of {sc:Scope} {XN:List Str} {Xsc:Scope} {NY:List Str} {ix:List (Option Nat)} (h:j7 sc XN Xsc NY ix=true):CompOk sc XN Xsc NY ix:=by
  simp only [j7,Bool.and_eq_true,List.all_eq_true,beq_iff_eq] at h
  obtain ⟨⟨⟨⟨⟨⟨h1,h2⟩,h3⟩,h4⟩,h5⟩,h6⟩,h7⟩:=h
  refine ⟨h1,fun y hy=>by simpa using h2 y hy,fun y hy e=>?_,fun y hy e=>?_,fun y hy e=>?_,h6,fun j x i e1 e2=>?_⟩
  · have:=h3 y hy;rw [e] at this;simpa using this
  · have:=h4 y hy;rw [e] at this;simpa using this
  · have:=h5 y hy;rw [e] at this;simpa using this
  · have m:(x,some i) ∈ NY.zip ix:=by
      refine A4 (i:=j) ?_
      rw [List.getElem?_zip_eq_some]
      exact ⟨e1,e2⟩
    have:=h7 _ m
    simpa using this
section
variable {X:Cx}
theorem FpOk.of_upd {pins:List (Addr × Obj)} {H:Hp} {b D:Addr} {o:HO} (f:FpOk X pins H b) (h:b ≠ D):FpOk X pins (upd H D o) b:=⟨by rw [aN h];exact f.1,f.2⟩
theorem HOk.track {P:Program} {w:World} {H:Hp} {h:Heap} {a:Addr} {o:HO} (x:HOk P w H h) (hn:H a=none) (new:ObjOk P w (upd H a o) h a o):HOk P w (upd H a o) h:=fun b u e=>by
  by_cases hb:b=a
  · subst hb;rw [bd] at e;cases e;exact new
  · rw [aN hb] at e
    exact (x b u e).stay (fun c v _ q=>q) (fun c q=>by rw [aN (bA q hn)];exact q) fun c xs q=>by rw [aN (bA q hn)];exact q
noncomputable def PTs (Y:Cx) (ifs:List Expr) (t:TT):Prop :=
  ∀ (pins:List (Addr × Obj)) (s:Shared) (σ:St) (H:Hp) (Q:Bool->Hp->Prop),Inv Y pins σ H s->t σ H Q ->
    wpAny (model Y.prog Y.w) Y.A (forIn ifs true fun c r=>if r=true then do let ok <- isTrue c Y.env (eval c Y.env);pure (ForInStep.yield ok) else pure (ForInStep.yield r)) (TP Y pins σ Q) Y.xe s
noncomputable def tYes:TT:=fun _ H Q=>Q true H
theorem xB {Y:Cx}:PTs Y [] tYes:=fun pins s σ H Q I h=>wpAny_tests_nil ⟨H,I,h⟩
theorem xA {Y:Cx} {c:Expr} {t:TT} (h:PT Y c t):PTs Y [c] t:=fun pins s σ H Q I q=>wpAny_tests_one (h pins s σ H Q I q)
noncomputable def p9 (J:It) (g:TG) (tc:TT) (te:TE) (Z:List V->Hp->Prop) (τ0:St) (H1:Hp):Prop :=
  ∃ W:Nat->Nat->List V->St->Hp->Prop,(∃ m,W 0 m [] τ0 H1)/\∀ i m ys τ H,W i m ys τ H->ys.length < sizeLine /\
    ((J.stop i H/\Z ys H)\/(J.go i H/\∃ N:List V->St->Hp->Prop,(∀ ys' τ' H',N ys' τ' H'->∃ m',m' < m/\W (i+1) m' ys' τ' H')/\∀ x H',J.yld i H x H'->g x τ H' fun τ2 H2=>tc τ2 H2 fun b H3 =>
      if b=true then te τ2 H3 fun y H4=>N (ys ++ [y]) τ2 H4 else N ys τ2 H3))
noncomputable def yN (wi:TI) (g:TG) (tc:TT) (te:TE) (ix:List (Option Nat)):TE:=fun σ H Q =>
  wi σ H fun J H1=>p9 J g tc te (fun ys H2=>∀ p,H2 p=none->Q (.ref p) (upd H2 p (.lst ys))) (cap ix σ) H1
theorem qR {NY:List Str} {scope:Scope} {ix:List (Option Nat)} {pins:List (Addr × Obj)} {σ:St} {H:Hp} {s s4:Shared} {fp:List Addr} {C:Addr} (ck:CompOk scope X.N X.env.scope NY ix)
    (I:Inv X pins σ H s) (f:∀ b ∈ fp,FpOk X pins H b) (hC:s.heap.objs.size<=C) (hfp:∀ b ∈ fp,b < s.heap.objs.size) (h4:s4.os=s.os) (hg:s4.gens=s.gens) (keep:∀ b o,s.heap.get? b=some o->s4.heap.get? b=some o)
    (ns:s4.heap.Ns C fun _=>none):Inv (bu X NY scope s H C fp) [] (cap ix σ) H s4:=by
  have fC:FpOk X pins H C:=I.fpOk hC (I.hok.fresh hC)
  have cls:∀ x c,(clo X.env.cells scope.names).lookup x=some c->X.env.cells.lookup x=some c:=fun x c e=>nX e
  have hset:∀ x,(x,NameKind.free) ∈ scope.names->∃ c,X.env.cells.lookup x=some c:=fun x m=>by
    rcases ck.out _ m rfl with q | q
    · exact I.ok.has x (.inl q)
    · exact I.ok.has x (.inr q)
  refine ⟨⟨I.ok.mod,ck.kind,I.ok.glob,I.ok.blt,hC,fun x y c e1 e2=>I.ok.inj x y c (cls x c e1) (cls y c e2),fun x hx=>?_,fun x c e _=>(A9 e).elim,fun e=>I.ok.hd e,I.ok.frames,.inl rfl,fun b hb=>⟨Ba (Bf (hfp b hb) hC),fun x c e=>(f b hb).2.2.2.2.1 x c (cls x c e)⟩,
    I.bs,Bw I.ok.bsz I.sz,fun b o e hb=>?_,fun b hb hz=>?_,I.stack,I.stkFree⟩,h4,by rw [hg];exact I.bare,Un.kept keep,⟨_,ns,fun i x v e1 e2 e3=>?_⟩,fun x c e=>?_,fC.1,fun x c e=>I.freeC x c (cls x c e),fun p hp=>absurd (show p ∈ ([]:List (Addr × Obj)) from hp) (by simp),I.hok.kept keep,?_⟩
  · have m:(x,NameKind.free) ∈ scope.names:=lp ck.nocell hx
    obtain ⟨c,e⟩:=hset x m
    exact ⟨c,sk e m⟩
  · rcases (f b hb).2.2.2.1 with z | z
    · exact I.ok.noex b o e z
    · exact absurd (Bf (AZ e) (Bw I.ok.bsz z)) (Nat.lt_irrefl _)
  · rcases AX.mp (I.stkSub b hz) with e | e
    · exact (f b hb).2.1 e
    · exact (f b hb).2.2.1 e
  · -- a captured name
    have q:∃ k,ix[i]?=some (some k)/\σ[k]?=some (some v):=by
      unfold cap at e2
      rw [A7] at e2
      cases e:ix[i]? with
      | none=>rw [e] at e2;simp at e2
      | some o =>
        rw [e] at e2
        cases o with
        | none=>simp at e2
        | some k =>
          refine ⟨k,rfl,?_⟩
          simp only [Bm,Option.some.injEq] at e2
          cases e':σ[k]? with
          | none=>rw [e'] at e2;simp at e2
          | some o'=>rw [e'] at e2;simp at e2;rw [e2]
    obtain ⟨k,ek,ev⟩:=q
    obtain ⟨eN,m⟩:=ck.cap i x k e1 ek
    obtain ⟨mX,hnX,hl⟩:=I.loc
    have hv:Vis X.env.scope x:=by
      rcases ck.out _ m rfl with q | q
      · exact .inr (.inl q)
      · exact .inr (.inr q)
    obtain ⟨u,r,l⟩:=hl k x v eN ev hv
    refine ⟨u,r,.inr ?_⟩
    rcases l with ⟨kl,_⟩ | ⟨_,c,ec,hc⟩
    · exfalso
      rcases ck.out _ m rfl with q | q
      · have:=kl.symm.trans q;cases this
      · have:=kl.symm.trans q;cases this
    · obtain ⟨o,ho,hd⟩:=hc
      exact ⟨jB (ck.fre _ m rfl),c,sk ec m,o,keep c o ho,hd⟩
  · obtain ⟨v,o,ho,hd⟩:=I.cell x c (cls x c e)
    exact ⟨v,o,keep c o ho,hd⟩
  · show (cap ix σ).length=NY.length
    unfold cap
    rw [A2]
    exact ck.len
set_option tactic.hygienic true in
theorem iH {prog:Program} {w:World} {A:Around} {R:Result->Shared->Prop} {s:Shared} {elt target iter:Expr} {ifs:List Expr} {scope:Scope} {pos:Pos} {it acc:Value} {env:Env} (I:Nat->Shared->Prop)
    (turn:∀ n s,I n s->wpAny (model prog w) A (pyNext it) (fun r s₁=>match r with
      | none=>R (.ok .next) s₁
      | some v=>wpAny (model prog w) A (letOwnedTupleGo target it v) (fun _ s₁'=>wpAny (model prog w) A (assign target env v) (fun _ s₂ =>
          wpAny (model prog w) A (forIn ifs true fun c r=>if r=true then do let ok <- isTrue c env (eval c env);pure (ForInStep.yield ok) else pure (ForInStep.yield r)) (fun ok s₃ =>
            if ok=true then wpAny (model prog w) A (eval elt env) (fun x s₄ =>
              wpAny (model prog w) A (call (.builtin "list.append") [acc,x]) (fun _ s₅=>∃ m,m < n/\I m s₅) (fun _ _=>False) s₄) (fun _ _=>False) s₃
            else ∃ m,m < n/\I m s₃) (fun _ _=>False) s₂) (fun _ _=>False) s₁') (fun _ _=>False) s₁) (fun _ _=>False) s)
    (n:Nat) (h:I n s) :
    codeAny (model prog w) A (.compLoop (.ListComp elt [⟨target,iter,ifs,0⟩] scope pos) 0 it acc env) R s:=by
  refine codeAny_loop rfl I (fun n s hI=>?_) n h
  show wpAny _ A ((compTurn (.ListComp elt [⟨target,iter,ifs,0⟩] scope pos) 0 it acc env).onRaise (fun x=>do noteFrame x env;theTreesLotGoes x)) _ _ s
  refine wpAny_noted ?_
  rw [compTurn_list]
  refine AN (wpAny_standAt (AN (wpAny_mono (turn n s hI) (fun r s₁ h₁=>?_) fun _ _ h'=>h'.elim)))
  cases r with
  | none=>exact AO h₁
  | some v =>
    refine AN (wpAny_mono h₁ (fun _ s₁' h₁'=>?_) fun _ _ h'=>h'.elim)
    refine AN (wpAny_mono h₁' (fun _ s₂ h₂=>AN (wpAny_mono h₂ (fun ok s₃ h₃=>?_) fun _ _ h'=>h'.elim)) fun _ _ h'=>h'.elim)
    cases ok with
    | false=>exact AO ⟨rfl,h₃⟩
    | true =>
      exact AN (AN (wpAny_mono h₃ (fun x s₄ h₄=>AN (wpAny_mono h₄ (fun _ s₅ h₅=>AO (AO ⟨rfl,h₅⟩)) fun _ _ h'=>h'.elim)) fun _ _ h'=>h'.elim))
set_option tactic.hygienic true in
theorem pL {elt tg iter:Expr} {ifs:List Expr} {NY:List Str} {scope:Scope} {ix:List (Option Nat)} {pos:Pos} {pins:List (Addr × Obj)} {σ:St} {H:Hp} {s:Shared} {fp:List Addr} {it:Addr} {tn:Nat->Heap->Prop} {J:It} {g:TG} {tc:TT} {te:TE} {Z:List V->Hp->Prop} {E:Value->Shared->Prop}
    {RR:Value->Addr->Result->Shared->Prop} (hc:X.calm=true) (ck:CompOk scope X.N X.env.scope NY ix)
    (hg:∀ s H C fp,PG (bu X NY scope s H C fp) tg g) (ht:∀ s H C fp,PTs (bu X NY scope s H C fp) ifs tc) (he:∀ s H C fp,PE (bu X NY scope s H C fp) elt te)
    (I:Inv X pins σ H s) (T:Turn X.prog X.w X.K tg J fp it tn) (st:tn 0 s.heap) (f:∀ b ∈ fp,FpOk X pins H b) (hW:p9 J g tc te Z (cap ix σ) H)
    (hRR:∀ D C s' ys H' m,s'.heap.Ns C m->H' D=none->FpOk X pins (upd H' D (.lst ys)) C->Inv X pins σ (upd H' D (.lst ys)) s'->Z ys H'->RR (.ref D) C (.ok .next) s') :
    wpAny (model X.prog X.w) X.A (newList []) (fun acc s₃=>wpAny (model X.prog X.w) X.A (newFunctionEnv scope X.env.globals (clo X.env.cells scope.names) [] X.env.qual none .none (some X.env)) (fun cenv s₄ =>
      codeAny (model X.prog X.w) X.A (.compStart (.ListComp elt [⟨tg,iter,ifs,0⟩] scope pos) 0 (.ref it) acc { cenv with scope:=relabel scope X.env }) (RR acc cenv.locals) s₄) E s₃) E s:=by
  obtain ⟨W,⟨m0,w0⟩,turn⟩:=hW
  refine wpAny_newObj_type (wpAny_newFunctionEnv ck.nocell (by intro y hy;simp at hy) (fun h₁ hns₁ hsb₁=>?_) ck.kind)
  dsimp only at hns₁ hsb₁ ⊢
  generalize hH2:s.heap.push { cls:=.type "list",dict:=none,data:=.seq ([]:List Value).toArray }=H2 at hns₁ hsb₁ ⊢
  have hCs:H2.objs.size=s.heap.objs.size+1:=by rw [<- hH2,Bu]
  have hDC:s.heap.objs.size ≠ H2.objs.size:=by rw [hCs];exact Ba (Nat.lt_succ_self _)
  have hCle:s.heap.objs.size<=H2.objs.size:=by rw [hCs];exact Nat.le_succ _
  generalize hD:s.heap.objs.size=D at *
  generalize hC:H2.objs.size=C at *
  have below:∀ b o,s.heap.get? b=some o->b < D:=fun b o e=>by rw [<- hD];exact AZ e
  have old:∀ b o,s.heap.get? b=some o->h₁.get? b=some o:=fun b o e=>hsb₁.extBut b o (Ba (Bf (below b o e) hCle)) (AT _ (hH2 ▸ AT _ e))
  have hacc0:H2.get? D=some { cls:=.type "list",dict:=none,data:=.seq ([]:List Value).toArray }:=by
    rw [<- hH2,<- hD];exact A1 _ rfl
  have hacc:h₁.PlainList D #[]:=⟨_,hsb₁.extBut _ _ hDC (AT _ hacc0)⟩
  have hfp:∀ b ∈ fp,b < s.heap.objs.size:=fun b hb=>by
    obtain ⟨o,e,_⟩:=T.obj 0 _ st b hb
    exact AZ e
  have hfpD:∀ b ∈ fp,b < D:=fun b hb=>by rw [<- hD];exact hfp b hb
  have IY:Inv (bu X NY scope s H C fp) [] (cap ix σ) H { s with heap:=h₁,toks:=s.toks+([]:List (Str × Value)).length } :=
    qR ck I f (by rw [hD];exact hCle) hfp rfl rfl old hns₁
  have HDn:H D=none:=I.hok.fresh (by rw [hD];exact A8 _)
  have stackLt:∀ b ∈ frs X.stack,b < D:=fun b hb=>by
    obtain ⟨_,o,ho,_⟩:=I.stack.mem hb
    exact below b o ho
  have loop:∀ s₃:Shared,s₃ = { s with heap:=h₁,toks:=s.toks+([]:List (Str × Value)).length } ->
      codeAny (model X.prog X.w) X.A (.compLoop (.ListComp elt [⟨tg,iter,ifs,0⟩] scope pos) 0 (.ref it) (.ref D) (bu X NY scope s H C fp).env) (RR (.ref D) C) s₃:=by
    rintro s₃ rfl
    refine iH (fun n s'=>∃ i ys τ H' its,Inv (bu X NY scope s H C fp) [] τ H' s'/\H' D=none/\s'.heap.PlainList D its/\Vals ys its.toList/\tn i s'.heap/\(∀ b ∈ fp,H' b=none)/\W i n ys τ H') ?_ m0
      ⟨0,[],cap ix σ,H,#[],IY,HDn,hacc,.nil,T.keep _ _ _ st fun b _ o e=>old b o e,fun b hb=>(f b hb).1,w0⟩
    rintro n s3 ⟨i,ys,τ,H3,its,I3,d3,l3,v3,st3,fr3,w3⟩
    obtain ⟨nl,e3⟩:=id l3
    have I3p:Inv (bu X NY scope s H C fp) [(D,{ cls:=.type "list",data:=.seq its nl })] τ H3 s3:=I3.pins_of fun p hp=>by
      have e:p=(D,{ cls:=.type "list",data:=.seq its nl }):=by simpa using hp
      subst e
      exact ⟨e3,d3,hDC,fun z=>Nat.lt_irrefl _ (stackLt D z),fun v z=>by cases z⟩
    have fpo:∀ {H':Hp} {pl:List (Addr × Obj)},(∀ b ∈ fp,H' b=none)->(∀ p ∈ pl,p.1=D)->∀ b ∈ fp,FpOk (bu X NY scope s H C fp) pl H' b:=fun hn hp b hb =>
      ⟨hn b hb,Ba (Bf (hfpD b hb) hCle),fun z=>by
        rcases AX.mp (I.stkSub b z) with e | e
        · exact (f b hb).2.1 e
        · exact (f b hb).2.2.1 e,.inl hb,fun x c e=>(f b hb).2.2.2.2.1 x c (nX e),fun p hp'=>by
        have e:p.1=D:=hp p ((A0.mp hp').elim (fun z=>absurd (show p ∈ ([]:List (Addr × Obj)) from z) (by simp)) fun z=>z)
        rw [e]
        exact Nat.ne_of_gt (hfpD b hb)⟩
    obtain ⟨zl,step⟩:=turn i n ys τ H3 w3
    have single:∀ p ∈ [(D,({ cls:=.type "list",data:=.seq its nl }:Obj))],p.1=D:=fun p hp=>by
      have e:p=(D,{ cls:=.type "list",data:=.seq its nl }):=by simpa using hp
      rw [e]
    rcases step with ⟨stop,qn⟩ | ⟨go,N,hN,step⟩
    · refine wpAny_mono (T.done (bu X NY scope s H C fp) rfl rfl rfl hc i _ s3 τ H3 (fun _ _=>False) I3p (fpo fr3 single) st3 stop) (fun r s4 ⟨hr,I4⟩=>?_) fun _ _ e=>e
      subst hr
      obtain ⟨mC,hnC,_⟩:=id I4.loc
      obtain ⟨e4,d4,_⟩:=I4.pin (D,{ cls:=.type "list",data:=.seq its nl }) (by simp [bu])
      have lt4:∀ b o,s.heap.get? b=some o->b ≠ D:=fun b o e=>Ba (below b o e)
      have u4:=I4.base
      refine hRR D C s4 ys H3 mC hnC d4 ?_ ?_ qn
      · exact (I.fpOk (by rw [hD];exact hCle) (by exact I4.free)).of_upd (Ne.symm hDC)
      · refine I.call' (ch:=fp) I4.os (H':=upd H3 D (.lst ys)) ⟨u4.keep,u4.slot,fun b o e n hx=>?_,u4.there,fun b xs e=>?_,fun b o u e=>?_,fun b ps e=>?_⟩ ?_ I4.bare fun b hb=>?_
        · rw [aN (lt4 b o e)];exact u4.free b o e n hx
        · have q:=u4.tups b xs e;rw [aN (bA q d4)];exact q
        · have q:=u4.frzs b o u e;rw [aN (bA q d4)];exact q
        · obtain ⟨more,q⟩:=u4.tbls b ps e;exact ⟨more,by rw [aN (bA q d4)];exact q⟩
        · exact I4.hok.track d4 ⟨Nat.le_of_lt zl,its.toList,nl,v3,by simpa using e4⟩
        · exact ⟨(f b hb).2.2.2.1,(f b hb).2.1,(f b hb).2.2.2.2.1,(f b hb).2.2.2.2.2⟩
    · refine wpAny_mono (T.item (bu X NY scope s H C fp) rfl rfl rfl hc i _ s3 τ H3 (fun _ _=>False) I3p (fpo fr3 single) st3 go) (fun r s4 ⟨u,hr,h4⟩=>?_) fun _ _ e=>e
      subst hr
      refine wpAny_mono h4 (fun _ s5 ⟨x,H5,I5,r5,y5,st5,fr5⟩=>?_) fun _ _ e=>e
      have I5':=I5.pinned (fpo fr5 single) (T.obj _ _ st5)
      refine wpAny_mono (hg s H C fp _ s5 τ H5 x u _ I5' r5 (step x H5 y5)) (fun _ s6 ⟨τ6,H6,I6,q6⟩=>?_) fun _ _ e=>e
      refine wpAny_mono (ht s H C fp _ s6 τ6 H6 _ I6 q6) (fun b s7 ⟨H7,I7,q7⟩=>?_) fun _ _ e=>e
      have after:∀ {s':Shared} {H':Hp},Inv (bu X NY scope s H C fp) ([(D,{ cls:=.type "list",data:=.seq its nl })] ++ ls fp s5.heap) τ6 H' s'->tn (i+1) s'.heap/\(∀ b ∈ fp,H' b=none)/\H' D=none/\s'.heap.PlainList D its:=fun {s' H'} I' =>
        ⟨T.keep _ _ _ st5 fun b hb o e=>(I'.pin (b,o) (AW _ (AW _ (gE hb e)))).1,fun b hb=>by
          obtain ⟨o,e,d⟩:=T.obj _ _ st5 b hb
          exact (I'.pin (b,o) (AW _ (AW _ (gE hb e)))).2.1,(I'.pin (D,_) (AW _ (AV _ (Bp.mpr rfl)))).2.1,
          nl,(I'.pin (D,_) (AW _ (AV _ (Bp.mpr rfl)))).1⟩
      cases b with
      | false =>
        rw [if_neg A9]
        rw [if_neg A9] at q7
        obtain ⟨m',hm,w7⟩:=hN _ _ _ q7
        obtain ⟨a1,a2,a3,a4⟩:=after I7
        exact ⟨m',hm,i+1,ys,τ6,H7,its,I7.pins_of (fun _ z=>absurd z (by simp)),a3,a4,v3,a1,a2,w7⟩
      | true =>
        rw [if_pos rfl]
        rw [if_pos rfl] at q7
        refine wpAny_mono (he s H C fp _ s7 τ6 H7 _ I7 q7) (fun y s8 ⟨yv,H8,I8,r8,n8⟩=>?_) fun _ _ e=>e
        obtain ⟨m',hm,w8⟩:=hN _ _ _ n8
        obtain ⟨a1,a2,a3,a4⟩:=after I8
        have hsz0:ys.length=its.size:=by simpa using v3.length
        have hsz:its.size<=sizeLine:=by omega
        refine wpAny_list_append_plain (hsz:=hsz) a4 fun h9 l9 sb9=>?_
        have I9:Inv (bu X NY scope s H C fp) [] τ6 H8 { s8 with heap:=h9,toks:=s8.toks }:=(I8.pins_of (pins':=[]) fun _ z=>absurd z (by simp)).turned (it:=D) (fun b o hb e=>(sb9.2 b hb).trans e) a3 hDC (.inr (by show s.heap.objs.size<=D;rw [hD];exact A8 _)) (fun x c e z=>?_) fun p z=>absurd (show p ∈ ([]:List (Addr × Obj)) from z) (by simp)
        · refine ⟨m',hm,i+1,ys ++ [yv],τ6,H8,its.push y,I9,a3,l9,?_,T.keep _ _ _ a1 fun b hb o e=>(sb9.2 b (Ba (hfpD b hb))).trans e,a2,w8⟩
          rw [Array.toList_push]
          exact v3.append (.cons r8 .nil)
        · obtain ⟨v,o,ho,_⟩:=I.cell x c (nX e)
          exact Nat.lt_irrefl _ (z ▸ below c o ho)
  exact codeAny_compStart_list (loop _ rfl) (T.self X.A 0 _ _ _ (T.keep _ _ _ st fun b _ o e=>old b o e) (loop _ rfl))
theorem xL {elt tg iter:Expr} {ifs:List Expr} {scope:Scope} {pos:Pos} {wi:TI} {g:TG} {tc:TT} {te:TE} (NY:List Str) (ix:List (Option Nat)) (hc:X.calm=true) (hi:PI X tg iter wi)
    (hg:∀ s H C fp,PG (bu X NY scope s H C fp) tg g) (ht:∀ s H C fp,PTs (bu X NY scope s H C fp) ifs tc) (he:∀ s H C fp,PE (bu X NY scope s H C fp) elt te)
    (ck:j7 scope X.N X.env.scope NY ix=true) (hs:∀ x,foldedSetIterable iter X.env x=pure x:=by intro _;rfl):PE X (.ListComp elt [⟨tg,iter,ifs,0⟩] scope pos) (yN wi g tc te ix):=by
  intro pins s σ H Q I h
  have ck:=CompOk.of ck
  rw [eval_ListComp]
  refine wpAny_comprehension_free (use:=none) rfl hs (iI (scope:=scope) (env:=X.env) fun x m e=>?_) ck.kind ck.loc (thn (hi pins s σ H _ I h) fun v s1 h1=>thn h1 fun itv s2 h2=>?_)
  · rcases ck.out x m e with q | q
    · exact I.ok.has x.1 (.inl q)
    · exact I.ok.has x.1 (.inr q)
  · obtain ⟨it,fp,tn,J,H2,e,I2,T,st2,f2,hW⟩:=h2
    subst e
    refine pL (RR:=fun acc C=>compPost (model X.prog X.w) X.A X.xe none (EP X pins σ Q) acc C) hc ck hg ht he I2 T st2 f2 hW ?_
    intro D C s' ys H' m hn hD fC I' hZ
    obtain ⟨f0,f1,f2,f3,f4,f5⟩:=fC
    exact ⟨m,hn,fun h' sb=>⟨.ref D,_,I'.turned (t':=s'.toks) (fun b o hb e=>(sb.2 b hb).trans e) f0 f1 f3 f4 f5,rfl,hZ D hD⟩⟩
noncomputable def yQ (i:Nat) (wi:TI) (g:TG) (tc:TT) (te:TE) (ix:List (Option Nat)):TS:=fun D σ H =>
  wi σ H fun J H1=>p9 J g tc te (fun ys H2=>∀ p,H2 p=none->D.nx (σ.set i (some (.ref p))) (upd H2 p (.lst ys))) (cap ix σ) H1
set_option tactic.hygienic true in
theorem qr {i:Nat} {y:Str} {py spos:Pos} {elt tg iter:Expr} {ifs:List Expr} {scope:Scope} {pos:Pos} {wi:TI} {g:TG} {tc:TT} {te:TE} (hN:X.N.Nodup) (hy:X.N[i]?=some y) (hx:Loc X.env.scope y) (NY:List Str) (ix:List (Option Nat)) (hc:X.calm=true) (hi:PI X tg iter wi)
    (hg:∀ s H C fp,PG (bu X NY scope s H C fp) tg g) (ht:∀ s H C fp,PTs (bu X NY scope s H C fp) ifs tc) (he:∀ s H C fp,PE (bu X NY scope s H C fp) elt te)
    (ck:j7 scope X.N X.env.scope NY ix=true)
    (hsw:swapsWith (.ListComp elt [⟨tg,iter,ifs,0⟩] scope pos) (some (.Name y py)) spos.line X.env=pure true:=by rfl)
    (hf:X.fn y=true\/X.env.scope.names.lookup y=some .local:=by first | exact .inl rfl | exact .inr rfl | assumption)
    (hs:∀ x,foldedSetIterable iter X.env x=pure x:=by intro _;rfl):PS X (.Assign [.Name y py] (.ListComp elt [⟨tg,iter,ifs,0⟩] scope pos) spos) (yQ i wi g tc te ix):=by
  intro pins s σ H D I h
  have ck:=CompOk.of ck
  rw [exec_Assign_Name_used _ _ _ _ hsw]
  refine AN (wpAny_standAt (AN ?_))
  show wpAny _ X.A (do let _ <- comprehension (.ListComp elt [⟨tg,iter,ifs,0⟩] scope pos) scope X.env _ (newList []) false (eval iter X.env) (some (assign (.Name y py) X.env))) _ _ s
  refine AN (wpAny_mono (wpAny_comprehension_free (use:=some (assign (.Name y py) X.env)) (Q:=fun _ s'=>SP X pins D .next s') rfl hs (iI (scope:=scope) (env:=X.env) fun x m e=>?_) ck.kind ck.loc
    (thn (hi pins s σ H _ I h) fun v s1 h1=>thn h1 fun itv s2 h2=>?_)) (fun _ s' hq=>AO (AO hq)) fun _ _ e=>e)
  · rcases ck.out x m e with q | q
    · exact I.ok.has x.1 (.inl q)
    · exact I.ok.has x.1 (.inr q)
  · obtain ⟨it,fp,tn,J,H2,e,I2,T,st2,f2,hW⟩:=h2
    subst e
    refine pL (RR:=fun acc C=>compPost (model X.prog X.w) X.A X.xe (some (assign (.Name y py) X.env)) (fun _ s'=>SP X pins D .next s') acc C) hc ck hg ht he I2 T st2 f2 hW ?_
    intro D' C s' ys H' m hn hD fC I' hZ
    obtain ⟨f0,f1,f2,f3,f4,f5⟩:=fC
    show wpAny _ X.A (assign (.Name y py) X.env (.ref D')) _ _ _
    refine wpAny_assign_Name (mx I' hN hy hx (v:=.ref D') rfl (fun s'' I'' ⟨a,sb,ha⟩=>?_) hf)
    have hCa:C ≠ a:=by
      rcases ha with e | e
      · rw [e];exact f1
      · exact fun z=>f4 y a e z.symm
    exact ⟨m,hn.sameBut sb hCa,fun h' sb'=>⟨_,_,I''.turned (t':=s''.toks) (fun b o hb e=>(sb'.2 b hb).trans e) f0 f1 f3 f4 f5,hZ D' hD⟩⟩
end
end L2
end
section
namespace L2
open PySem PySem.Spec PyProof.Rows
section
variable {X:Cx}
inductive KindOf (K:FG) (H:Hp):V->String->Prop
  | int (i:Int):KindOf K H (.int i) "int"
  | bool (b:Bool):KindOf K H (.bl b) "bool"
  | str (x:Str):KindOf K H (.str x) "str"
  | non:KindOf K H .non "NoneType"
  | tuple {a:Addr} {xs:List V}:SqT K H a xs->KindOf K H (.ref a) "tuple"
  | list {a:Addr} {xs:List V}:SqL K H a xs->KindOf K H (.ref a) "list"
  | dK {a:Addr} {kvs}:H a=some (.dK kvs)->KindOf K H (.ref a) "dict"
  | dT {a:Addr} {kvs}:H a=some (.dT kvs)->KindOf K H (.ref a) "dict"
noncomputable def pB (k t:String):Bool:=k == t || (k == "bool" && t == "int")
theorem Inv.clsK {pins:List (Addr × Obj)} {s:Shared} {σ:St} {H:Hp} {a:Addr} {k:String} (I:Inv X pins σ H s) (h:KindOf X.K H (.ref a) k):∃ o,s.heap.get? a=some o/\o.cls=.type k:=by
  cases h with
  | tuple h=>obtain ⟨its,_,⟨o,e,c,_⟩,_⟩:=I.tuple h;exact ⟨o,e,c⟩
  | list h=>obtain ⟨its,_,⟨o,n,e,c,_⟩,_⟩:=I.list h;exact ⟨o,e,c⟩
  | dK h=>obtain ⟨_,_,_,_,o,_,_,e,c,_⟩:=I.hok a _ h;exact ⟨o,e,c.1⟩
  | dT h=>obtain ⟨_,_,_,_,o,_,_,e,c,_⟩:=I.hok a _ h;exact ⟨o,e,c.1⟩
theorem jO:dJ X (.builtin "isinstance") (fun xs H Q=>∃ x k,xs=[x,.ty "int"]/\KindOf X.K H x k/\Q (.bl (pB k "int")) H):=by
  intro pins s σ H xs us Q I r h
  obtain ⟨x,k,rfl,hk,q⟩:=h
  obtain ⟨u,v,rfl,ru,rv⟩:=mm r
  cases (show v=Value.type "int" from rv)
  cases hk with
  | int i=>obtain ⟨tk,rfl⟩:=ru;exact IsiPair.int_int ⟨.bl true,H,I,rfl,q⟩
  | bool b=>cases (show u=Value.bool b from ru);exact IsiPair.bool_int ⟨.bl true,H,I,rfl,q⟩
  | str z=>obtain ⟨tk,rfl⟩:=ru;exact IsiPair.str_int ⟨.bl false,H,I.tok _,rfl,q⟩
  | non=>cases (show u=Value.none from ru);exact IsiPair.NoneType_int ⟨.bl false,H,I.tok _,rfl,q⟩
  | tuple hh=>cases ru;obtain ⟨o,e,c⟩:=I.clsK (.tuple hh);exact IsiPair.tuple_int e c ⟨.bl false,H,I.tok _,rfl,q⟩
  | list hh=>cases ru;obtain ⟨o,e,c⟩:=I.clsK (.list hh);exact IsiPair.list_int e c ⟨.bl false,H,I.tok _,rfl,q⟩
  | dK hh=>cases ru;obtain ⟨o,e,c⟩:=I.clsK (.dK hh);exact IsiPair.dict_int e c ⟨.bl false,H,I.tok _,rfl,q⟩
  | dT hh=>cases ru;obtain ⟨o,e,c⟩:=I.clsK (.dT hh);exact IsiPair.dict_int e c ⟨.bl false,H,I.tok _,rfl,q⟩
theorem f9:dJ X (.builtin "isinstance") (fun xs H Q=>∃ x k,xs=[x,.ty "bool"]/\KindOf X.K H x k/\Q (.bl (pB k "bool")) H):=by
  intro pins s σ H xs us Q I r h
  obtain ⟨x,k,rfl,hk,q⟩:=h
  obtain ⟨u,v,rfl,ru,rv⟩:=mm r
  cases (show v=Value.type "bool" from rv)
  cases hk with
  | int i=>obtain ⟨tk,rfl⟩:=ru;exact IsiPair.int_bool ⟨.bl false,H,I.tok _,rfl,q⟩
  | bool b=>cases (show u=Value.bool b from ru);exact IsiPair.bool_bool ⟨.bl true,H,I,rfl,q⟩
  | str z=>obtain ⟨tk,rfl⟩:=ru;exact IsiPair.str_bool ⟨.bl false,H,I.tok _,rfl,q⟩
  | non=>cases (show u=Value.none from ru);exact IsiPair.NoneType_bool ⟨.bl false,H,I.tok _,rfl,q⟩
  | tuple hh=>cases ru;obtain ⟨o,e,c⟩:=I.clsK (.tuple hh);exact IsiPair.tuple_bool e c ⟨.bl false,H,I.tok _,rfl,q⟩
  | list hh=>cases ru;obtain ⟨o,e,c⟩:=I.clsK (.list hh);exact IsiPair.list_bool e c ⟨.bl false,H,I.tok _,rfl,q⟩
  | dK hh=>cases ru;obtain ⟨o,e,c⟩:=I.clsK (.dK hh);exact IsiPair.dict_bool e c ⟨.bl false,H,I.tok _,rfl,q⟩
  | dT hh=>cases ru;obtain ⟨o,e,c⟩:=I.clsK (.dT hh);exact IsiPair.dict_bool e c ⟨.bl false,H,I.tok _,rfl,q⟩
theorem dC:dJ X (.builtin "isinstance") (fun xs H Q=>∃ x k,xs=[x,.ty "tuple"]/\KindOf X.K H x k/\Q (.bl (pB k "tuple")) H):=by
  intro pins s σ H xs us Q I r h
  obtain ⟨x,k,rfl,hk,q⟩:=h
  obtain ⟨u,v,rfl,ru,rv⟩:=mm r
  cases (show v=Value.type "tuple" from rv)
  cases hk with
  | int i=>obtain ⟨tk,rfl⟩:=ru;exact IsiPair.int_tuple ⟨.bl false,H,I.tok _,rfl,q⟩
  | bool b=>cases (show u=Value.bool b from ru);exact IsiPair.bool_tuple ⟨.bl false,H,I.tok _,rfl,q⟩
  | str z=>obtain ⟨tk,rfl⟩:=ru;exact IsiPair.str_tuple ⟨.bl false,H,I.tok _,rfl,q⟩
  | non=>cases (show u=Value.none from ru);exact IsiPair.NoneType_tuple ⟨.bl false,H,I.tok _,rfl,q⟩
  | tuple hh=>cases ru;obtain ⟨o,e,c⟩:=I.clsK (.tuple hh);exact IsiPair.tuple_tuple e c ⟨.bl true,H,I,rfl,q⟩
  | list hh=>cases ru;obtain ⟨o,e,c⟩:=I.clsK (.list hh);exact IsiPair.list_tuple e c ⟨.bl false,H,I.tok _,rfl,q⟩
  | dK hh=>cases ru;obtain ⟨o,e,c⟩:=I.clsK (.dK hh);exact IsiPair.dict_tuple e c ⟨.bl false,H,I.tok _,rfl,q⟩
  | dT hh=>cases ru;obtain ⟨o,e,c⟩:=I.clsK (.dT hh);exact IsiPair.dict_tuple e c ⟨.bl false,H,I.tok _,rfl,q⟩
theorem uh {bs:List Bool}:((List.range bs.length).all fun i=>bs.getD i false)=bs.all id:=by
  rw [Bool.eq_iff_iff]
  simp only [List.all_eq_true,List.mem_range,id]
  constructor
  · intro h b hb
    obtain ⟨i,hi,rfl⟩:=List.mem_iff_getElem.mp hb
    simpa [List.getD,hi] using h i hi
  · intro h i hi
    simpa [List.getD,hi] using h _ (List.getElem_mem hi)
theorem ee (hc:X.calm=true):dJ X (.builtin "all") (fun xs H Q=>∃ (a:Addr) (bs:List Bool),xs=[.ref a]/\SqL X.K H a (bs.map V.bl)/\Q (.bl (bs.all id)) H):=by
  intro pins s σ H xs us Q I r h
  obtain ⟨a,bs,rfl,hq,q⟩:=h
  obtain ⟨u,rfl,ru⟩:=kh r
  cases ru
  obtain ⟨its,rv,p,hz⟩:=I.list hq
  have hl:=rv.length
  rw [A2] at hl
  have hlt:a < s.heap.objs.size:=by obtain ⟨o,_,e,_⟩:=id p;exact AZ e
  refine call_all_walk (wpAny_pyIter_list p.isList ?_)
  refine ⟨s.heap.objs.size,_,_,_,_,_,fun i=>bs.getD i false,rfl,Walks.list (show X.A.in1.handled=none from I.ok.hd hc) s.heap.objs.size a (Ba hlt) its.toArray,⟨⟨_,A1 _ rfl,rfl,rfl⟩,p.isList.at fun o e=>AT _ e⟩,?_,?_⟩
  · intro i v s' Q' E' hv hQ'
    have hv':its[i]?=some v:=by simpa using hv
    have hi:i < bs.length:=by
      have:=(A3.mp hv').1
      omega
    obtain ⟨u,hu,ru⟩:=rv.get (i:=i) (x:=V.bl (bs[i])) (by simp [hi])
    rw [hv'] at hu
    cases hu
    cases (show v=Value.bool bs[i] from ru)
    refine Bv ?_
    have e:bs.getD i false=bs[i]:=by simp [List.getD,hi]
    have hQ2:Q' (bs.getD i false) s':=hQ'
    rw [e] at hQ2
    exact hQ2
  · intro h' tk hk
    have I1:Inv X pins σ H { s with heap:=h',toks:=tk }:=I.kept fun b o e=>hk b o (by
      intro hm
      have e':b=s.heap.objs.size:=by simpa using hm
      exact absurd (e' ▸ AZ e) (Nat.lt_irrefl _)) (AT _ e)
    refine ⟨.bl (bs.all id),H,I1,?_,q⟩
    show Value.bool _=Value.bool _
    rw [Bb,<- hl,uh]
end
end L2
end
section
namespace L2
open PySem PySem.Spec PyProof.Rows
structure Callee (P:Program) (w:World) (K:FG) (mg:Str->Option Value) (base:Heap) (x:Str) (k:Nat) (ps:List Str) (sp:Sp):Prop where
  ex:∃ (f:Addr) (fd:FuncData),FnOk P w K mg base CX0 k f fd ps sp/\mg x=some (.ref f)/\PySem.W.keepIn K (.ref f)=true/\Binds K fd ps []
structure DefAt (K:FG) (mg:Str->Option Value) (x:Str) (st:Stmt) (f:Addr) (fd:FuncData):Prop where
  fn:Fun K x x st f fd
  mg:mg x=some (.ref f)
noncomputable def Def (K:FG) (mg:Str->Option Value) (x:Str) (st:Stmt):Prop:=∃ f fd,DefAt K mg x st f fd
theorem Def.callee {P:Program} {w:World} {K:FG} {mg:Str->Option Value} {base:Heap} {x:Str} {st:Stmt} {k:Nat} {ps:List Str} {sp:Sp} (D:Def K mg x st)
    (hb:∀ (kV doc pm:Value) (an:Option Addr) (cdv ct:Value) (us:List Value),us.length=ps.length->bindArgs (PySem.W.fnOf x x (bG st) (bo st) (ak st) .none kV doc pm an cdv ct) ⟨us,[]⟩=pure (ps.zip us))
    (h:∀ f fd,Fun K x x st f fd->FnOk P w K mg base CX0 k f fd ps sp):Callee P w K mg base x k ps sp :=
  let ⟨f,fd,d⟩:=D
  ⟨f,fd,h f fd d.fn,d.mg,d.fn.kp,d.fn.binds hb⟩
section
variable {X:Cx} {x:Str} {p pos:Pos} {e:Expr} {es:List Expr} {t:TA} {k:Nat} {ps:List Str} {sp:Sp}
noncomputable def tFn (sp:Sp) (t:TA):TE:=fun σ H Q=>t σ H fun vs H1=>sp vs H1 Q E0
theorem pe_fn (c:Callee X.prog X.w X.K X.mg X.base x k ps sp) (hr:Room k X.A) (ha:PA X (e :: es) t) (hg:Gl X x:=by rfl) (hdb:(x == ("__debug__":Str))=false:=by decide)
    (he:starEach (e :: es) X.env=(false,eval e X.env) :: starEach es X.env:=by rfl) (hpl:(backTo pos (starEach es X.env)).any (·.1)=false:=by rfl):PE X (.Call (.Name x p) (e :: es) [] pos) (tFn sp t):=by
  obtain ⟨f,fd,F,hm,hk,hb⟩:=c.ex
  have h:=xN (pos:=pos) (p:=p) (dvs:=[]) (E:=E0) F hr hg hm hk hb .nil pass0 ha hdb he hpl
  intro pins s σ H Q I q
  refine h pins s σ H Q I ?_
  show t σ H fun vs H1=>sp (vs ++ []) H1 Q E0
  have q':t σ H (fun vs H1=>sp vs H1 Q E0):=q
  simpa using q'
end
noncomputable def But (p:Addr) (H H':Hp):Prop:=∀ b o,H b=some o->b ≠ p->H' b=some o
theorem But.trans {p:Addr} {H H1 H2:Hp} (a:But p H H1) (b:But p H1 H2):But p H H2:=fun c o h n=>b c o (a c o h n) n
noncomputable abbrev Pt:=Int × Int
noncomputable def aZ (p q r:Pt):Int:=(q.1 - p.1) * (r.2 - p.2) - (q.2 - p.2) * (r.1 - p.1)
noncomputable def Small (p:Pt):Prop:=-(2 ^ 62) < p.1/\p.1 < 2 ^ 62/\-(2 ^ 62) < p.2/\p.2 < 2 ^ 62
noncomputable def Rising (ps:List Pt):Prop:=∀ (i j:Nat) (p q:Pt),i < j->ps[i]?=some p->ps[j]?=some q->p.1 < q.1
noncomputable def NoLine (ps:List Pt):Prop:=∀ (i j k:Nat) (p q r:Pt),i < j->j < k->ps[i]?=some p->ps[j]?=some q->ps[k]?=some r->aZ p q r ≠ 0
structure GoodSh (ps:List Pt):Prop where
  pos:0 < ps.length
  most:ps.length<=24
  small:∀ p ∈ ps,Small p
  rising:Rising ps
  noline:NoLine ps
noncomputable def km:List Pt->List (Pt × Pt)
  | []=>[]
  | p :: r=>r.map (fun q=>(p,q)) ++ km r
theorem mK:∀ {ps:List Pt} {i j:Nat} {p q:Pt},i < j->ps[i]?=some p->ps[j]?=some q->(p,q) ∈ km ps
  | [],_,_,_,_,_,h,_=>by simp at h
  | a :: r,0,0,_,_,h,_,_=>by omega
  | a :: r,0,j+1,p,q,_,h1,h2=>by
    simp at h1 h2;subst h1
    exact AV _ (A6.mpr ⟨q,A4 h2,rfl⟩)
  | a :: r,i+1,0,_,_,h,_,_=>by omega
  | a :: r,i+1,j+1,p,q,h,h1,h2=>AW _ (mK (ps:=r) (i:=i) (j:=j) (by omega) (by simpa using h1) (by simpa using h2))
theorem oZ:∀ {ps:List Pt} {p q:Pt},(p,q) ∈ km ps->∃ i j:Nat,i < j/\ps[i]?=some p/\ps[j]?=some q
  | [],_,_,h=>by simp [km] at h
  | a :: r,p,q,h=>by
    rcases A0.mp h with h | h
    · obtain ⟨z,hz,e⟩:=A6.mp h
      cases e
      obtain ⟨j,hj,e⟩:=List.mem_iff_getElem.mp hz
      exact ⟨0,j+1,by omega,rfl,by simp [hj,e]⟩
    · obtain ⟨i,j,h0,h1,h2⟩:=oZ h
      exact ⟨i+1,j+1,by omega,by simpa using h1,by simpa using h2⟩
theorem mH:∀ ps:List Pt,(km ps).length<=ps.length * ps.length
  | []=>by simp [km]
  | a :: r=>by
    have ih:=mH r
    simp only [km,Bi,A2,Bj]
    have:(r.length+1) * (r.length+1)=r.length * r.length+2 * r.length+1:=by
      rw [Nat.add_mul,Nat.mul_add];omega
    omega
noncomputable def rm (ps:List Pt) (z:Pt):Prop:=∀ (i j:Nat) (p q:Pt),i < j->ps[i]?=some p->ps[j]?=some q->aZ p q z ≠ 0
noncomputable def above (ps:List Pt) (x y:Int):Nat:=((km ps).filter fun pr=>decide (aZ pr.1 pr.2 (x,y)<=0)).length
theorem wq {α:Type} {p q:α->Bool}:∀ {l:List α},(∀ a ∈ l,p a=true->q a=true)->(l.filter p).length<=(l.filter q).length
  | [],_=>by simp
  | a :: l,h=>by
    have ih:=wq (l:=l) fun b hb=>h b (AS _ hb)
    have ha:=h a AR
    cases hp:p a with
    | true=>rw [List.filter_cons_of_pos hp,List.filter_cons_of_pos (ha hp)];simpa using ih
    | false =>
      rw [List.filter_cons_of_neg (by simp [hp])]
      cases hq:q a with
      | true=>rw [List.filter_cons_of_pos hq];simp;omega
      | false=>rw [List.filter_cons_of_neg (by simp [hq])];exact ih
theorem wo {α:Type} {p q:α->Bool}:∀ {l:List α} {z:α},(∀ a ∈ l,p a=true->q a=true)->z ∈ l->q z=true->p z=false->(l.filter p).length < (l.filter q).length
  | [],_,_,hz,_,_=>by simp at hz
  | a :: l,z,h,hz,h1,h2=>by
    have hl:∀ b ∈ l,p b=true->q b=true:=fun b hb=>h b (AS _ hb)
    rcases AX.mp hz with rfl | hz
    · rw [List.filter_cons_of_neg (by simp [h2]),List.filter_cons_of_pos h1]
      have:=wq hl
      simp;omega
    · have ih:=wo hl hz h1 h2
      have ha:=h a AR
      cases hp:p a with
      | true=>rw [List.filter_cons_of_pos hp,List.filter_cons_of_pos (ha hp)];simpa using ih
      | false =>
        rw [List.filter_cons_of_neg (by simp [hp])]
        cases hq:q a with
        | true=>rw [List.filter_cons_of_pos hq];simp;omega
        | false=>rw [List.filter_cons_of_neg (by simp [hq])];exact ih
theorem sA (p q:Pt) (x y:Int):aZ p q (x,y+1)=aZ p q (x,y)+(q.1 - p.1):=by
  unfold aZ
  have e:(q.1 - p.1) * (y+1 - p.2)=(q.1 - p.1) * (y - p.2)+(q.1 - p.1):=by
    rw [show y+1 - p.2=(y - p.2)+1 by omega,Int.mul_add,Int.mul_one]
  show (q.1 - p.1) * (y+1 - p.2) - (q.2 - p.2) * (x - p.1)=(q.1 - p.1) * (y - p.2) - (q.2 - p.2) * (x - p.1)+(q.1 - p.1)
  rw [e];omega
theorem p8 {ps:List Pt} {x y:Int} (R:Rising ps) {i j:Nat} {p q:Pt} (hij:i < j) (hi:ps[i]?=some p) (hj:ps[j]?=some q) (h0:aZ p q (x,y)=0):above ps x (y+1) < above ps x y:=by
  refine wo (z:=(p,q)) (fun pr hpr h=>?_) (mK hij hi hj) (by simp [h0]) ?_
  · obtain ⟨i',j',h',e1,e2⟩:=oZ (p:=pr.1) (q:=pr.2) hpr
    have:=R i' j' _ _ h' e1 e2
    have h:=of_decide_eq_true h
    rw [sA] at h
    exact Bd (by omega)
  · have:=R i j _ _ hij hi hj
    show decide (aZ p q (x,y+1)<=0)=false
    rw [sA,h0]
    exact Be (by omega)
theorem wH (ps:List Pt) (x y:Int):above ps x y<=ps.length * ps.length:=Bw (List.length_filter_le _ _) (mH ps)
theorem d9 {α:Type} {l:List α} {z a:α} {i:Nat} (h:(l ++ [z])[i]?=some a):(l[i]?=some a/\i < l.length)\/(a=z/\i=l.length):=by
  by_cases hi:i < l.length
  · rw [Bs hi] at h;exact .inl ⟨h,hi⟩
  · rw [List.getElem?_append_right (by omega)] at h
    have:i - l.length=0:=by
      cases e:i - l.length with
      | zero=>rfl
      | succ n=>rw [e] at h;simp at h
    rw [this] at h;simp at h
    exact .inr ⟨h.symm,by omega⟩
theorem Rising.snoc {ps:List Pt} {z:Pt} (R:Rising ps) (h:∀ p ∈ ps,p.1 < z.1):Rising (ps ++ [z]):=fun i j p q hij h1 h2=>by
  rcases d9 h1 with ⟨a1,b1⟩ | ⟨rfl,b1⟩
  · rcases d9 h2 with ⟨a2,b2⟩ | ⟨rfl,b2⟩
    · exact R i j p q hij a1 a2
    · exact h p (A4 a1)
  · rcases d9 h2 with ⟨a2,b2⟩ | ⟨rfl,b2⟩
    · omega
    · omega
theorem NoLine.snoc {ps:List Pt} {z:Pt} (N:NoLine ps) (F:rm ps z):NoLine (ps ++ [z]):=fun i j k p q r hij hjk h1 h2 h3=>by
  rcases d9 h1 with ⟨a1,b1⟩ | ⟨rfl,b1⟩
  · rcases d9 h2 with ⟨a2,b2⟩ | ⟨rfl,b2⟩
    · rcases d9 h3 with ⟨a3,b3⟩ | ⟨rfl,b3⟩
      · exact N i j k p q r hij hjk a1 a2 a3
      · exact F i j p q hij a1 a2
    · rcases d9 h3 with ⟨a3,b3⟩ | ⟨rfl,b3⟩ <;> omega
  · rcases d9 h2 with ⟨a2,b2⟩ | ⟨rfl,b2⟩ <;> omega
section InBlock
variable {X:Cx} {NY:List Str} {scope:Scope} {s:Shared} {H:Hp} {C:Addr} {fp:List Addr}
end InBlock
end L2
end
section
namespace L2
open PySem PySem.Spec PyProof.Rows
mutual
inductive DV (K:FG) (H:Hp):V->PyData->Prop
  | non:DV K H .non .none
  | bl (b:Bool):DV K H (.bl b) (.bool b)
  | int (i:Int):DV K H (.int i) (.int i)
  | str (x:Str):DV K H (.str x) (.str x)
  | tup {a:Addr} {xs:List V} {ds:List PyData}:SqT K H a xs->DVs K H xs ds->DV K H (.ref a) (.tuple ds)
  | lst {a:Addr} {xs:List V} {ds:List PyData}:SqL K H a xs->DVs K H xs ds->DV K H (.ref a) (.list ds)
inductive DVs (K:FG) (H:Hp):List V->List PyData->Prop
  | nil:DVs K H [] []
  | cons {x:V} {d:PyData} {xs:List V} {ds:List PyData}:DV K H x d->DVs K H xs ds->DVs K H (x :: xs) (d :: ds)
end
section
variable {X:Cx} {pins:List (Addr × Obj)} {σ:St} {H:Hp} {s:Shared}
mutual
theorem DV.reads (I:Inv X pins σ H s):∀ {v:V} {d:PyData} {u:Value},DV X.K H v d->RelV v u->∃ as,Reads s.heap u d as
  | _,_,u,.non,r=>by cases (show u=Value.none from r);exact ⟨_,.none⟩
  | _,_,u,.bl b,r=>by cases (show u=Value.bool b from r);exact ⟨_,.bool b⟩
  | _,_,u,.int i,r=>by obtain ⟨t,rfl⟩:=r;exact ⟨_,.int i t⟩
  | _,_,u,.str x,r=>by obtain ⟨t,rfl⟩:=r;exact ⟨_,.str x t⟩
  | _,_,u,.tup (a:=a) h rs,r=>by
    cases (show u=Value.ref a from r)
    obtain ⟨its,rv,⟨o,e,c,n,d⟩,_⟩:=I.tuple h
    obtain ⟨as,q⟩:=DVs.reads I rs rv
    exact ⟨_,.tuple e c d (by simpa using q)⟩
  | _,_,u,.lst (a:=a) h rs,r=>by
    cases (show u=Value.ref a from r)
    obtain ⟨its,rv,⟨o,n,e,c,_,d⟩,_⟩:=I.list h
    obtain ⟨as,q⟩:=DVs.reads I rs rv
    exact ⟨_,.list e c d (by simpa using q)⟩
theorem DVs.reads (I:Inv X pins σ H s):∀ {v:List V} {d:List PyData} {us:List Value},DVs X.K H v d->Vals v us->∃ as,ReadsAll s.heap us d as
  | _,_,_,.nil,.nil=>⟨_,.nil⟩
  | _,_,_,.cons h r,.cons q t=>by
    obtain ⟨as,e1⟩:=DV.reads I h q
    obtain ⟨bs,e2⟩:=DVs.reads I r t
    exact ⟨_,.cons e1 e2⟩
end
end
end L2
end
section
namespace L2
open PySem PySem.Spec PyProof.Rows
end L2
end
section
namespace L2
open PySem PySem.Spec PyProof.Rows
end L2
end
section
namespace L2
open PySem PySem.Spec PyProof.Rows
end L2
end
section
namespace L2
open PySem PySem.Spec PyProof.Rows
end L2
end
section
namespace L2
open PySem PySem.Spec PyProof.Rows
end L2
end
section
namespace L2
open PySem PySem.Spec PyProof.Rows
end L2
end
section
namespace L2
open PySem PySem.Spec PyProof.Rows
end L2
end
section
namespace L2
open PySem PySem.Spec PyProof.Rows
end L2
end
section
namespace L2
open PySem PySem.Spec PyProof.Rows
end L2
end
section
namespace L2
open PySem PySem.Spec PyProof.Rows
end L2
end
section
namespace PySem
open Sem (wp)
end PySem
end
section
namespace L2
open PySem PySem.Spec PyProof.Rows
end L2
end
section
namespace L2
open PySem PySem.Spec PyProof.Rows
noncomputable def IsPair (h:Heap) (b:Addr) (n:Int × Int):Prop:=∃ o t u m,h.get? b=some o/\o.cls=.type "tuple"/\o.data=.seq #[.int n.1 t,.int n.2 u] m
end L2
end
section
namespace L2
open PySem PySem.Spec PyProof.Rows
end L2
end
section
namespace PyProof.Rows
open PySem
end PyProof.Rows
end
section
namespace L2
open PySem PySem.Spec PyProof.Rows
theorem jr:∀ {us:List Value} {ns:List Int},IntsAre us ns->Vals (ns.map V.int) us
  | _,_,.nil=>.nil
  | _,_,.cons n t h=>.cons ⟨t,rfl⟩ (jr h)
end L2
end
section
namespace L2
open PySem
theorem um:typeLookup (.type "zip") "__getattr__"=pure none:=by rw [typeLookup_type,builtinLookup_eq_fast];kernel_rfl
theorem wM:entryFor table "zip.__getattribute__"=some Builtin.«object.__getattribute__»:=entryFor_alias (id':="object.__getattribute__") (by kernel_rfl) (by decide +kernel) (by decide +kernel) (by kernel_rfl)
theorem sF {a:Addr} {vs:Array Value} {sl:Array (Option Value)} {name:Str} {u:Tok} (hmiss:typeLookup (.type "zip") name=pure none) (hname:(["__module__","__name__","__qualname__","__doc__","__annotations__"]:List Str).contains name=false) (hsz:name.length+100<=sizeLine) :
    Meets (Builtin.«object.__getattribute__» ⟨[.ref a,.str name u],[]⟩) (fun A R s=>s.heap.get? a=some { cls:=.type "zip",dict:=none,data:=.fields vs,slots:=sl }/\raisesAttr (.ref a) name A R s):=by
  refine .of_wp fun prog w A R s h=>?_
  obtain ⟨hp,g,d,tk,os⟩:=s
  obtain ⟨hx,h⟩:=h
  have ty:(⟨hp,g,d,tk,os⟩:Shared).TypeIs (.ref a) "zip":=⟨_,hx,rfl⟩
  wp_walk
  refine wpAny_ite_false (by rw [hname];rfl) ?_
  wp_walk
  exact wpAny_raiseAttrError h.1 h.2 (attrMsg_fits (by decide +kernel) hsz)
theorem getAttr?_miss_zip {prog:Program} {w:World} {A:Around} {E:Value->Shared->Prop} {s:Shared} {a:Addr} {o:Obj} {vs:Array Value} {name:Str} {Q:Option Value->Shared->Prop}
    (hx:s.heap.get? a=some o) (hc:o.cls=.type "zip") (hdat:o.data=.fields vs) (hd:o.dict=none) (hmiss:typeLookup (.type "zip") name=pure none) (hname:(["__module__","__name__","__qualname__","__doc__","__annotations__"]:List Str).contains name=false) (hh:A.handled=none)
    (h:∀ h' tk e,Heap.NewExcOf s.heap h' e "AttributeError"->Q none { s with heap:=h',toks:=tk }) (hsz:name.length+100<=sizeLine:=by size_fits) :
    wpAny (model prog w) A (getAttr? (.ref a) name) Q E s:=by
  obtain ⟨c,dct,dat,sl⟩:=o
  obtain ⟨hp,g,d,tk,os⟩:=s
  simp only at hc hdat hd
  subst hc hdat hd
  have ty:(⟨hp,g,d,tk,os⟩:Shared).TypeIs (.ref a) "zip":=⟨_,hx,rfl⟩
  have l1:=F.slot_zip_getattribute.lookup
  have l2:=F.slot_zip_getattribute.bind (.ref a)
  have l3:=um
  have l4:=sub_AttributeError
  have ty':∀ tk',(⟨hp,g,d,tk',os⟩:Shared).TypeIs (.ref a) "zip":=fun _=>⟨_,hx,rfl⟩
  repeat ((fail_if_success with_reducible refine wpAny_call ?_);wp_step)
  refine call_meets F.slot_zip_getattribute (ty' _) wM (F.args_zip_getattribute_2 _ _) (sF (vs:=vs) (sl:=sl) hmiss hname hsz) ⟨hx,hh,fun h' tk' e n=>?_⟩
  obtain ⟨t',u',he⟩:=n.there
  refine (?_:wpAny _ _ (getattributeRaised _ _ _ _ _ _ _) _ _ _)
  have in2:(⟨h',g,d,tk',os⟩:Shared).TypeIs (.ref e) "AttributeError":=⟨_,he,rfl⟩
  wp_walk
  exact h _ _ _ n.of
noncomputable abbrev cY (h:Heap) (z TI TO:Addr) (f0 f1:Value):Prop :=
  h.get? z=some { cls:=.type "zip",dict:=none,data:=.fields #[f0,f1,.bool false,.ref TI,.ref TO],slots:=#[] }
noncomputable def gM (h:Heap) (z TO i1 i2:Addr) (f0 f1:Value):Prop:=(f0=.none/\f1=.bool false)\/∃ (T:Nat) (o:Obj),f0=rawInt (T:Nat)/\h.get? T=some o/\∃ b,f1=.bool b/\T ≠ z/\T ≠ TO/\T ≠ i1/\T ≠ i2
theorem ul (l1 l2:Addr) (xs ys:Array Value) :
    Meets (Builtin.«zip.__new__» ⟨[.type "zip",.ref l1,.ref l2],[]⟩) (fun _ R s=>s.heap.IsList l1 xs/\s.heap.IsTuple l2 ys /\
      ∀ h',(∀ n,n=s.heap.objs.size->cY h' (n+4) (n+2) (n+3) .none (.bool false)/\PySem.IsPair h' (n+2) (.ref n) (.ref (n+1))/\PySem.IsPair h' (n+3) .none .none/\h'.IsListIter n l1 0/\h'.IsTupleIter (n+1) l2 0/\h'.objs.size=n+5) ->
        (∀ c o,s.heap.get? c=some o->h'.get? c=some o)->R (.ok (.ret (.ref (s.heap.objs.size+4)))) { s with heap:=h' }):=by
  refine .of_wp fun prog w A R s h=>?_
  obtain ⟨hp,g,d,tk,os⟩:=s
  obtain ⟨a1,a2,h⟩:=h
  have sub:=sub_zip
  have it1:Heap.IsList (Shared.heap ⟨hp,g,d,tk,os⟩) l1 xs:=a1
  have it2:Heap.IsTuple (Shared.heap ⟨hp.push { cls:=.type "list_iterator",data:=.fields #[.ref l1,.int 0 0] },g,d,tk,os⟩) l2 ys:=Heap.IsTuple.push a2 _
  wp_walk using wpAny_pyIter_list it1,wpAny_pyIter_tuple it2
  refine ⟨_,rfl,?_⟩
  simp only [Bu]
  have new:∀ (h:Heap) (u:Obj),u.isFreed=false->∀ n,h.objs.size=n->(h.push u).get? n=some u:=fun h u e n z=>z ▸ A1 _ e
  have keep:∀ (h:Heap) (u:Obj) {c o},h.get? c=some o->(h.push u).get? c=some o:=fun h u=>AT _
  refine h _ (fun n e=>?_) fun c o e=>keep _ _ (keep _ _ (keep _ _ (keep _ _ (keep _ _ e))))
  subst e
  refine ⟨new _ _ rfl _ ?_,keep _ _ (keep _ _ (new _ _ rfl _ ?_)),keep _ _ (new _ _ rfl _ ?_),⟨_,keep _ _ (keep _ _ (keep _ _ (keep _ _ (new _ _ rfl _ ?_)))),rfl,rfl⟩,⟨_,keep _ _ (keep _ _ (keep _ _ (new _ _ rfl _ ?_))),rfl,rfl⟩,?_⟩ <;> simp only [Bu]
section
variable {prog:Program} {w:World} {A:Around} {E:Value->Shared->Prop} {s:Shared}
theorem fK {it l:Addr} {i:Nat} {items} {x:Value} {Q:Value->Shared->Prop} (hit:s.heap.IsTupleIter it l i)
    (hl:s.heap.IsTuple l items) (hx:items[i]?=some x)
    (hQ:∀ h',h'.IsTupleIter it l (i+1)->Heap.SameBut it s.heap h'->Q x { s with heap:=h' }) :
    wpAny (model prog w) A (Builtin.SmallTypes.nextOf (.ref it)) Q E s:=by
  have ty:=hit.typeIs
  obtain ⟨⟨c1,d1,x1,s1⟩,h1,e1,e2⟩:=hit
  obtain ⟨⟨c2,d2,x2,s2⟩,h2,e3,n,e4⟩:=hl
  obtain ⟨hp,g,dr,tk,os⟩:=s
  simp only at e1 e2 e3 e4
  subst e1 e2 e3 e4
  unfold Builtin.SmallTypes.nextOf
  refine AN (wpAny_callSpecial?_slot ty F.slot_tuple_iterator_next (wpAny_call_entry F.slot_tuple_iterator_next ty F.entry_tuple_iterator_next ?_ (F.args_tuple_iterator_next_1 _)))
  wp_walk
  rw [show items[(i:Int).toNat]?=some x from hx]
  wp_walk
  exact ⟨_,rfl,AO (hQ _ ⟨_,Bh _ h1 rfl,rfl,rfl⟩ (Heap.SameBut.update ..))⟩
theorem ot {z TI TO T:Addr} {b:Bool} {oT:Obj} {R:Bool->Shared->Prop} (hz:cY s.heap z TI TO (rawInt (T:Nat)) (.bool b)) (hT:s.heap.get? T=some oT)
    (hR:∀ h₁,cY h₁ z TI TO (rawInt (T:Nat)) (.bool true)->Heap.SameBut z s.heap h₁->R false { s with heap:=h₁ }):wpAny (model prog w) A (Builtin.SmallTypes.ownedTupleIsFree (.ref z)) R E s:=by
  unfold Builtin.SmallTypes.ownedTupleIsFree
  refine AN (wpAny_field hz rfl (x:=rawInt (T:Nat)) rfl ?_)
  show wpAny _ _ (loadIfAlive (Int.toNat (T:Int)) >>= _) _ _ _
  refine AN (fun Γ p hΓ=>?_)
  show Sem.wp _ _ (Sem.loadIfAlive _ Sem.pure) _ _ _ _
  rw [Sem.wp_loadIfAlive,Int.toNat_natCast,hT]
  refine (show wpAny (model prog w) A (pure (some oT)) _ E s from AO ?_) Γ p hΓ
  simp only [Option.isNone_some,Bq,if_false]
  refine AN (wpAny_field hz rfl (x:=.bool b) rfl ?_)
  cases b with
  | true=>exact AO (hR s.heap hz (Heap.SameBut.refl _ _))
  | false =>
    refine AN (wpAny_setField_rec hz (by simp) fun h₁ hz₁ hs₁=>AO (hR h₁ hz₁ hs₁))
theorem lW {z TI TO i1 i2 l1 l2 T:Addr} {k1 k2:Nat} {xs ys:Array Value} {x y:Value} {b:Bool} {oT:Obj} {Q:Value->Shared->Prop} (D:ZipApart z TI TO i1 i2 l1 l2)
    (hz:cY s.heap z TI TO (rawInt (T:Nat)) (.bool b)) (hT:s.heap.get? T=some oT) (hTI:PySem.IsPair s.heap TI (.ref i1) (.ref i2))
    (h1:s.heap.IsListIter i1 l1 k1) (h2:s.heap.IsTupleIter i2 l2 k2) (hl1:s.heap.IsList l1 xs) (hl2:s.heap.IsTuple l2 ys) (hx:xs[k1]?=some x) (hy:ys[k2]?=some y)
    (hQ:∀ h',cY h' z TI TO (rawInt (T:Nat)) (.bool true)->h'.IsListIter i1 l1 (k1+1)->h'.IsTupleIter i2 l2 (k2+1)->PySem.IsPair h' s.heap.objs.size x y->h'.objs.size=s.heap.objs.size+1 ->
      (∀ c o,c ≠ z->c ≠ i1->c ≠ i2->s.heap.get? c=some o->h'.get? c=some o)->Q (.ref s.heap.objs.size) { s with heap:=h' }) :
    wpAny (model prog w) A (Builtin.«zip.__next__» ⟨[.ref z],[]⟩) (fun fin s'=>∃ v,fin=.done (.ret v)/\Q v s') E s:=by
  show wpAny _ _ (field (.ref z) 2 >>= _) _ _ _
  refine AN (wpAny_field hz rfl (x:=.bool false) rfl ?_)
  show wpAny _ _ (field (.ref z) 3 >>= _) _ _ _
  refine AN (wpAny_field hz rfl (x:=.ref TI) rfl ?_)
  refine AN (wpAny_seqItems hTI rfl ?_)
  show wpAny _ _ (Builtin.SmallTypes.ownedTupleIsFree (.ref z) >>= _) _ _ _
  refine AN (ot hz hT fun h₁ hz₁ hs₁=>?_)
  simp only [Bq,if_false]
  refine AN ?_
  rw [<- Array.forIn_toList]
  simp only [List.forIn_cons,List.forIn_nil]
  refine AN (AN (AQ ?_))
  show wpAny _ _ (Builtin.SmallTypes.nextOf (.ref i1) >>= _) _ _ _
  refine AN (wpAny_nextOf_list_item (h1.extBut hs₁.extBut D.i1z) (hl1.extBut hs₁.extBut D.l1z) hx fun h₂ h1₂ hs₂=>AO ?_)
  refine AO (AN (AN (AQ ?_)))
  show wpAny _ _ (Builtin.SmallTypes.nextOf (.ref i2) >>= _) _ _ _
  refine AN (fK ((h2.extBut hs₁.extBut D.i2z).extBut hs₂.extBut D.i12.symm) ((hl2.extBut hs₁.extBut D.l2z).extBut hs₂.extBut D.l2i1) hy fun h₃ h2₃ hs₃=>AO ?_)
  refine AO (AO ?_)
  show wpAny _ _ (newTuple [x,y] >>= _) _ _ _
  refine AN (wpAny_newTuple (AO ⟨_,rfl,?_⟩))
  have hz₃:cY h₃ z TI TO (rawInt (T:Nat)) (.bool true):=hs₃.extBut _ _ D.i2z.symm (hs₂.extBut _ _ D.i1z.symm hz₁)
  have hsz:h₃.objs.size=s.heap.objs.size:=by rw [hs₃.1,hs₂.1,hs₁.1]
  have g:(h₃.push { cls:=.type "tuple",data:=.seq #[x,y] }).get? h₃.objs.size=some _:=A1 _ rfl
  have:=hQ (h₃.push { cls:=.type "tuple",data:=.seq #[x,y] }) (AT _ hz₃) ((fun ⟨o,e,r⟩=>⟨o,AT _ e,r⟩:h₃.IsListIter i1 l1 (k1+1)->_) (h1₂.extBut hs₃.extBut D.i12)) ((fun ⟨o,e,r⟩=>⟨o,AT _ e,r⟩:h₃.IsTupleIter i2 l2 (k2+1)->_) h2₃)
    (by rw [hsz] at g;exact g) (by rw [Bu,hsz]) fun c o c1 c2 c3 e=>AT _ (hs₃.extBut _ _ c3 (hs₂.extBut _ _ c2 (hs₁.extBut _ _ c1 e)))
  rw [<- hsz] at this
  exact this
theorem k4 {z TI TO i1 i2 l1 l2:Addr} {k1 k2:Nat} {xs ys:Array Value} {x y a b:Value} {Q:Value->Shared->Prop} (D:ZipApart z TI TO i1 i2 l1 l2)
    (hz:cY s.heap z TI TO .none (.bool false)) (hTI:PySem.IsPair s.heap TI (.ref i1) (.ref i2)) (hTO:PySem.IsPair s.heap TO a b)
    (h1:s.heap.IsListIter i1 l1 k1) (h2:s.heap.IsTupleIter i2 l2 k2) (hl1:s.heap.IsList l1 xs) (hl2:s.heap.IsTuple l2 ys) (hx:xs[k1]?=some x) (hy:ys[k2]?=some y)
    (hQ:∀ h',cY h' z TI TO (rawInt s.heap.objs.size) (.bool false)->h'.IsListIter i1 l1 (k1+1)->h'.IsTupleIter i2 l2 (k2+1)->(∃ a b,PySem.IsPair h' TO a b)/\PySem.IsPair h' s.heap.objs.size x y->h'.objs.size=s.heap.objs.size+1 ->
      (∀ c o,c ≠ z->c ≠ TO->c ≠ i1->c ≠ i2->s.heap.get? c=some o->h'.get? c=some o)->Q (.ref s.heap.objs.size) { s with heap:=h' }) :
    wpAny (model prog w) A (Builtin.«zip.__next__» ⟨[.ref z],[]⟩) (fun fin s'=>∃ v,fin=.done (.ret v)/\Q v s') E s:=by
  obtain ⟨hp,g,dr,tk,os⟩:=s
  obtain ⟨q1,q2,q3,q4,q5,q6,q7,q8,q9,q10,q11,q12,q13,q14,q15,q16,q17,q18⟩:=D
  repeat ((fail_if_success with_reducible refine wpAny_onRaise ?_);wp_step)
  refine wpAny_onRaise (AN ?_)
  refine wpAny_nextOf_list_item (h1.extBut (Heap.SameBut.update ..).extBut q3) (hl1.extBut (Heap.SameBut.update ..).extBut q11) hx fun h₂ j1 s₂=>?_
  have z₂:cY h₂ z TI TO .ellipsis (.bool false):=s₂.extBut _ _ (Ne.symm q3) (Bh _ hz rfl)
  have t₂:PySem.IsPair h₂ TO a b:=s₂.extBut _ _ q8 ((Heap.SameBut.update ..).extBut _ _ q2 hTO)
  have k₂:∀ c o,c ≠ z->c ≠ i1->hp.get? c=some o->h₂.get? c=some o:=fun c o c1 c2 e=>s₂.extBut _ _ c2 ((Heap.SameBut.update ..).extBut _ _ c1 e)
  have n₂:h₂.objs.size=hp.objs.size:=by rw [s₂.1];exact (Heap.SameBut.update ..).1
  clear s₂
  repeat ((fail_if_success with_reducible refine wpAny_onRaise ?_);wp_step)
  refine wpAny_onRaise (AN ?_)
  refine fK (it:=i2) (l:=l2) ((fun ⟨o,e,r⟩=>⟨o,(Heap.SameBut.update ..).extBut _ _ (Ne.symm q9) (k₂ _ _ q4 (Ne.symm q10) e),r⟩:hp.IsTupleIter i2 l2 k2->_) h2) ((fun ⟨o,e,r⟩=>⟨o,(Heap.SameBut.update ..).extBut _ _ q16 (k₂ _ _ q15 q17 e),r⟩:hp.IsTuple l2 ys->_) hl2) hy fun h₄ j2 s₄=>?_
  have z₄:cY h₄ z TI TO .ellipsis (.bool false):=s₄.extBut _ _ (Ne.symm q4) ((Heap.SameBut.update ..).extBut _ _ (Ne.symm q2) z₂)
  have t₄:PySem.IsPair h₄ TO x b:=s₄.extBut _ _ q9 (Bh _ t₂ rfl)
  have j1':h₄.IsListIter i1 l1 (k1+1):=j1.extBut (Heap.SameBut.update ..).extBut (Ne.symm q8) |>.extBut s₄.extBut q10
  have k₄:∀ c o,c ≠ z->c ≠ TO->c ≠ i1->c ≠ i2->hp.get? c=some o->h₄.get? c=some o:=fun c o c1 c2 c3 c4 e=>s₄.extBut _ _ c4 ((Heap.SameBut.update ..).extBut _ _ c2 (k₂ c o c1 c3 e))
  have n₄:h₄.objs.size=hp.objs.size:=by rw [s₄.1,<- n₂];exact (Heap.SameBut.update ..).1
  clear s₄ j1 z₂ t₂ k₂ n₂
  have n₅:∀ f,(h₄.update TO f).objs.size=hp.objs.size:=fun f=>by rw [Heap.size_update,n₄]
  have lz:=AZ hz
  have up:∀ (h:Heap) (u:Obj) (f f':Obj->Obj) (c:Addr) (o:Obj),c ≠ z->h.get? c=some o->(((h.push u).update z f).update z f').get? c=some o:=fun h u f f' c o n e=>(Heap.SameBut.update ..).extBut _ _ n ((Heap.SameBut.update ..).extBut _ _ n (AT _ e))
  have k₅:∀ f c o,c ≠ TO->h₄.get? c=some o->(h₄.update TO f).get? c=some o:=fun f c o n e=>(Heap.SameBut.update ..).extBut _ _ n e
  have new:∀ (h:Heap) (u:Obj),u.isFreed=false->(h.push u).get? h.objs.size=some u:=fun h u e=>A1 _ e
  wp_walk
  refine ⟨_,rfl,?_⟩
  have w:=new (h₄.update TO (Obj.mapSeq fun v:Array Value=>v.setIfInBounds (0+1) y)) { cls:=.type "tuple",data:=.seq #[x,y] } rfl
  simp only [n₅] at w ⊢
  refine hQ _ (Bh _ (Bh _ (AT _ (k₅ _ _ _ (Ne.symm q2) z₄)) rfl) rfl) ?_ ?_ ⟨⟨x,y,up _ _ _ _ _ _ q2 (Bh _ t₄ rfl)⟩,?_⟩ ?_ ?_
  · exact (fun ⟨o,e,r⟩=>⟨o,up _ _ _ _ _ _ q3 (k₅ _ _ _ (Ne.symm q8) e),r⟩:h₄.IsListIter i1 l1 (k1+1)->_) j1'
  · exact (fun ⟨o,e,r⟩=>⟨o,up _ _ _ _ _ _ q4 (k₅ _ _ _ (Ne.symm q9) e),r⟩:h₄.IsTupleIter i2 l2 (k2+1)->_) j2
  · exact (Heap.SameBut.update ..).extBut _ _ (Nat.ne_of_gt lz) ((Heap.SameBut.update ..).extBut _ _ (Nat.ne_of_gt lz) w)
  · rw [Heap.size_update,Heap.size_update,Bu,n₅]
  · exact fun c o c1 c2 c3 c4 e=>up _ _ _ _ _ _ c1 (k₅ _ _ _ c2 (k₄ c o c1 c2 c3 c4 e))
theorem uk {z TI TO i1 i2 l1 l2:Addr} {k1 k2:Nat} {xs ys:Array Value} {x y a b f0 f1:Value} {Q:Value->Shared->Prop} (D:ZipApart z TI TO i1 i2 l1 l2)
    (hz:cY s.heap z TI TO f0 f1) (hm:gM s.heap z TO i1 i2 f0 f1) (hTI:PySem.IsPair s.heap TI (.ref i1) (.ref i2)) (hTO:PySem.IsPair s.heap TO a b)
    (h1:s.heap.IsListIter i1 l1 k1) (h2:s.heap.IsTupleIter i2 l2 k2) (hl1:s.heap.IsList l1 xs) (hl2:s.heap.IsTuple l2 ys) (hx:xs[k1]?=some x) (hy:ys[k2]?=some y)
    (hQ:∀ h' f0' f1',cY h' z TI TO f0' f1'->gM h' z TO i1 i2 f0' f1'->(∃ a b,PySem.IsPair h' TO a b)->h'.IsListIter i1 l1 (k1+1)->h'.IsTupleIter i2 l2 (k2+1)->PySem.IsPair h' s.heap.objs.size x y->h'.objs.size=s.heap.objs.size+1 ->
      (∀ c o,c ≠ z->c ≠ TO->c ≠ i1->c ≠ i2->s.heap.get? c=some o->h'.get? c=some o)->Q (.ref s.heap.objs.size) { s with heap:=h' }) :
    wpAny (model prog w) A (Builtin.«zip.__next__» ⟨[.ref z],[]⟩) (fun fin s'=>∃ v,fin=.done (.ret v)/\Q v s') E s:=by
  have lz:z < s.heap.objs.size:=AZ hz
  have lTO:TO < s.heap.objs.size:=AZ hTO
  have l1':i1 < s.heap.objs.size:=by obtain ⟨_,e,_⟩:=h1;exact AZ e
  have l2':i2 < s.heap.objs.size:=by obtain ⟨_,e,_⟩:=h2;exact AZ e
  rcases hm with ⟨rfl,rfl⟩ | ⟨T,oT,rfl,hT,b,rfl,t1,t2,t3,t4⟩
  · exact k4 D hz hTI hTO h1 h2 hl1 hl2 hx hy fun h' a1 a2 a3 a4 a5 a6=>hQ h' _ _ a1 (.inr ⟨_,_,rfl,a4.2,_,rfl,Nat.ne_of_gt lz,Nat.ne_of_gt lTO,Nat.ne_of_gt l1',Nat.ne_of_gt l2'⟩) a4.1 a2 a3 a4.2 a5 a6
  · exact lW D hz hT hTI h1 h2 hl1 hl2 hx hy fun h' a1 a2 a3 a4 a5 a6=>hQ h' _ _ a1 (.inr ⟨_,_,rfl,a6 _ _ t1 t3 t4 hT,_,rfl,t1,t2,t3,t4⟩) ⟨_,_,a6 _ _ D.TOz D.TOi1 D.TOi2 hTO⟩ a2 a3 a4 a5 fun c o c1 _ c3 c4 e=>a6 c o c1 c3 c4 e
theorem wN {z TI TO i1 i2 l1 l2:Addr} {k1:Nat} {xs:Array Value} {a b f0 f1:Value} {Q:Fin->Shared->Prop} (hh:A.handled=none) (D:ZipApart z TI TO i1 i2 l1 l2)
    (hz:cY s.heap z TI TO f0 f1) (hm:gM s.heap z TO i1 i2 f0 f1) (hTI:PySem.IsPair s.heap TI (.ref i1) (.ref i2)) (hTO:PySem.IsPair s.heap TO a b)
    (h1:s.heap.IsListIter i1 l1 k1) (hl1:s.heap.IsList l1 xs) (hend:xs[k1]?=none)
    (hE:∀ h' e,(∀ c o,c ≠ z->c ≠ TO->c ≠ i1->c ≠ i2->s.heap.get? c=some o->h'.get? c=some o)->(∃ o,h'.get? e=some o/\o.cls=.type "StopIteration")->E (.ref e) { s with heap:=h' }) :
    wpAny (model prog w) A (Builtin.«zip.__next__» ⟨[.ref z],[]⟩) Q E s:=by
  show wpAny _ _ (field (.ref z) 2 >>= _) _ _ _
  refine AN (wpAny_field hz rfl (x:=.bool false) rfl ?_)
  show wpAny _ _ (field (.ref z) 3 >>= _) _ _ _
  refine AN (wpAny_field hz rfl (x:=.ref TI) rfl ?_)
  refine AN (wpAny_seqItems hTI rfl ?_)
  show wpAny _ _ (Builtin.SmallTypes.ownedTupleIsFree (.ref z) >>= _) _ _ _
  rcases hm with ⟨rfl,rfl⟩ | ⟨T,oT,rfl,hT,b,rfl,t1,t2,t3,t4⟩
  · refine AN ?_
    unfold Builtin.SmallTypes.ownedTupleIsFree
    refine AN (wpAny_field hz rfl (x:=.none) rfl (AO ?_))
    simp only [if_true]
    refine AN (wpAny_rule ?_)
    refine AN (wpAny_field hz rfl (x:=.ref TO) rfl ?_)
    refine AN (wpAny_setField_rec hz (by simp) fun h₁ hz₁ hs₁=>?_)
    replace hz₁:cY h₁ z TI TO .ellipsis (.bool false):=hz₁
    refine AN ?_
    simp only [List.zipIdx_cons,List.zipIdx_nil,List.forIn_cons,List.forIn_nil]
    refine AN (AN (wpAny_onRaise ?_))
    show wpAny _ _ (Builtin.SmallTypes.nextOf (.ref i1) >>= _) _ _ _
    refine AN (wpAny_nextOf_list_end hh (h1.extBut hs₁.extBut D.i1z) (hl1.extBut hs₁.extBut D.l1z) hend fun h₂ e hs₂ he=>?_)
    obtain ⟨oe,hoe,hce⟩:=he
    have hz₂:cY h₂ z TI TO .ellipsis (.bool false):=hs₂ _ _ D.i1z.symm hz₁
    have hez:e ≠ z:=fun x=>by subst x;rw [hz₂] at hoe;cases hoe;simp at hce
    refine wpAny_setField_rec hz₂ (by simp) fun h₃ _ hs₃=>hE h₃ e (fun c o c1 _ c3 _ x=>hs₃.extBut _ _ c1 (hs₂ _ _ c3 (hs₁.extBut _ _ c1 x))) ⟨oe,hs₃.extBut _ _ hez hoe,hce⟩
  · refine AN (ot hz hT fun h₁ hz₁ hs₁=>?_)
    simp only [Bq,if_false]
    refine AN ?_
    rw [<- Array.forIn_toList]
    simp only [List.forIn_cons,List.forIn_nil]
    refine AN (AN (AQ ?_))
    show wpAny _ _ (Builtin.SmallTypes.nextOf (.ref i1) >>= _) _ _ _
    refine AN (wpAny_nextOf_list_end hh (h1.extBut hs₁.extBut D.i1z) (hl1.extBut hs₁.extBut D.l1z) hend fun h₂ e hs₂ he=>?_)
    exact hE h₂ e (fun c o c1 _ c3 _ x=>hs₂ _ _ c3 (hs₁.extBut _ _ c1 x)) he
theorem t6 {l1 l2:Addr} {xs ys:Array Value} {Q:Value->Shared->Prop} (hl1:s.heap.IsList l1 xs) (hl2:s.heap.IsTuple l2 ys)
    (h:∀ h',IsZip h' (s.heap.objs.size+4) (s.heap.objs.size+2) (s.heap.objs.size+3) .none->PySem.IsPair h' (s.heap.objs.size+2) (.ref s.heap.objs.size) (.ref (s.heap.objs.size+1)) ->
      PySem.IsPair h' (s.heap.objs.size+3) .none .none->h'.IsListIter s.heap.objs.size l1 0->h'.IsTupleIter (s.heap.objs.size+1) l2 0->h'.objs.size=s.heap.objs.size+5 ->
      (∀ c o,s.heap.get? c=some o->h'.get? c=some o)->Q (.ref (s.heap.objs.size+4)) { s with heap:=h' }) :
    wpAny (model prog w) A (call (.type "zip") [.ref l1,.ref l2]) Q E s :=
  callType_new F.called_zip (by decide) (F.typeCall_zip_2 _ _) (F.newCall_zip_2 _ _) (fun obj=>F.args_object_init_3 obj _ _) F.entry_zip_new (ul l1 l2 xs ys) ⟨hl1,hl2,fun h' f k =>
    let ⟨a,b,c,d,e,z⟩:=f _ rfl
    ⟨⟨_,a,rfl⟩,h h' a b c d e z k⟩⟩
end
end L2
end
section
namespace L2
open PySem
namespace Fz
theorem entry_dict_update_loop:entryFor table "dict.update.loop"=some Builtin.«dict.update.loop»:=entryFor_of_tree (by kernel_rfl)
theorem plain_dict_update_loop:plainId "dict.update.loop"=true:=by decide +kernel
end Fz
section
variable {prog:Program} {w:World} {K:Type} [DecidableEq K] {knd:HeapKind prog w K} {A:Around} {E:Value->Shared->Prop} {s:Shared}
theorem td {z TI TO i1 i2 l1 l2:Addr} {k1 k2:Nat} {xs ys:Array Value} {x y a b f0 f1:Value} {Q:Option Value->Shared->Prop} (D:ZipApart z TI TO i1 i2 l1 l2)
    (hz:cY s.heap z TI TO f0 f1) (hm:gM s.heap z TO i1 i2 f0 f1) (hTI:PySem.IsPair s.heap TI (.ref i1) (.ref i2)) (hTO:PySem.IsPair s.heap TO a b)
    (h1:s.heap.IsListIter i1 l1 k1) (h2:s.heap.IsTupleIter i2 l2 k2) (hl1:s.heap.IsList l1 xs) (hl2:s.heap.IsTuple l2 ys) (hx:xs[k1]?=some x) (hy:ys[k2]?=some y)
    (hQ:∀ h' f0' f1',cY h' z TI TO f0' f1'->gM h' z TO i1 i2 f0' f1'->(∃ a b,PySem.IsPair h' TO a b)->h'.IsListIter i1 l1 (k1+1)->h'.IsTupleIter i2 l2 (k2+1)->PySem.IsPair h' s.heap.objs.size x y->h'.objs.size=s.heap.objs.size+1 ->
      (∀ c o,c ≠ z->c ≠ TO->c ≠ i1->c ≠ i2->s.heap.get? c=some o->h'.get? c=some o)->Q (some (.ref s.heap.objs.size)) { s with heap:=h' }) :
    wpAny (model prog w) A (pyNext (.ref z)) Q E s:=by
  have hT:s.TypeIs (.ref z) "zip":=⟨_,hz,rfl⟩
  unfold pyNext
  exact AN (wpAny_attempt (wpAny_callSpecial?_slot (name:=Str.ofString "__next__") hT PySem.F.slot_zip_next
    (wpAny_call_entry PySem.F.slot_zip_next hT PySem.F.entry_zip_next
      (uk D hz hm hTI hTO h1 h2 hl1 hl2 hx hy fun h' f0' f1' a1 a2 a3 a4 a5 a6 a7 a8=>AO (hQ h' f0' f1' a1 a2 a3 a4 a5 a6 a7 a8)) (PySem.F.args_zip_next_1 _))))
theorem vA {z TI TO i1 i2 l1 l2:Addr} {k1:Nat} {xs:Array Value} {a b f0 f1:Value} {Q:Option Value->Shared->Prop} (hh:A.handled=none) (D:ZipApart z TI TO i1 i2 l1 l2)
    (hz:cY s.heap z TI TO f0 f1) (hm:gM s.heap z TO i1 i2 f0 f1) (hTI:PySem.IsPair s.heap TI (.ref i1) (.ref i2)) (hTO:PySem.IsPair s.heap TO a b)
    (h1:s.heap.IsListIter i1 l1 k1) (hl1:s.heap.IsList l1 xs) (hend:xs[k1]?=none)
    (hQ:∀ h',(∀ c o,c ≠ z->c ≠ TO->c ≠ i1->c ≠ i2->s.heap.get? c=some o->h'.get? c=some o)->Q none { s with heap:=h' }):wpAny (model prog w) A (pyNext (.ref z)) Q E s:=by
  have hT:s.TypeIs (.ref z) "zip":=⟨_,hz,rfl⟩
  unfold pyNext
  refine AN (wpAny_attempt (wpAny_callSpecial?_slot (name:=Str.ofString "__next__") hT PySem.F.slot_zip_next
    (wpAny_call_entry PySem.F.slot_zip_next hT PySem.F.entry_zip_next (wN hh D hz hm hTI hTO h1 hl1 hend fun h' e hk he=>?_) (PySem.F.args_zip_next_1 _))))
  obtain ⟨o,ho,hc⟩:=he
  refine AN (wpAny_isInstance (T:="StopIteration") (b:=true) ⟨o,ho,hc⟩ isSubtype_stop ?_)
  exact AO (hQ _ hk)
set_option tactic.hygienic true in
theorem rf {tr:List (K × Addr × Value)} (hn:(tr.map (·.1)).Nodup) {i:Nat} {t:K × Addr × Value} (e:tr[i]?=some t):storedH (tr.take i) t.1 t.2.1 t.2.2=tr.take (i+1):=by
  have hno:atKey (tr.take i) t.1=none:=by
    refine atKey_none_of_get fun j p hj=>?_
    have hlt:i < tr.length:=by obtain ⟨h,_⟩:=A3.mp e;exact h
    rw [List.getElem?_take] at hj
    split at hj
    · rename_i hji
      have hjl:j < tr.length:=Nat.lt_trans hji hlt
      have e1:(tr.map (·.1))[j]'(by simpa using hjl)=(tr.map (·.1))[i]'(by simpa using hlt):=by
        have h1:=A3.mp hj
        have h2:=A3.mp e
        simp only [List.getElem_map]
        rw [h1.2,h2.2]
      exact List.pairwise_iff_getElem.mp hn j i _ _ hji e1
    · cases hj
  rw [storedH_new hno,List.take_add_one,e]
  rfl
theorem tU (hh:A.in1.handled=none) (hu:knd.room A.in1) {z TI TO i1 i2 l1 l2 d:Addr} (D:ZipApart z TI TO i1 i2 l1 l2) (dz:d ≠ z) (dTI:d ≠ TI) (dTO:d ≠ TO) (d1:d ≠ i1) (d2:d ≠ i2) (dl1:d ≠ l1) (dl2:d ≠ l2)
    {tr:List (K × Addr × Value)} (hn:(tr.map (·.1)).Nodup) (hsz:tr.length<=sizeLine) {R:Result->Shared->Prop}
    (keep:∀ h h':Heap,(∀ t ∈ tr,knd.is h t.1 t.2.1)->(∀ c o,c ≠ z->c ≠ TO->c ≠ i1->c ≠ i2->h.get? c=some o->h'.get? c=some o)->∀ t ∈ tr,knd.is h' t.1 t.2.1) :
    ∀ (k i:Nat) (s:Shared) (f0 f1 a b:Value),tr.length - i=k->i<=tr.length->cY s.heap z TI TO f0 f1->gM s.heap z TO i1 i2 f0 f1->PySem.IsPair s.heap TI (.ref i1) (.ref i2)->PySem.IsPair s.heap TO a b ->
      s.heap.IsListIter i1 l1 i->s.heap.IsTupleIter i2 l2 i->s.heap.IsList l1 (tr.map fun t=>Value.ref t.2.1).toArray->s.heap.IsTuple l2 (tr.map fun t=>t.2.2).toArray ->
      (∀ t ∈ tr,knd.is s.heap t.1 t.2.1)->DictOfHE knd s.heap d (tr.take i) ->
      (∀ h' tk,DictOfHE knd h' d tr->(∀ c o,c ≠ z->c ≠ TO->c ≠ i1->c ≠ i2->c ≠ d->s.heap.get? c=some o->h'.get? c=some o)->R (.ok (.ret .none)) { s with heap:=h',toks:=tk }) ->
      codeAny (model prog w) A (.builtin "dict.update.loop" ⟨[.ref d,.ref z,rawInt i,.none],[]⟩) R s:=by
  have carry:∀ {h h':Heap} {ys:List (K × Addr × Value)},DictOfHE knd h d ys->(∀ t ∈ ys,knd.is h' t.1 t.2.1)->(∀ c o,c ≠ z->c ≠ TO->c ≠ i1->c ≠ i2->h.get? c=some o->h'.get? c=some o)->DictOfHE knd h' d ys:=fun ⟨o,es,ep,g1,g2,g3,g4,g5,g6,g7⟩ hi hk =>
    ⟨o,es,ep,hk d o dz dTO d1 d2 g1,g2,g3,g4,hi,g6,g7⟩
  intro k
  induction k with
  | zero =>
    intro i s f0 f1 a b hk hi hz hm hTI hTO h1 h2 hl1 hl2 his hd hR
    have hin:i=tr.length:=by omega
    subst hin
    refine codeAny_builtin Fz.entry_dict_update_loop ?_
    rw [Around.under_plainId Fz.plain_dict_update_loop _]
    show wpAny _ A.in1 (pyNext (.ref z) >>= _) _ _ s
    refine AN (vA hh D hz hm hTI hTO h1 hl1 (by simp) fun h' hk'=>?_)
    show wpAny _ A.in1 (Builtin.Dict.addKeywords d [] >>= _) _ _ _
    refine AN (AO (AO ?_))
    rw [List.take_length] at hd
    exact hR h' s.toks (carry hd (keep _ _ his hk') hk') fun c o c1 c2 c3 c4 _ e=>hk' c o c1 c2 c3 c4 e
  | succ k ih =>
    intro i s f0 f1 a b hk hi hz hm hTI hTO h1 h2 hl1 hl2 his hd hR
    have hlt:i < tr.length:=by omega
    have ht:tr[i]?=some tr[i]:=AY hlt
    have hmem:tr[i] ∈ tr:=List.getElem_mem hlt
    refine codeAny_builtin Fz.entry_dict_update_loop ?_
    rw [Around.under_plainId Fz.plain_dict_update_loop _]
    show wpAny _ A.in1 (pyNext (.ref z) >>= _) _ _ s
    refine AN (td D hz hm hTI hTO h1 h2 hl1 hl2 (x:=.ref tr[i].2.1) (y:=tr[i].2.2) (by simp [ht]) (by simp [ht]) fun h' f0' f1' a1 a2 ⟨a',b',a3⟩ a4 a5 a6 a7 hk'=>?_)
    have his':=keep _ _ his hk'
    have hd':=carry hd (fun t q=>his' t (List.mem_of_mem_take q)) hk'
    refine AN (AQ ?_)
    refine AN (wpAny_tryCatch ?_)
    unfold Builtin.Dict.pairItems
    refine AN (wpAny_typeOf (T:="tuple") ⟨_,a6,rfl⟩ ?_)
    rw [if_pos (by decide)]
    refine AN (wpAny_seqItems a6 rfl (AO ?_))
    show wpAny _ _ (holding [Value.ref tr[i].2.1,tr[i].2.2] (dictSet d (.ref tr[i].2.1) tr[i].2.2)) _ _ _
    refine AQ (ja hu (his' _ hmem) hd' (hsz:=by rw [Bk];omega) fun h₂ hd₂ hs₂=>?_)
    rw [rf hn ht] at hd₂
    obtain ⟨o',es',ep',g1,g2,g3,g4,g5,g6,g7⟩:=hd'
    refine AO ⟨plainId_quiet Fz.plain_dict_update_loop _,?_⟩
    have up:∀ c o,c ≠ d->h'.get? c=some o->h₂.get? c=some o:=fun c o c1 e=>hs₂.extBut _ _ c1 e
    refine ih (i+1) _ f0' f1' a' b' (by omega) hlt (up _ _ dz.symm a1) ?_ (up _ _ dTI.symm (hk' _ _ D.TIz D.TITO D.TIi1 D.TIi2 hTI)) (up _ _ dTO.symm a3) ?_ ?_ ?_ ?_ (fun t q=>knd.keeps (his' t q) g1 g3 hs₂) hd₂ fun h₃ tk hd₃ hk₃=>?_
    · rcases a2 with q | ⟨T,oT,e0,hT,b0,e1,t1⟩
      · exact .inl q
      · by_cases hTd:T=d
        · obtain ⟨o2,_,_,g,_⟩:=hd₂
          exact .inr ⟨T,o2,e0,hTd ▸ g,b0,e1,t1⟩
        · exact .inr ⟨T,oT,e0,up _ _ hTd hT,b0,e1,t1⟩
    · exact a4.at fun o e=>up _ o d1.symm e
    · obtain ⟨o,e,r⟩:=a5
      exact ⟨o,up _ o d2.symm e,r⟩
    · exact (hl1.at fun o e=>hk' _ o D.l1z D.l1TO D.l1i1 D.l1i2 e).at fun o e=>up _ o dl1.symm e
    · obtain ⟨o,e,r⟩:=hl2
      exact ⟨o,up _ o dl2.symm (hk' _ o D.l2z D.l2TO D.l2i1 D.l2i2 e),r⟩
    · exact hR h₃ tk hd₃ fun c o c1 c2 c3 c4 c5 e=>hk₃ c o c1 c2 c3 c4 c5 (up c o c5 (hk' c o c1 c2 c3 c4 e))
theorem vP:typeLookup (.type "zip") "keys"=pure none:=am_miss_of_fast (by kernel_rfl)
theorem n5 (hh:A.handled=none) (hu:knd.room A.in1.in1) {z TI TO i1 i2 l1 l2:Addr} {a b:Value} (D:ZipApart z TI TO i1 i2 l1 l2)
    {tr:List (K × Addr × Value)} (hn:(tr.map (·.1)).Nodup) (hsz:tr.length<=sizeLine) {Q:Value->Shared->Prop}
    (keep:∀ h h':Heap,(∀ t ∈ tr,knd.is h t.1 t.2.1)->(∀ c o,c ≠ z->c ≠ TO->c ≠ i1->c ≠ i2->h.get? c=some o->h'.get? c=some o)->∀ t ∈ tr,knd.is h' t.1 t.2.1)
    (hz:cY s.heap z TI TO .none (.bool false)) (hTI:PySem.IsPair s.heap TI (.ref i1) (.ref i2)) (hTO:PySem.IsPair s.heap TO a b)
    (h1:s.heap.IsListIter i1 l1 0) (h2:s.heap.IsTupleIter i2 l2 0) (hl1:s.heap.IsList l1 (tr.map fun t=>Value.ref t.2.1).toArray) (hl2:s.heap.IsTuple l2 (tr.map fun t=>t.2.2).toArray)
    (his:∀ t ∈ tr,knd.is s.heap t.1 t.2.1)
    (hQ:∀ h' tk,DictOfHE knd h' s.heap.objs.size tr->(∀ c o,c ≠ z->c ≠ TO->c ≠ i1->c ≠ i2->s.heap.get? c=some o->h'.get? c=some o)->Q (.ref s.heap.objs.size) { s with heap:=h',toks:=tk }) :
    wpAny (model prog w) A (call (.type "dict") [.ref z]) Q E s:=by
  have lz:z < s.heap.objs.size:=AZ hz
  have lTI:TI < s.heap.objs.size:=AZ hTI
  have lTO:TO < s.heap.objs.size:=AZ hTO
  have li1:i1 < s.heap.objs.size:=by obtain ⟨_,e,_⟩:=h1;exact AZ e
  have li2:i2 < s.heap.objs.size:=by obtain ⟨_,e,_⟩:=h2;exact AZ e
  have ll1:l1 < s.heap.objs.size:=by obtain ⟨_,e,_⟩:=hl1;exact AZ e
  have ll2:l2 < s.heap.objs.size:=by obtain ⟨_,e,_⟩:=hl2;exact AZ e
  refine callType_codes (Q₁:=fun obj s₁=>obj=.ref s.heap.objs.size/\s₁ = { s with heap:=s.heap.push { cls:=.type "dict",data:=.dict #[] } }) PySem.F.kt_called_dict (PySem.F.kt_typeCall_dict_1 _) PySem.F.entry_dict_init (kt_code_dict_new _ ⟨rfl,rfl⟩) ?_
  rintro obj s₁ ⟨rfl,rfl⟩
  have hg:(s.heap.push { cls:=.type "dict",data:=.dict #[] }).get? s.heap.objs.size=some _:=A1 _ rfl
  have hT:Shared.TypeIs { s with heap:=s.heap.push { cls:=.type "dict",data:=.dict #[] } } (.ref s.heap.objs.size) "dict":=⟨_,hg,rfl⟩
  have pz:=AT { cls:=.type "dict",data:=.dict #[] } hz
  refine ⟨hT,PySem.F.args_dict_init_2 _ _,?_⟩
  unfold Builtin.«dict.__init__»
  refine AN ?_
  unfold Builtin.Dict.selfAndRest
  refine AN (wpAny_notOrdered_dict hT ?_)
  show wpAny _ _ (pure (s.heap.objs.size,[Value.ref z])) _ _ _
  refine AO ?_
  show wpAny _ _ (Builtin.Dict.updateFrom "dict.__init__" s.heap.objs.size (.ref z) [] .none) _ _ _
  unfold Builtin.Dict.updateFrom
  refine AN (wpAny_typeOf (T:="zip") ⟨_,pz,rfl⟩ ?_)
  rw [if_pos (by decide)]
  refine AN (getAttr?_miss_zip pz rfl rfl rfl vP (by decide) ?_ fun h₁ tk₁ e₁ hx₁=>?_)
  · simpa using hh
  · have old:∀ c o,s.heap.get? c=some o->h₁.get? c=some o:=fun c o e=>hx₁.keeps c o (AT _ e)
    have hg₁:=hx₁.keeps _ _ hg
    simp only [Option.isNone_none,if_true]
    refine AN (wpAny_rule (AN (wpAny_pyIter_zip (f0:=.none) (old _ _ hz) (AO ⟨plainId_quiet Fz.plain_dict_update_loop _,?_⟩))))
    have ne:∀ {c:Addr},c < s.heap.objs.size->s.heap.objs.size ≠ c:=fun h=>Nat.ne_of_gt h
    have his₁:∀ t ∈ tr,knd.is h₁ t.1 t.2.1:=keep _ _ his fun c o _ _ _ _ e=>old c o e
    refine tU (A:=A.in1) (by simpa using hh) hu D (ne lz) (ne lTI) (ne lTO) (ne li1) (ne li2) (ne ll1) (ne ll2) hn hsz keep (tr.length - 0) 0 _ .none (.bool false) a b rfl (Nat.zero_le _) (old _ _ hz) (.inl ⟨rfl,rfl⟩) (old _ _ hTI) (old _ _ hTO)
      (h1.at fun o e=>old _ o e) ((fun ⟨o,e,r⟩=>⟨o,old _ o e,r⟩:s.heap.IsTupleIter i2 l2 0->_) h2) (hl1.at fun o e=>old _ o e) ((fun ⟨o,e,r⟩=>⟨o,old _ o e,r⟩:s.heap.IsTuple l2 _->_) hl2) his₁ ⟨_,#[],0,hg₁,⟨rfl,rfl,rfl⟩,rfl,rfl,(fun x hx=>by cases hx),List.nodup_nil,rfl⟩ fun h' tk hd' hk'=>?_
    refine ⟨rfl,hQ h' tk hd' fun c o c1 c2 c3 c4 e=>hk' c o c1 c2 c3 c4 (Ba (AZ e)) (old c o e)⟩
end
end L2
end
section
namespace L2
open PySem PySem.Spec PyProof.Rows
section
variable {X:Cx}
noncomputable def yK (K:FG) (ta:TA):TE:=fun σ H Q=>ta σ H fun vs H1=>∃ (l t:Addr) (bs:List (Addr × List Key)) (ws:List V),vs=[.ref l,.ref t]/\SqL K H1 l (bs.map fun b=>V.ref b.1)/\SqT K H1 t ws/\(∀ b ∈ bs,H1 b.1=some (.tup (b.2.map kV)))/\bs.length=ws.length/\(bs.map (·.2)).Nodup /\
  ∀ p,H1 p=none->Q (.ref p) (upd H1 p (.dT ((bs.map (·.2)).zip ws)))
noncomputable def gY:List (Addr × List Key)->List Value->List (List Key × Addr × Value)
  | b :: bs,v :: vs=>(b.2,b.1,v) :: gY bs vs
  | _,_=>[]
theorem mq:∀ {bs:List (Addr × List Key)} {vs:List Value},bs.length=vs.length->(gY bs vs).map (·.1)=bs.map (·.2)
  | [],[],_=>rfl
  | b :: bs,v :: vs,e=>by simp [gY,mq (bs:=bs) (vs:=vs) (by simpa using e)]
theorem mo:∀ {bs:List (Addr × List Key)} {vs:List Value},bs.length=vs.length->(gY bs vs).map (fun t=>Value.ref t.2.1)=bs.map fun b=>Value.ref b.1
  | [],[],_=>rfl
  | b :: bs,v :: vs,e=>by simp [gY,mo (bs:=bs) (vs:=vs) (by simpa using e)]
theorem mn:∀ {bs:List (Addr × List Key)} {vs:List Value},bs.length=vs.length->(gY bs vs).map (fun t=>t.2.2)=vs
  | [],[],_=>rfl
  | b :: bs,v :: vs,e=>by simp [gY,mn (bs:=bs) (vs:=vs) (by simpa using e)]
theorem oE:∀ {bs:List (Addr × List Key)} {vs:List Value},bs.length=vs.length->(gY bs vs).length=bs.length
  | [],[],_=>rfl
  | b :: bs,v :: vs,e=>by simp [gY,oE (bs:=bs) (vs:=vs) (by simpa using e)]
theorem oD:∀ {bs:List (Addr × List Key)} {vs:List Value} {t:List Key × Addr × Value},t ∈ gY bs vs->(t.2.1,t.1) ∈ bs
  | [],vs,t,h=>by cases vs <;> cases h
  | b :: bs,[],t,h=>by cases h
  | b :: bs,v :: vs,t,h=>by
    rcases AX.mp h with rfl | h
    · exact AR
    · exact AS _ (oD h)
theorem rn {H:Hp}:∀ {bs:List (Addr × List Key)} {ws:List V} {vs:List Value},Vals ws vs->bs.length=ws.length->(∀ b ∈ bs,H b.1=some (.tup (b.2.map kV)))->KT H ((bs.map (·.2)).zip ws) (gY bs vs)
  | [],_,_,.nil,_,_=>.nil
  | [],_,_,.cons _ _,e,_=>by cases e
  | b :: bs,_,_,.nil,e,_=>by cases e
  | b :: bs,_,_,.cons r rs,e,hb=>.cons ⟨rfl,hb b AR,r⟩ (rn rs (by simpa using e) fun c hc=>hb c (AS _ hc))
theorem wF (n l t:Nat) (hl:l < n) (ht:t < n):ZipApart (n+4) (n+2) (n+3) n (n+1) l t:=by
  constructor <;> intro e <;> (have e:(_:Nat)=_:=e;omega)
theorem mF:∀ {bs:List Addr} {its:List Value},Vals (bs.map V.ref) its->its=bs.map Value.ref
  | [],_,.nil=>rfl
  | _ :: bs,_,.cons r rs=>by cases r;rw [mF rs];rfl
theorem xK {a b:Expr} {ta:TA} {p1 p2 pos1 pos2:Pos} (hc:X.calm=true) (hu:X.A.units+64 < cLine) (hgl:Gl X "dict") (hml:X.mg "dict"=none) (hg:Gl X "zip") (hm:X.mg "zip"=none) (hbd:bootBuiltins "dict"=some (.type "dict")) (hbz:bootBuiltins "zip"=some (.type "zip")) (ha:PA X [a,b] ta)
    (hs:starEach [.Call (.Name "zip" p2) [a,b] [] pos2] X.env=[(false,eval (.Call (.Name "zip" p2) [a,b] [] pos2) X.env)]) (hs2:starEach [a,b] X.env=(false,eval a X.env) :: starEach [b] X.env) (hpl:(backTo pos2 (starEach [b] X.env)).any (·.1)=false) :
    PE X (.Call (.Name "dict" p1) [.Call (.Name "zip" p2) [a,b] [] pos2] [] pos1) (yK X.K ta):=by
  intro pins s σ H Q I h
  refine Call_ (jo I hgl hml hbd (PyProof.Rows.callWith_type1 ?_ hs rfl))
  rw [hs]
  show wpAny _ _ (spliced ((false,eval (.Call (.Name "zip" p2) [a,b] [] pos2) X.env) :: [])) _ _ s
  refine Calls.spliced_cons (Call_ (jo I hg hm hbz (PyProof.Rows.callWith_type1 (thn (ha pos2 pins s σ H _ I h) fun us s1 ⟨vs,H1,I1,r1,q1⟩=>?_) hs2 hpl)))
  obtain ⟨l,t,bs,ws,rfl,hl,ht,hb,hlen,hnd,q⟩:=q1
  cases r1 with
  | cons r rr =>
    cases rr with
    | cons r' rr =>
      cases rr
      cases r
      cases r'
      obtain ⟨its,rl,pl,zl⟩:=I1.list hl
      obtain ⟨vs,rt,pt,zt⟩:=I1.tuple ht
      have e1:its=(bs.map (·.1)).map Value.ref:=mF (by rw [BA];exact rl)
      have e2:bs.length=vs.length:=by rw [hlen];exact rt.length
      have pl':s1.heap.IsList l ((gY bs vs).map fun t=>Value.ref t.2.1).toArray:=by rw [mo e2];have:=pl.isList;rw [e1,BA] at this;exact this
      have pt':s1.heap.IsTuple t ((gY bs vs).map fun t=>t.2.2).toArray:=by rw [mn e2];exact pt
      have lt:∀ {c:Addr} {o:Obj},s1.heap.get? c=some o->c < s1.heap.objs.size:=fun e=>AZ e
      have ll:l < s1.heap.objs.size:=by obtain ⟨_,e,_⟩:=pl';exact lt e
      have lt':t < s1.heap.objs.size:=by obtain ⟨_,e,_⟩:=pt';exact lt e
      refine t6 pl' pt' fun h2 hz hTI hTO hi1 hi2 hsz hk=>Calls.spliced_nil ?_
      have D:=wF s1.heap.objs.size l t ll lt'
      have key:∀ x ∈ gY bs vs,(tupleKind (bK X.prog X.w)).is s1.heap x.1 x.2.1:=fun x hx=>nN I1.hok (hb _ (oD hx))
      have keep:∀ h h':Heap,(∀ x ∈ gY bs vs,(tupleKind (bK X.prog X.w)).is h x.1 x.2.1)->(∀ c o,c ≠ s1.heap.objs.size+4->c ≠ s1.heap.objs.size+3->c ≠ s1.heap.objs.size->c ≠ s1.heap.objs.size+1->h.get? c=some o->h'.get? c=some o)->∀ x ∈ gY bs vs,(tupleKind (bK X.prog X.w)).is h' x.1 x.2.1:=fun h h' hi hk x hx=>by
        obtain ⟨o,its,n,g1,g2,g3,g4⟩:=hi x hx
        obtain ⟨o0,its0,n0,k1,_⟩:=key x hx
        have:=lt k1
        exact ⟨o,its,n,hk _ _ (Ba (Nat.lt_add_right 4 this)) (Ba (Nat.lt_add_right 3 this)) (Ba this) (Ba (Nat.lt_add_right 1 this)) g1,g2,g3,g4⟩
      refine n5 (knd:=tupleKind (bK X.prog X.w)) (I.ok.hd hc) (show X.A.units+1+1 < cLine by omega) D (by rw [mq e2];exact hnd) (by rw [oE e2,e2];have:=zt;have:=rt.length;omega) keep hz hTI hTO hi1 hi2 (pl'.at fun o e=>hk _ o e) ((fun ⟨o,e,r⟩=>⟨o,hk _ o e,r⟩:s1.heap.IsTuple t _->_) pt') (fun x hx=>?_) fun h' tk hd hk'=>?_
      · obtain ⟨o,its,n,g1,g2,g3,g4⟩:=key x hx
        exact ⟨o,its,n,hk _ _ g1,g2,g3,g4⟩
      · rw [hsz] at hd ⊢
        have old:∀ c o,s1.heap.get? c=some o->h'.get? c=some o:=fun c o e=>hk' c o (Ba (Nat.lt_add_right 4 (lt e))) (Ba (Nat.lt_add_right 3 (lt e))) (Ba (lt e)) (Ba (Nat.lt_add_right 1 (lt e))) (hk c o e)
        have fr:s1.heap.objs.size<=s1.heap.objs.size+5:=by omega
        have hp:=I1.hok.fresh fr
        refine ⟨.ref (s1.heap.objs.size+5),_,I1.laid (a:=s1.heap.objs.size+5) (o:=.dT ((bs.map (·.2)).zip ws)) (t':=tk) old fr ⟨?_,?_,gY bs vs,(rn rt hlen hb).keeps fun b ys e=>?_,?_⟩,rfl,q _ hp⟩
        · rw [List.length_zip];simp only [A2];have:=zt;have:=rt.length;omega
        · exact beq_eq_false_iff_ne.mpr (Nat.ne_of_gt (Nat.lt_add_right 5 I1.big))
        · rw [aN]
          · exact e
          · intro x;rw [x] at e;rw [hp] at e;cases e
        · obtain ⟨o,es,ep,g1,g2,g3,g4,g5,g6,g7⟩:=hd
          exact ⟨o,es,ep,g1,g2,g3,g4,g6,g7⟩
end
end L2
end
section
namespace L2
open PySem PySem.Spec PyProof.Rows
end L2
end
section
namespace L2
open PySem PySem.Spec PyProof.Rows
noncomputable def IsNts (h:Heap) (b:Addr) (n:List Int):Prop:=∃ it:Array Value,IsTup h b it/\IntsAre it.toList n
end L2
end
section
namespace L2
open PySem PySem.Spec PyProof.Rows
end L2
end
section
namespace L2
open PySem PySem.Spec PyProof.Rows
end L2
end
section
namespace L2
open PySem PySem.Spec PyProof.Rows
end L2
end
section
namespace L2
open PySem PySem.Spec PyProof.Rows
theorem IsNts.at {h h':Heap} {b:Addr} {n:List Int} (x:IsNts h b n) (e:∀ o,h.get? b=some o->h'.get? b=some o):IsNts h' b n:=by
  obtain ⟨it,⟨o,e1,r⟩,j⟩:=x
  exact ⟨it,⟨o,e o e1,r⟩,j⟩
structure NRow (h:Heap) (bs:List Addr) (ns:List (List Int)):Prop where
  len:ns.length=bs.length
  at':∀ (i:Nat) (b:Addr) (n:List Int),bs[i]?=some b->ns[i]?=some n->IsNts h b n/\n ≠ []
  asc:∀ (i:Nat) (x y:List Int),ns[i]?=some y->ns[i+1]?=some x->HT.lexLt x y=false
theorem NRow.keep {h h':Heap} {bs:List Addr} {ns:List (List Int)} (r:NRow h bs ns) (k:∀ b ∈ bs,∀ o,h.get? b=some o->h'.get? b=some o):NRow h' bs ns :=
  ⟨r.len,fun i b n e1 e2=>⟨(r.at' i b n e1 e2).1.at (k b (A4 e1)),(r.at' i b n e1 e2).2⟩,r.asc⟩
end L2
end
section
namespace L2
open PySem PySem.Spec PyProof.Rows
end L2
end
section
namespace L2
open PySem
noncomputable abbrev Up (xs:Array Nat):Prop:=xs.toList.Pairwise (· < ·)
theorem Up.at {xs:Array Nat} (h:Up xs) {i k:Nat} (hik:i < k) (hk:k < xs.size):xs[i]'(by omega) < xs[k]:=by
  have:=List.pairwise_iff_getElem.mp h i k (by simp;omega) (by simpa using hk) hik
  simpa using this
theorem wx {xs:Array Nat} (h:Up xs) (j:Nat):∀ (fuel lo hi:Nat),hi - lo<=fuel->lo<=hi->hi<=xs.size ->
    (∀ i (z:i < xs.size),i < lo->xs[i] < j)->(∀ i (z:i < xs.size),hi<=i->j<=xs[i]) ->
    (∀ i (z:i < xs.size),i < SetTable.below.go xs j fuel lo hi->xs[i] < j)/\(∀ i (z:i < xs.size),SetTable.below.go xs j fuel lo hi<=i->j<=xs[i])/\SetTable.below.go xs j fuel lo hi<=xs.size:=by
  intro fuel
  induction fuel with
  | zero =>
    intro lo hi f l z a b
    have e:lo=hi:=by omega
    subst e
    unfold SetTable.below.go
    exact ⟨a,b,z⟩
  | succ fuel ih =>
    intro lo hi f l z a b
    unfold SetTable.below.go
    by_cases hl:lo < hi
    · rw [if_pos hl]
      have hm:(lo+hi) / 2 < xs.size:=by omega
      have hg:xs.getD ((lo+hi) / 2) j=xs[(lo+hi) / 2]:=by simp [Array.getD,hm]
      dsimp only
      rw [hg]
      by_cases hc:xs[(lo+hi) / 2] < j
      · rw [if_pos hc]
        refine ih _ _ (by omega) (by omega) z (fun i zi hi'=>?_) b
        by_cases e:i=(lo+hi) / 2
        · subst e;exact hc
        · exact Nat.lt_trans (h.at (show i < (lo+hi) / 2 by omega) hm) hc
      · rw [if_neg hc]
        refine ih _ _ (by omega) (by omega) (by omega) a (fun i zi hi'=>?_)
        by_cases e:i=(lo+hi) / 2
        · subst e;omega
        · have:=h.at (show (lo+hi) / 2 < i by omega) zi;omega
    · rw [if_neg hl]
      have e:lo=hi:=by omega
      subst e
      exact ⟨a,b,z⟩
theorem lR {xs:Array Nat} (h:Up xs) (j:Nat):(∀ i (z:i < xs.size),i < SetTable.below xs j->xs[i] < j)/\(∀ i (z:i < xs.size),SetTable.below xs j<=i->j<=xs[i])/\SetTable.below xs j<=xs.size :=
  wx h j xs.size 0 xs.size (by omega) (by omega) (A8 _) (fun i z c=>by omega) (fun i z c=>by omega)
theorem qY {xs:Array Nat} (h:Up xs) {i:Nat} (hi:i < xs.size):SetTable.below xs (xs[i]+1)=i+1:=by
  obtain ⟨a,b,c⟩:=lR h (xs[i]+1)
  generalize SetTable.below xs (xs[i]+1)=r at *
  by_cases l:r<=i
  · have:=b i hi l;omega
  · by_cases g:i+1 < r
    · have h1:=a (i+1) (by omega) g
      have h2:=h.at (show i < i+1 by omega) (by omega)
      omega
    · omega
theorem qX {xs:Array Nat} (h:Up xs):SetTable.below xs 0=0:=by
  obtain ⟨a,b,c⟩:=lR h 0
  by_cases l:0 < SetTable.below xs 0
  · have:=a 0 (by omega) l;omega
  · omega
theorem sG {xs:Array Nat} (h:Up xs) {j:Nat} (hj:(xs[SetTable.below xs j]? == some j)=false):Up (SetTable.insertAt xs (SetTable.below xs j) j):=by
  obtain ⟨a,b,c⟩:=lR h j
  show (SetTable.insertAt xs (SetTable.below xs j) j).toList.Pairwise _
  rw [SetTable.toList_insertAt]
  generalize SetTable.below xs j=r at *
  have hlt:∀ x ∈ xs.toList.take r,x < j:=fun x hx=>by
    obtain ⟨i,hi,rfl⟩:=List.mem_take_iff_getElem.mp hx
    simp at hi
    exact a i (by omega) (by omega)
  have hgt:∀ x ∈ xs.toList.drop r,j < x:=fun x hx=>by
    obtain ⟨i,hi,rfl⟩:=List.mem_drop_iff_getElem.mp hx
    simp at hi
    have h1:=b (r+i) (by omega) (by omega)
    have h2:xs[r]'(by omega) ≠ j:=by
      intro e
      rw [Array.getElem?_eq_getElem (by omega),e] at hj
      simp at hj
    simp only [Array.getElem_toList]
    rcases Nat.eq_zero_or_pos i with e | e
    · subst e
      simp only [Nat.add_zero] at h1 ⊢
      omega
    · have h3:=h.at (show r < r+i by omega) (by omega)
      have h4:=b r (by omega) (A8 _)
      omega
  have hp:(xs.toList.take r ++ xs.toList.drop r).Pairwise (· < ·):=by rw [List.take_append_drop];exact h
  rw [List.pairwise_append] at hp ⊢
  refine ⟨hp.1,List.pairwise_cons.mpr ⟨hgt,hp.2.1⟩,fun x hx y hy=>?_⟩
  rcases AX.mp hy with rfl | hy
  · exact hlt x hx
  · exact Nat.lt_trans (hlt x hx) (hgt y hy)
theorem sL {t:SetTable} {j:Nat} (h:∀ i,t.slot j ≠ .live i):(t.place[SetTable.below t.place j]? == some j)=false:=by
  cases e:(t.place[SetTable.below t.place j]? == some j) with
  | false=>rfl
  | true =>
    refine absurd ?_ (h (SetTable.below t.place j))
    unfold SetTable.slot
    simp only [e,if_true]
set_option tactic.hygienic true in
theorem vg {t:SetTable} {f:Nat->Int} {h:Int} {j:Nat} {d:Option Nat}:∀ (n:Nat) (p:SetTable.Probe),(∀ x,p.dummy=some x->∀ i,t.slot x ≠ .live i) ->
    SetTable.probe.go t f h n p=some (.empty j d)->∀ i,t.slot (d.getD j) ≠ .live i:=by
  intro n
  induction n with
  | zero=>intro p _ e;simp [SetTable.probe.go] at e
  | succ n ih =>
    intro p hp e
    have adv:∀ q:SetTable.Probe,(t.advance q).dummy=q.dummy:=fun q=>by unfold SetTable.advance;split <;> rfl
    unfold SetTable.probe.go at e
    split at e
    · rename_i hs
      simp only [Option.some.injEq,SetTable.Met.empty.injEq] at e
      obtain ⟨e1,e2⟩:=e
      cases hd:p.dummy with
      | none=>rw [<- e2,hd,Option.getD_none,<- e1,hs];exact fun i z=>by cases z
      | some x=>rw [<- e2,hd,Option.getD_some];exact hp x hd
    · rename_i hs
      refine ih _ (fun x hx=>?_) e
      rw [adv] at hx
      simp only [Option.some.injEq] at hx
      rw [<- hx,hs]
      exact fun i z=>by cases z
    · split at e
      · simp at e
      · exact ih _ (fun x hx=>hp x (by rw [<- hx,adv])) e
set_option tactic.hygienic true in
theorem tL {t:SetTable} {h:Int} {j:Nat} {b:Bool} (e:t.freeSlot h=some (j,b)):∀ i,t.slot j ≠ .live i:=by
  unfold SetTable.freeSlot at e
  split at e
  · rename_i j' d hp
    simp only [Option.some.injEq,Prod.mk.injEq] at e
    rw [<- e.1]
    exact vg _ _ (fun x hx=>by simp [SetTable.probeStart] at hx) hp
  · cases e
structure Tab (b:Bool) (t:SetTable):Prop where
  up:Up t.place
  led:t.led=b
theorem ut (n:Nat):Up (Array.range n):=by
  show (Array.range n).toList.Pairwise _
  rw [Array.toList_range]
  exact List.pairwise_lt_range
theorem Tab.stand {b:Bool} {t:SetTable} (h:Tab b t) (n:Nat):Tab b (t.standIn n):=⟨ut n,h.led⟩
theorem Tab.or {b:Bool} {t:SetTable} (h:Tab b t) (n:Nat):Tab b (t.orStandIn n):=by
  unfold SetTable.orStandIn
  split
  · exact h
  · exact h.stand n
set_option tactic.hygienic true in
theorem Tab.new {b:Bool} {t:SetTable} (h:Tab b t) (es:Array (Int × Value)) (k:Int) (x:Value):Tab b (layNew t es k x).2.1:=by
  unfold layNew
  split
  · rename_i j d e
    have z:Tab b (t.put j).1:=⟨sG h.up (sL (tL e)),h.led⟩
    exact z.or _
  · exact h.stand _
set_option tactic.hygienic true in
theorem Tab.all {b:Bool} {t:SetTable} (h:Tab b t) (es:Array (Int × Value)) (n:Nat):Tab b (relayAll t es n).2.1:=by
  unfold relayAll
  split
  · rename_i t' order e
    dsimp only
    split
    · unfold SetTable.relaid SetTable.laid at e
      simp only [Option.bind_eq_bind,Bo,Option.pure_def,Option.some.injEq,Prod.mk.injEq] at e
      obtain ⟨ow,_,e1,_⟩:=e
      subst e1
      refine ⟨?_,h.led⟩
      have aux:∀ (f:Nat->Option Nat) (m:Nat),((List.filterMap (fun j=>(f j).map (j,·)) (List.range m)).map (·.1)).Pairwise (· < ·):=fun f m=>by
        rw [List.pairwise_map,List.pairwise_filterMap]
        refine List.pairwise_lt_range.imp fun {a c} hac x hx y hy=>?_
        rw [AU] at hx hy
        obtain ⟨_,_,rfl⟩:=hx
        obtain ⟨_,_,rfl⟩:=hy
        exact hac
      exact aux _ _
    · exact h.stand _
  · exact h.stand _
theorem Tab.off {b:Bool} {t:SetTable} (h:Tab b t) (c:Bool):Tab b (if c=true then t else { t with plain:=false }):=by
  cases c
  · exact ⟨h.up,h.led⟩
  · exact h
end L2
end
section
namespace L2
open PySem PyProof.Rows
noncomputable abbrev iF (w:World):Bool:=!w.params.followText "set-order"
noncomputable def SetL (prog:Program) (w:World) (h:Heap) (a:Addr) (ns:List Int):Prop :=
  ∃ o es ep t ms,h.get? a=some o/\o.ExactSet/\o.data=.set es ep t/\ElemsOf (intKind prog w) es.toList/\IntsAre (es.toList.map (·.2)) ms/\ms.Perm ns/\es.size < scanBound/\t.fits es.size=true/\Tab (iF w) t
theorem SetL.keep {prog:Program} {w:World} {h h':Heap} {a:Addr} {ns:List Int} (x:SetL prog w h a ns) (k:∀ o,h.get? a=some o->h'.get? a=some o):SetL prog w h' a ns :=
  let ⟨o,es,ep,t,ms,e,r⟩:=x;⟨o,es,ep,t,ms,k o e,r⟩
theorem SetL.typeIs {prog:Program} {w:World} {s:Shared} {a:Addr} {ns:List Int} (x:SetL prog w s.heap a ns):s.TypeIs (.ref a) "set" :=
  let ⟨o,_,_,_,_,e,c,_⟩:=x;⟨o,e,c.1⟩
noncomputable def met (ns:List Int) (k:Int):List Int:=if k ∈ ns then ns else ns ++ [k]
theorem fZ {prog:Program} {w:World}:∀ {l:List (Int × Value)},ElemsOf (intKind prog w) l->∃ ms,IntsAre (l.map (·.2)) ms
  | [],_=>⟨[],.nil⟩
  | e :: l,h=>by
    obtain ⟨ms,hm⟩:=fZ h.tail
    obtain ⟨⟨k,hk,_⟩,_⟩:=h.head
    obtain ⟨t,ht⟩:=Value.isInt_shape hk
    refine ⟨k :: ms,?_⟩
    rw [Bc,ht]
    exact .cons k t hm
theorem j3 {vs ws:List Value} {ns ms:List Int} (p:List.Perm vs ws) (a:IntsAre vs ns) (b:IntsAre ws ms):ns.Perm ms:=by
  rw [<- a.nums,<- b.nums]
  exact p.map _
section
variable {prog:Program} {w:World} {A:Around} {E:Value->Shared->Prop} {s:Shared}
theorem tN {l:List (Int × Value)} {ms:List Int} {k:Int} (hi:IntsAre (l.map (·.2)) ms):(l.findIdx? (fun e=>(intKind prog w).is k e.2)).isSome=true ↔ k ∈ ms:=by
  induction l generalizing ms with
  | nil=>cases hi;simp
  | cons e l ih =>
    obtain ⟨h0,v⟩:=e
    rw [Bc] at hi
    cases hi with
    | cons n t hr =>
      rw [List.findIdx?_cons]
      by_cases c:k=n
      · subst c
        rw [if_pos (intKind_is prog w k t)]
        simp
      · have:(intKind prog w).is k (Value.int n t)=false:=by
          cases z:(intKind prog w).is k (Value.int n t) with
          | false=>rfl
          | true=>exact absurd ((intKind prog w).inj _ _ _ z (intKind_is prog w n t)) c
        rw [this]
        simp only [Bq,if_false,Option.isSome_map,AX,c,false_or]
        exact ih hr
theorem uJ {a:Addr} {ns:List Int} {k:Int} {tk:Tok} {Q:Bool->Shared->Prop} (hS:SetL prog w s.heap a ns) (hroom:ns.length+1 < scanBound)
    (h:∀ b h',Heap.SameBut a s.heap h'->SetL prog w h' a (met ns k)->Q b { s with heap:=h' }):wpAny (model prog w) A (setAddHashed a (.int k tk) (hashInt k)) Q E s:=by
  obtain ⟨o,es,ep,t,ms,ho,hex,hd,hel,hi,hp,hb,hf,ht⟩:=hS
  have hn:es.size=ns.length:=by rw [<- hp.length_eq,<- hi.length,A2,Array.length_toList]
  have fi:=tN (prog:=prog) (w:=w) (k:=k) hi
  unfold setAddHashed setAddHashedIn
  refine AQ (AN (wpAny_setState_of ho hd hf ?_))
  dsimp only
  rw [if_pos (byScan_of (x:=.int k tk) rfl hb hel)]
  refine AN (AN (wpAny_rule (AN (wpAny_setScan_of (knd:=intKind prog w) (intKind_is prog w k tk) ho hd hf hel ?_))))
  cases hr:List.findIdx? (fun e=>(intKind prog w).is k e.2) es.toList with
  | some j =>
    rw [hr] at fi
    have hk:k ∈ ns:=hp.mem_iff.mp (fi.mp rfl)
    refine AO (AO ?_)
    have:=h false s.heap (Heap.SameBut.refl a s.heap) ⟨o,es,ep,t,ms,ho,hex,hd,hel,hi,by rw [met,if_pos hk];exact hp,hb,hf,ht⟩
    exact this
  | none =>
    rw [hr] at fi
    have hk:k ∉ ns:=fun z=>by have:=fi.mpr (hp.mem_iff.mpr z);simp at this
    have p1:=layNew_perm t es (hashInt k) (.int k tk)
    have f1:=layNew_fits t es (hashInt k) (.int k tk)
    have t1:=ht.new es (hashInt k) (.int k tk)
    generalize layNew t es (hashInt k) (.int k tk)=L at p1 f1 t1 ⊢
    obtain ⟨es1,u,wd,gave⟩:=L
    dsimp only at p1 f1 t1 ⊢
    rw [Array.toList_push] at p1
    have el1:ElemsOf (intKind prog w) es1.toList:=(hel.push (intKind_is prog w k tk) rfl).perm p1
    obtain ⟨ms1,i1⟩:=fZ el1
    have b1:es1.size=es.size+1:=by have:=p1.length_eq;simpa using this
    have q1:ms1.Perm (met ns k):=by
      have i0:IntsAre ((es.toList ++ [(hashInt k,Value.int k tk)]).map (·.2)) (ms ++ [k]):=by
        rw [List.map_append]
        exact hi.append (.cons k tk .nil)
      rw [met,if_neg hk]
      exact (j3 (p1.map _) i1 i0).trans (hp.append_right [k])
    have done:∀ (h1:Heap) (o1:Obj) (es2:Array (Int × Value)) (ep2:Nat) (t2:SetTable),h1.get? a=some o1->o1.ExactSet->o1.data=.set es2 ep2 t2->es2.toList.Perm es1.toList->t2.fits es2.size=true->Tab (iF w) t2->Heap.SameBut a s.heap h1->Q true { s with heap:=h1 }:=by
      intro h1 o1 es2 ep2 t2 g1 g2 g3 g4 g5 g6 g7
      obtain ⟨ms2,i2⟩:=fZ (el1.perm g4)
      exact h true h1 g7 ⟨o1,es2,ep2,t2,ms2,g1,g2,g3,el1.perm g4,i2,(j3 (g4.map _) i2 i1).trans q1,by have:=g4.length_eq;simp at this;omega,g5,g6⟩
    have hg:∀ (b:Bool) {s₁:Shared} {Q':Unit->Shared->Prop},Q' () s₁->wpAny (model prog w) A (match b with | true=>rule "set.scan.the-table-gave-way" | false=>pure ()) Q' E s₁:=fun b s₁ Q' q=>by
      cases b
      · exact AO q
      · exact wpAny_rule q
    have two:∀ (c:Bool),wpAny (model prog w) A (do
        storeSet a es1 (if c=true then u else { u with plain:=false })
        if (!wd && (if c=true then u else { u with plain:=false }).tooFull)=true then do
          let r:=relayAll (if c=true then u else { u with plain:=false }) es1 (SetTable.grown es1.size)
          (match r.2.2 with | true=>rule "set.scan.the-table-gave-way" | false=>pure ())
          storeSet a r.1 r.2.1
          pure (some true)
        else pure (some true)) (fun r s'=>r=some true/\Q true s') E s:=by
      intro c
      have t2:=t1.off c
      have f2:(if c=true then u else { u with plain:=false }).fits es1.size=true:=by cases c <;> exact f1
      generalize (if c=true then u else { u with plain:=false })=v at t2 f2 ⊢
      refine AN (wpAny_storeSet_of (hz:=fits_of_scanBound (by omega)) ho hd ?_)
      have o1:(s.heap.update a (Obj.putSet es1 v)).get? a=some { o with data:=.set es1 (ep+1) v }:=by
        have:=Bh (Obj.putSet es1 v) ho (by rw [putSet_of es1 v hd];rfl)
        rw [putSet_of es1 v hd] at this
        exact this
      split
      · have p3:=relayAll_perm v es1 (SetTable.grown es1.size)
        have f3:=relayAll_fits v es1 (SetTable.grown es1.size)
        have t3:=t2.all es1 (SetTable.grown es1.size)
        generalize relayAll v es1 (SetTable.grown es1.size)=r at p3 f3 t3 ⊢
        obtain ⟨es2,v2,g2⟩:=r
        dsimp only at p3 f3 t3 ⊢
        have b3:es2.size=es1.size:=by have:=p3.length_eq;simpa using this
        refine AN (hg _ (AN (wpAny_storeSet_of (hz:=fits_of_scanBound (by omega)) o1 rfl (AO ⟨rfl,?_⟩))))
        have o2:((s.heap.update a (Obj.putSet es1 v)).update a (Obj.putSet es2 v2)).get? a=some { o with data:=.set es2 (ep+1+1) v2 }:=by
          have:=Bh (Obj.putSet es2 v2) o1 (by rw [putSet_of es2 v2 rfl];rfl)
          rw [putSet_of es2 v2 rfl] at this
          exact this
        exact done _ _ es2 _ v2 o2 hex rfl p3 f3 t3 ((Heap.SameBut.update _ a _).trans (Heap.SameBut.update _ a _))
      · refine AO ⟨rfl,?_⟩
        exact done _ _ es1 _ v o1 hex rfl (List.Perm.refl _) f2 t2 (Heap.SameBut.update _ a _)
    have fin:∀ (r:Option Bool) (s':Shared) {x:Sem Bool},r=some true/\Q true s'->wpAny (model prog w) A (match r with | some b=>pure b | none=>x) Q E s':=fun r s' x z=>by
      obtain ⟨rfl,q⟩:=z
      exact AO q
    refine AN (hg _ ?_)
    split
    · refine AN (wpAny_of_eq (a:=true) rfl ?_)
      exact wpAny_mono (two true) (fun r s' z=>fin r s' z) fun _ _ z=>z
    · refine AN (AO ?_)
      exact wpAny_mono (two true) (fun r s' z=>fin r s' z) fun _ _ z=>z
end
end L2
end
section
namespace L2
open PySem PyProof.Rows
theorem rN (ns:List Int) (k:Int):(met ns k).length<=ns.length+1:=by
  unfold met
  split <;> simp
theorem pg:∀ (ks ns:List Int),(ks.foldl met ns).length<=ns.length+ks.length
  | [],ns=>A8 _
  | k :: ks,ns=>by
    have a:=pg ks (met ns k)
    have b:=rN ns k
    simp only [List.foldl_cons,Bj]
    omega
section
variable {prog:Program} {w:World} {A:Around} {E:Value->Shared->Prop}
theorem uF {S I l:Addr} {items:Array Value} {R:Result->Shared->Prop} (hh:A.handled=none) (n1:I ≠ S) (n2:l ≠ S) (n3:l ≠ I) :
    ∀ (k i:Nat) (s:Shared) (ns ms:List Int),items.size - i=k->s.heap.IsTupleIter I l i->s.heap.IsTuple l items->IntsAre (items.toList.drop i) ms->SetL prog w s.heap S ns->ns.length+ms.length+1 < scanBound ->
      (∀ h' tk,SetL prog w h' S (ms.foldl met ns)->(∀ b o,b ≠ S->b ≠ I->s.heap.get? b=some o->h'.get? b=some o)->R (.ok (.ret .none)) { s with heap:=h',toks:=tk }) ->
      codeAny (model prog w) A (.builtin "set.update.loop" ⟨[.ref S,.ref I],[]⟩) R s:=by
  intro k
  induction k with
  | zero =>
    intro i s ns ms hk hi hl him hS hb hR
    refine codeAny_builtin F.entry_set_update_loop ?_
    rw [Around.under_plainId F.plain_set_update_loop _]
    have e:ms=[]:=by
      rw [List.drop_eq_nil_of_le (by simp;omega)] at him
      cases him
      rfl
    subst e
    refine AN (wpAny_pyNext_tuple_end (s:=s) hh hi hl (Array.getElem?_eq_none (by omega)) fun h' hx=>?_)
    exact AO (hR h' s.toks (hS.keep fun o e=>hx _ _ (Ne.symm n1) e) fun b o _ c e=>hx _ _ c e)
  | succ k ih =>
    intro i s ns ms hk hi hl him hS hb hR
    have lt:i < items.size:=by omega
    refine codeAny_builtin F.entry_set_update_loop ?_
    rw [Around.under_plainId F.plain_set_update_loop _]
    rw [List.drop_eq_getElem_cons (by simpa using lt)] at him
    generalize hv:items.toList[i]=v at him
    have hx:items[i]?=some v:=by rw [<- hv,Array.getElem?_eq_getElem lt,Array.getElem_toList]
    cases him with
    | @cons n t _ ms' hr =>
      refine AN (wpAny_pyNext_tuple_item (s:=s) hi hl hx fun h1 j1 s1=>?_)
      have S1:SetL prog w h1 S ns:=hS.keep fun o e=>s1.extBut _ _ (Ne.symm n1) e
      have l1:h1.IsTuple l items:=hl.extBut s1.extBut n3
      refine AN (AQ (AQ (AN ((intKind prog w).pyHash (k:=n) (intKind_is prog w n t) ?_))))
      refine uJ (s:={ s with heap:=h1,toks:=s.toks+1 }) S1 (by simp only [Bj] at hb;omega) fun b h2 s2 S2=>?_
      refine AO ⟨plainId_quiet F.plain_set_update_loop _,?_⟩
      have ml:=rN ns n
      refine ih (i+1) { s with heap:=h2,toks:=s.toks+1 } (met ns n) ms' (by omega) (j1.extBut s2.extBut n1) (l1.extBut s2.extBut n2) hr S2 (by simp only [Bj] at hb;omega) fun h3 tk3 S3 k3=>?_
      exact hR h3 tk3 S3 fun b o c1 c2 e=>k3 b o c1 c2 (s2.extBut _ _ c1 (s1.extBut _ _ c2 e))
variable {s:Shared}
theorem xT {a:Value} {Q:Value->Shared->Prop} (h:∀ o,o=({ cls:=.type "set",dict:=none,data:=.set #[] 0 (.fresh 0 0 (iF w)) }:Obj)->Q (.ref s.heap.objs.size) { s with heap:=s.heap.push o }) :
    codeAny (model prog w) A (.call (.builtin "set.__new__") ⟨[.type "set",a],[]⟩) (wants Q E) s:=by
  refine codeAny_of_tree ?_
  refine AN (wpAny_of_eq (F.newCall_set_1 a) (AO ⟨plainId_quiet F.plain_set_new _,codeAny_builtin F.entry_set_new ?_⟩))
  rw [Around.under_plainId F.plain_set_new _]
  have sub:=sub_set_self
  obtain ⟨hp,g,d,tk,os⟩:=s
  wp_walk
  refine wpAny_askSetting ?_
  wp_walk
  exact h _ rfl
theorem nZ {l:Addr} {items:Array Value} {ns:List Int} {Q:Value->Shared->Prop} (hh:A.handled=none) (hl:s.heap.IsTuple l items) (hi:IntsAre items.toList ns) (hb:items.size+1 < scanBound)
    (h:∀ h' tk,SetL prog w h' s.heap.objs.size (ns.foldl met [])->(∀ b o,s.heap.get? b=some o->h'.get? b=some o)->Q (.ref s.heap.objs.size) { s with heap:=h',toks:=tk }) :
    wpAny (model prog w) A (call (.type "set") [.ref l]) Q E s:=by
  obtain ⟨c,tl,hmro⟩:=F.called_set.mro
  have made:=F.called_set.made
  have below:=F.called_set.sub
  have noType:=F.called_set.notType
  have can:=F.called_set.canCreate
  have one:=F.typeCall_set_1 (.ref l)
  obtain ⟨hp,g,d,tk,os⟩:=s
  refine wpAny_call (codeAny_of_tree (AO ⟨Code.quiet_builtin _ (by decide +kernel),codeAny_builtin F.entry_type_call ?_⟩))
  rw [Around.under_plain (weight_type_call_type "set" [.ref l] []) rfl]
  repeat (any_goals (first | assumption | wp_step))
  refine codeAny_mono (xT (E:=E) (Q:=fun v s₁=>v=.ref hp.objs.size/\s₁=⟨hp.push { cls:=.type "set",dict:=none,data:=.set #[] 0 (.fresh 0 0 (iF w)) },g,d,tk,os⟩) fun o e=>by subst e;exact ⟨rfl,rfl⟩) ?_
  rintro (e | f) s₁ hr
  · exact hr
  cases f with
  | ret v =>
    obtain ⟨rfl,rfl⟩:=hr
    have got:(hp.push { cls:=.type "set",dict:=none,data:=.set #[] 0 (.fresh 0 0 (iF w)) }).get? hp.objs.size=some { cls:=.type "set",dict:=none,data:=.set #[] 0 (.fresh 0 0 (iF w)) }:=A1 _ rfl
    have ty:(⟨hp.push { cls:=.type "set",dict:=none,data:=.set #[] 0 (.fresh 0 0 (iF w)) },g,d,tk,os⟩:Shared).TypeIs (.ref hp.objs.size) "set":=⟨_,got,rfl⟩
    have l0:(hp.push { cls:=.type "set",dict:=none,data:=.set #[] 0 (.fresh 0 0 (iF w)) }).IsTuple l items:=hl.push _
    refine AN (wpAny_isInstance ty sub_set_self (wpAny_ite_false rfl ?_))
    refine AN (AQ (wpAny_callSpecial?_slot ty F.called_set.init (wpAny_call (codeAny_call_builtin F.called_set.init.plain F.entry_set_init (check_set_init_1 ty ?_)))))
    obtain ⟨⟨c2,d2,x2,s2⟩,h2,e3,n2,e4⟩:=id l0
    simp only at e3 e4
    subst e3 e4
    have no1:=F.sub_tuple_set
    have no2:=F.sub_tuple_frozenset
    wp_walk using wpAny_pyIter_tuple l0
    have lt:l < hp.objs.size:=by obtain ⟨_,e,_⟩:=hl;exact AZ e
    refine uF (l:=l) (items:=items) (by simpa using hh) (by rw [Bu];exact Nat.ne_of_gt (Nat.lt_succ_self _)) (Ba lt) (by rw [Bu];exact Ba (Nat.lt_succ_of_lt lt)) items.size 0 _ [] ns (by omega) ⟨_,A1 _ rfl,rfl,rfl⟩ (l0.push _) (by simpa using hi) ⟨_,#[],0,_,[],AT _ got,⟨rfl,rfl,rfl⟩,rfl,(fun e he=>by simp at he),.nil,List.Perm.refl _,by decide,rfl,⟨List.Pairwise.nil,rfl⟩⟩ (by have:=hi.length;simp at this;simp;omega) fun h' tk' S k=>?_
    wp_walk
    exact h h' tk' S fun b o e=>k b o (fun z=>by subst z;exact absurd (AZ e) (Nat.lt_irrefl _)) (fun z=>by have a:=AZ e;rw [z,Bu] at a;exact absurd a (Nat.not_lt.mpr (Nat.le_succ _))) (AT _ (AT _ e))
  | _=>exact hr.elim
end
end L2
end
section
namespace L2
open PySem PyProof.Rows
theorem xI {α:Type} (f:Nat->Nat):∀ (n k:Nat) (left:List α) (out:Array α),left.length<=n->(pickOrder.go f n k left out).toList.Perm (out.toList ++ left):=by
  intro n
  induction n with
  | zero =>
    intro k left out h
    obtain rfl:left=[]:=BD.mp (by omega)
    simp [pickOrder.go]
  | succ n ih =>
    intro k left out h
    unfold pickOrder.go
    cases e:left[f k % left.length]? with
    | none =>
      have hl:left.length<=f k % left.length:=List.getElem?_eq_none_iff.mp e
      have z:left.length=0:=by
        rcases Nat.eq_zero_or_pos left.length with z | z
        · exact z
        · have:=Nat.mod_lt (f k) z;omega
      obtain rfl:left=[]:=BD.mp z
      simp
    | some x =>
      have hlt:f k % left.length < left.length:=(A3.mp e).1
      dsimp only
      refine (ih _ _ _ (by rw [List.length_eraseIdx];split <;> omega)).trans ?_
      rw [Array.toList_push,List.append_assoc]
      refine List.Perm.append_left _ ?_
      rw [List.eraseIdx_eq_take_drop_succ]
      have e2:left=left.take (f k % left.length) ++ x :: left.drop (f k % left.length+1):=by
        rw [<- (A3.mp e).2,<- List.drop_eq_getElem_cons hlt,List.take_append_drop]
      have p:=(List.perm_middle (a:=x) (l₁:=left.take (f k % left.length)) (l₂:=left.drop (f k % left.length+1))).symm
      rw [<- e2] at p
      exact p
theorem sW {α:Type} (f:Nat->Nat) (xs:Array α):(pickOrder f xs).toList.Perm xs.toList:=by
  have:=xI f xs.size 0 xs.toList #[] (by simp)
  simpa [pickOrder] using this
section
variable {prog:Program} {w:World} {A:Around} {E:Value->Shared->Prop}
theorem mU {α:Type}:∀ (n:Nat) (xs:List α) (s:Shared) {Q:List α->Shared->Prop},xs.length<=n->(∀ ys d',ys.Perm xs->Q ys { s with drawn:=d' })->wpAny (model prog w) A (drawOrder n xs) Q E s
  | 0,xs,s,Q,h,hQ=>by
    obtain rfl:xs=[]:=BD.mp (by omega)
    exact AO (hQ [] s.drawn (List.Perm.refl _))
  | n+1,[],s,Q,h,hQ=>AO (hQ [] s.drawn (List.Perm.refl _))
  | n+1,x :: xs,s,Q,h,hQ=>by
    unfold drawOrder
    refine AN (fun Γ p hΓ=>?_)
    show Sem.wp _ _ (Sem.choose _ _ Sem.pure) _ _ _ _
    rw [Sem.wp_choose]
    refine ⟨by simp,?_⟩
    generalize hi:(model prog w).w.draws .order (s.drawn.get .order) % (x :: xs).length=i
    have lt:i < (x :: xs).length:=by rw [<- hi];exact Nat.mod_lt _ (by simp)
    refine (show wpAny (model prog w) A (pure i) _ E { s with drawn:=s.drawn.bump .order } from AO ?_) Γ p hΓ
    obtain ⟨y,hy⟩:∃ y,(x :: xs)[i]?=some y:=⟨_,AY lt⟩
    rw [hy]
    dsimp only
    refine AN (mU n ((x :: xs).eraseIdx i) _ (by rw [List.length_eraseIdx,if_pos lt];simp at h ⊢;omega) fun ys d' hp=>?_)
    refine AO (hQ (y :: ys) d' ?_)
    refine (hp.cons y).trans ?_
    rw [List.eraseIdx_eq_take_drop_succ]
    have e2:x :: xs=(x :: xs).take i ++ y :: (x :: xs).drop (i+1):=by
      rw [<- (A3.mp hy).2,<- List.drop_eq_getElem_cons lt,List.take_append_drop]
    exact (List.perm_middle.symm).trans (by rw [<- e2])
end
theorem slot_next:Slot "set_iterator" "__next__" "set_iterator.__next__" :=
  .of (owner:="set_iterator") (n:="__next__") (by rw [typeLookup_type,builtinLookup_eq_fast];kernel_rfl) (by decide +kernel) (by decide +kernel) (by decide +kernel) (by first | exact .inl (by decide +kernel) | exact .inr (by decide +kernel)) (by rw [isSubtype_type];kernel_rfl)
theorem lN:entryFor table "set_iterator.__next__"=some Builtin.«set_iterator.__next__»:=entryFor_of_tree (by kernel_rfl)
theorem vp:Manifest.owners.lookup (String.ofList (['r','o','t','a','r','e','t','i','_','t','e','s']:List Char).reverse)=some Manifest.sig_set_iterator:=by kernel_rfl
theorem m5 (a:Value):argsOk "set_iterator.__next__" ⟨[a],[]⟩:=by
  unfold argsOk
  rw [signature?_of (id:="set_iterator.__next__") (n:=['_','_','t','x','e','n','_','_']) (o:=['r','o','t','a','r','e','t','i','_','t','e','s']) (by kernel_rfl) vp]
  kernel_rfl
theorem qP:entryFor table "set.__iter__"=some Builtin.«frozenset.__iter__»:=entryFor_alias (id':="frozenset.__iter__") (by kernel_rfl) rfl (by decide +kernel) (by kernel_rfl)
noncomputable def SIt (w : World) (h : Heap) (I a : Addr) (es : Array (Int × Value)) (ep : Nat) (t : SetTable) (ord : List Value) (i : Nat) : Prop :=
  ∃ first, h.get? I = some { cls := .type "set_iterator", dict := none, data := .fields #[first, rawInt i, .ref a, rawInt es.size, rawInt ep], slots := #[] } /\
    ((w.params.followText "set-order" = true /\ first = rawInt 0 /\ ord = (pickOrder (w.params.setOrder a ep) es).toList.map (·.2)) \/
     (w.params.followText "set-order" = false /\ (!t.plain && es.size > 1) = false /\ (∃ k : Nat, first = rawInt k /\ SetTable.below t.place k = i) /\ ord = es.toList.map (·.2)) \/
     (∃ (T : Addr) (ps : List Nat), first = .ref T /\ T ≠ I /\ h.get? T = some { cls := .type "tuple", data := .seq (ps.map fun (p : Nat) => rawInt p).toArray } /\ ps.Perm (List.range es.size) /\ ord = ps.filterMap fun p => es[p]?.map (·.2)))
structure SAt (w:World) (h:Heap) (a:Addr) (es:Array (Int × Value)) (ep:Nat) (t:SetTable):Prop where
  at':∃ o,h.get? a=some o/\o.data=.set es ep t
  fits:t.fits es.size=true
  tab:Tab (iF w) t
section
variable {prog:Program} {w:World} {A:Around} {E:Value->Shared->Prop} {s:Shared}
theorem uE {I a:Addr} {es:Array (Int × Value)} {ep:Nat} {t:SetTable} {ord:List Value} {i:Nat} {v:Value} {Q:Option Value->Shared->Prop} (hI:SIt w s.heap I a es ep t ord i) (ha:SAt w s.heap a es ep t) (hv:ord[i]?=some v)
    (hQ:∀ h',SIt w h' I a es ep t ord (i+1)->Heap.SameBut I s.heap h'->Q (some v) { s with heap:=h' }):wpAny (model prog w) A (pyNext (.ref I)) Q E s:=by
  obtain ⟨⟨o,ho,hd⟩,hf,ht⟩:=ha
  obtain ⟨first,g1,m⟩:=hI
  obtain ⟨hp,g,dr,tk,os⟩:=s
  have ty:(⟨hp,g,dr,tk,os⟩:Shared).TypeIs (.ref I) "set_iterator":=⟨_,g1,rfl⟩
  have led:=ht.led
  unfold pyNext
  refine AN (wpAny_attempt (wpAny_callSpecial?_slot ty slot_next (wpAny_call_entry slot_next ty lN ?_ (m5 _))))
  rcases m with ⟨l,rfl,ro⟩ | ⟨l,nd,⟨k,rfl,bk⟩,ro⟩ | ⟨T,ps,rfl,nT,gT,pp,ro⟩
  · have l2:(model prog w).w.params.followText "set-order"=true:=l
    have at1:(pickOrder (w.params.setOrder a ep) es)[i]?.map (·.2)=some v:=by rw [<- hv,ro];simp
    obtain ⟨x,hx,ex⟩:=AU.mp at1
    have at2:Option.map (fun e:Int × Value=>(e.2,Int.toNat 0)) (pickOrder (({ program:=(model prog w).prog,params:=(model prog w).w.params }:Setting).params.setOrder a ep) es)[(i:Int).toNat]?=some (v,0):=by
      refine (show Option.map _ (pickOrder (w.params.setOrder a ep) es)[(i:Int).toNat]?=_ from ?_)
      rw [Int.toNat_natCast,hx,<- ex];rfl
    wp_walk using wpAny_setState_of ho hd hf,wpAny_askSetting
    rw [at2]
    wp_walk
    exact ⟨_,rfl,AO (hQ _ ⟨rawInt 0,Bh _ (Bh _ g1 rfl) rfl,.inl ⟨l,rfl,ro⟩⟩ ((Heap.SameBut.update ..).trans (Heap.SameBut.update ..)))⟩
  · have l2:(model prog w).w.params.followText "set-order"=false:=l
    have led2:t.led=true:=by rw [led];simp [iF,l]
    have lt:i < es.size:=by
      have:=(A3.mp hv).1
      rw [ro] at this
      simpa using this
    have pz:t.place.size=es.size:=by
      unfold SetTable.fits at hf
      rw [Bool.and_eq_true] at hf
      exact eq_of_beq hf.1
    have ev:es[i].2=v:=by
      rw [ro,A7,Array.getElem?_toList,Array.getElem?_eq_getElem lt] at hv
      simpa using hv
    have bk2:SetTable.below t.place (k:Int).toNat=i:=bk
    wp_walk using wpAny_setState_of ho hd hf,wpAny_askSetting
    refine wpAny_ite_false (show decide ((!t.plain && decide (es.size > 1))=true)=false by rw [nd];rfl) ?_
    wp_walk
    rw [bk2,Array.getElem?_eq_getElem lt,Array.getElem?_eq_getElem (show i < t.place.size by omega)]
    wp_walk
    subst ev
    exact ⟨_,rfl,AO (hQ _ ⟨rawInt (t.place[i]+1:Nat),Bh _ (Bh _ g1 rfl) rfl,.inr (.inl ⟨l,nd,⟨_,rfl,qY ht.up (by omega)⟩,ro⟩)⟩ ((Heap.SameBut.update ..).trans (Heap.SameBut.update ..)))⟩
  · obtain ⟨p,x,hp1,hp2,ev⟩:∃ p x,ps[i]?=some p/\es[p]?=some x/\x.2=v:=by
      have all:∀ (l:List Nat),(∀ p ∈ l,p < es.size)->∀ i:Nat,(l.filterMap fun p=>es[p]?.map fun x:Int × Value=>x.2)[i]?=l[i]?.bind fun p=>es[p]?.map fun x:Int × Value=>x.2:=by
        intro l
        induction l with
        | nil=>intro _ i;simp
        | cons p l ih =>
          intro hl i
          rw [List.filterMap_cons,Array.getElem?_eq_getElem (hl p AR)]
          cases i with
          | zero=>simp [Array.getElem?_eq_getElem (hl p AR)]
          | succ i=>simpa using ih (fun q hq=>hl q (AS _ hq)) i
      rw [ro,all ps (fun p hp=>List.mem_range.mp (pp.mem_iff.mp hp))] at hv
      obtain ⟨p,e1,e2⟩:=Bo.mp hv
      obtain ⟨x,e3,e4⟩:=AU.mp e2
      exact ⟨p,x,e1,e3,e4⟩
    wp_walk using wpAny_setState_of ho hd hf,wpAny_askSetting
    rw [show (List.map (fun p:Nat=>rawInt p) ps).toArray[(i:Int).toNat]?=some (rawInt p) by simp [hp1]]
    wp_walk using wpAny_setState_of ho hd hf,wpAny_askSetting
    rw [show es[(p:Int).toNat]?=some x from hp2]
    wp_walk
    subst ev
    exact ⟨_,rfl,AO (hQ _ ⟨.ref T,Bh _ g1 rfl,.inr (.inr ⟨T,ps,rfl,nT,(Heap.SameBut.update ..).extBut _ _ nT gT,pp,ro⟩)⟩ (Heap.SameBut.update ..))⟩
theorem xg {I a:Addr} {es:Array (Int × Value)} {ep:Nat} {t:SetTable} {ord:List Value} {i:Nat} {Q:Option Value->Shared->Prop} (hh:A.handled=none) (hI:SIt w s.heap I a es ep t ord i) (ha:SAt w s.heap a es ep t) (hv:ord.length<=i)
    (hQ:∀ h',Heap.ExtBut I s.heap h'->Q none { s with heap:=h' }):wpAny (model prog w) A (pyNext (.ref I)) Q E s:=by
  obtain ⟨⟨o,ho,hd⟩,hf,ht⟩:=ha
  obtain ⟨first,g1,m⟩:=hI
  obtain ⟨hp,g,dr,tk,os⟩:=s
  have ty:(⟨hp,g,dr,tk,os⟩:Shared).TypeIs (.ref I) "set_iterator":=⟨_,g1,rfl⟩
  have led:=ht.led
  have hh':A.in1.handled=none:=hh
  unfold pyNext
  refine AN (wpAny_attempt (wpAny_callSpecial?_slot ty slot_next (wpAny_call_entry slot_next ty lN ?_ (m5 _))))
  rcases m with ⟨l,rfl,ro⟩ | ⟨l,nd,⟨k,rfl,bk⟩,ro⟩ | ⟨T,ps,rfl,nT,gT,pp,ro⟩
  · have l2:(model prog w).w.params.followText "set-order"=true:=l
    have at2:Option.map (fun e:Int × Value=>(e.2,Int.toNat 0)) (pickOrder (({ program:=(model prog w).prog,params:=(model prog w).w.params }:Setting).params.setOrder a ep) es)[(i:Int).toNat]?=none:=by
      refine (show Option.map _ (pickOrder (w.params.setOrder a ep) es)[(i:Int).toNat]?=_ from ?_)
      rw [Int.toNat_natCast,Array.getElem?_eq_none (by rw [ro] at hv;simpa using hv)];rfl
    wp_walk using wpAny_setState_of ho hd hf,wpAny_askSetting
    rw [at2]
    wp_walk
    refine wpAny_raiseNew_none hh' ?_
    refine AN (wpAny_isInstance (v:=.ref _) (T:="StopIteration") (b:=true) ?_ isSubtype_stop ?_)
    · exact ⟨_,A1 _ rfl,rfl⟩
    · exact AO (hQ _ (((Heap.SameBut.update ..).extBut.push _).push _))
  · have l2:(model prog w).w.params.followText "set-order"=false:=l
    have led2:t.led=true:=by rw [led];simp [iF,l]
    have ge:es.size<=i:=by rw [ro] at hv;simpa using hv
    have bk2:SetTable.below t.place (k:Int).toNat=i:=bk
    wp_walk using wpAny_setState_of ho hd hf,wpAny_askSetting
    refine wpAny_ite_false (show decide ((!t.plain && decide (es.size > 1))=true)=false by rw [nd];rfl) ?_
    wp_walk
    rw [bk2,Array.getElem?_eq_none ge]
    wp_walk
    refine wpAny_raiseNew_none hh' ?_
    refine AN (wpAny_isInstance (v:=.ref _) (T:="StopIteration") (b:=true) ?_ isSubtype_stop ?_)
    · exact ⟨_,A1 _ rfl,rfl⟩
    · exact AO (hQ _ (((Heap.SameBut.update ..).extBut.push _).push _))
  · have len:∀ (l:List Nat),(∀ p ∈ l,p < es.size)->(l.filterMap fun p=>es[p]?.map fun x:Int × Value=>x.2).length=l.length:=by
      intro l
      induction l with
      | nil=>intro _;rfl
      | cons p l ih =>
        intro hl
        rw [List.filterMap_cons,Array.getElem?_eq_getElem (hl p AR)]
        simpa using ih fun q hq=>hl q (AS _ hq)
    rw [ro,len ps fun p hp=>List.mem_range.mp (pp.mem_iff.mp hp)] at hv
    wp_walk using wpAny_setState_of ho hd hf,wpAny_askSetting
    rw [show (List.map (fun p:Nat=>rawInt p) ps).toArray[(i:Int).toNat]?=none by simpa using hv]
    wp_walk
    refine wpAny_raiseNew_none hh' ?_
    refine AN (wpAny_isInstance (v:=.ref _) (T:="StopIteration") (b:=true) ?_ isSubtype_stop ?_)
    · exact ⟨_,A1 _ rfl,rfl⟩
    · exact AO (hQ _ ((((Heap.SameBut.update ..).trans (Heap.SameBut.update ..)).extBut.push _).push _))
end
end L2
end
section
namespace L2
open PySem PyProof.Rows
section
variable {prog:Program} {w:World} {A:Around} {E:Value->Shared->Prop} {s:Shared}
theorem uH {a:Addr} {es:Array (Int × Value)} {ep:Nat} {t:SetTable} {Q:Value->Shared->Prop} (ha:SAt w s.heap a es ep t) (hty:s.TypeIs (.ref a) "set") (hz:es.size<=sizeLine)
    (hQ:∀ h' I d' ord,s.heap.objs.size<=I->ord.Perm (es.toList.map (·.2))->SIt w h' I a es ep t ord 0->(∀ b o,s.heap.get? b=some o->h'.get? b=some o)->Q (.ref I) { s with heap:=h',drawn:=d' }) :
    wpAny (model prog w) A (pyIter (.ref a)) Q E s:=by
  obtain ⟨⟨o,ho,hd⟩,hf,ht⟩:=ha
  obtain ⟨hp,g,dr,tk,os⟩:=s
  refine wpAny_pyIter_slot hty F.slot_set_iter (wpAny_call_entry F.slot_set_iter hty qP ?_ (F.args_set_iter_1 _))
  cases l:w.params.followText "set-order" with
  | true =>
    have l2:(model prog w).w.params.followText "set-order"=true:=l
    wp_walk using wpAny_setState_of ho hd hf,wpAny_askSetting
    exact ⟨_,rfl,"set_iterator",_,⟨_,A1 _ rfl,rfl⟩,slot_next.lookup,hQ _ hp.objs.size dr _ (A8 _) ((sW (w.params.setOrder a ep) es).map _) ⟨rawInt 0,A1 _ rfl,.inl ⟨l,rfl,rfl⟩⟩ fun b o e=>AT _ e⟩
  | false =>
    have l2:(model prog w).w.params.followText "set-order"=false:=l
    cases nd:(!t.plain && decide (es.size > 1)) with
    | false =>
      wp_walk using wpAny_setState_of ho hd hf,wpAny_askSetting
      refine wpAny_ite_false (show decide ((!w.params.followText "set-order" && (!t.plain && decide (es.size > 1)))=true)=false by rw [l,nd];rfl) ?_
      wp_walk using wpAny_setState_of ho hd hf,wpAny_askSetting
      exact ⟨_,rfl,"set_iterator",_,⟨_,A1 _ rfl,rfl⟩,slot_next.lookup,hQ _ hp.objs.size dr _ (A8 _) (List.Perm.refl _) ⟨rawInt 0,A1 _ rfl,.inr (.inl ⟨l,nd,⟨0,rfl,qX ht.up⟩,rfl⟩)⟩ fun b o e=>AT _ e⟩
    | true =>
      wp_walk using wpAny_setState_of ho hd hf,wpAny_askSetting
      refine wpAny_ite_true (show decide ((!w.params.followText "set-order" && (!t.plain && decide (es.size > 1)))=true)=true by rw [l,nd];rfl) ?_
      refine AN (mU _ _ _ (by simp) fun ys d' pp=>?_)
      have yl:ys.length=es.size:=by have:=pp.length_eq;simpa using this
      refine AN (wpAny_newTuple ?_ (by simp;omega))
      refine AN (AN (wpAny_setState_of (AT _ ho) hd hf (AO ?_)))
      wp_walk
      have pm:(ys.filterMap fun p=>es[p]?.map fun x:Int × Value=>x.2).Perm (es.toList.map (·.2)):=by
        refine (pp.filterMap _).trans ?_
        rw [<- filterMap_getElem?_range es,List.map_filterMap]
      refine ⟨_,rfl,"set_iterator",_,⟨_,A1 _ rfl,rfl⟩,slot_next.lookup,hQ _ _ d' _ ?_ pm ⟨.ref hp.objs.size,A1 _ rfl,.inr (.inr ⟨_,ys,rfl,?_,AT _ (A1 _ rfl),pp,rfl⟩)⟩ fun b o e=>AT _ (AT _ e)⟩
      · rw [Bu];exact Nat.le_succ _
      · rw [Bu];exact Ba (Nat.lt_succ_self _)
theorem SAt.keep {h h':Heap} {a:Addr} {es:Array (Int × Value)} {ep:Nat} {t:SetTable} (x:SAt w h a es ep t) (k:∀ o,h.get? a=some o->h'.get? a=some o):SAt w h' a es ep t :=
  let ⟨⟨o,e,d⟩,f,t⟩:=x;⟨⟨o,k o e,d⟩,f,t⟩
theorem SIt.keep {h h':Heap} {S I a:Addr} {es:Array (Int × Value)} {ep:Nat} {t:SetTable} {ord:List Value} {i:Nat} (x:SIt w h I a es ep t ord i) (nS:I ≠ S) (hS:∀ T ps,h.get? T=some { cls:=.type "tuple",data:=.seq ps }->T ≠ S) (k:∀ b o,b ≠ S->h.get? b=some o->h'.get? b=some o):SIt w h' I a es ep t ord i:=by
  obtain ⟨f,g,m⟩:=x
  refine ⟨f,k _ _ nS g,?_⟩
  rcases m with m | m | ⟨T,ps,e1,e2,e3,e4⟩
  · exact .inl m
  · exact .inr (.inl m)
  · exact .inr (.inr ⟨T,ps,e1,e2,k _ _ (hS _ _ e3) e3,e4⟩)
theorem yr (hh:A.handled=none) {I a S:Addr} (n1:a ≠ I) (n2:S ≠ I) (n3:S ≠ a) {es:Array (Int × Value)} {ep:Nat} {t:SetTable} {ord:List Value} (hz:ord.length<=sizeLine) (res:Value) {R:Result->Shared->Prop} :
    ∀ (k i:Nat) (s:Shared) (c:Nat),ord.length - i=k->i<=ord.length->SIt w s.heap I a es ep t ord i->SAt w s.heap a es ep t ->
    s.heap.get? S=some { cls:=.type "list",dict:=none,data:=.seq (ord.take i).toArray c,slots:=#[] } ->
    (∀ h' c' tk,h'.get? S=some { cls:=.type "list",dict:=none,data:=.seq ord.toArray c',slots:=#[] }->(∀ b o,b ≠ I->b ≠ S->s.heap.get? b=some o->h'.get? b=some o)->R (.ok (.ret res)) { s with heap:=h',toks:=tk }) ->
    codeAny (model prog w) A (.builtin "list.extend.loop" ⟨[.ref S,.ref I,res],[]⟩) R s:=by
  intro k
  induction k with
  | zero =>
    intro i s c hk hi hit hm hS fin
    obtain rfl:i=ord.length:=by omega
    refine codeAny_builtin F.entry_extend_loop ?_
    rw [Around.under_plainId F.plain_extend_loop _]
    refine AN (xg (s:=s) (show A.in1.handled=none from hh) hit hm (A8 _) fun h' eb=>?_)
    rw [List.take_length] at hS
    exact AO (fin h' c s.toks (eb S _ n2 hS) fun b o hb _ e=>eb b o hb e)
  | succ k ih =>
    intro i s c hk hi hit hm hS fin
    have lt:i < ord.length:=by omega
    refine codeAny_builtin F.entry_extend_loop ?_
    rw [Around.under_plainId F.plain_extend_loop _]
    refine AN (uE (s:=s) (v:=ord[i]) hit hm (AY lt) fun h1 it1 s1=>?_)
    have S1:=s1.extBut _ _ n2 hS
    refine AN (wpAny_updateSeq S1 rfl (AO ⟨plainId_quiet F.plain_extend_loop _,?_⟩) (by simp;omega) (by simp;omega))
    obtain ⟨c2,S2⟩:∃ c2,(h1.update S (Obj.mapSeq (·.push ord[i]))).get? S=some (seqObj "list" ((ord.take i).toArray.push ord[i]) c2):=⟨_,get?_update_seq S1 (·.push ord[i])⟩
    have up:∀ b o,b ≠ S->h1.get? b=some o->(h1.update S (Obj.mapSeq (·.push ord[i]))).get? b=some o:=fun b o n e=>(Heap.SameBut.update ..).extBut _ _ n e
    have tk:(ord.take i).toArray.push ord[i]=(ord.take (i+1)).toArray:=by
      rw [List.take_add_one,AY lt]
      simp
    rw [tk] at S2
    refine ih (i+1) { s with heap:=h1.update S (Obj.mapSeq (·.push ord[i])) } c2 (by omega) lt (it1.keep (S:=S) (Ne.symm n2) (fun T ps e z=>by subst z;rw [S1] at e;simp at e) up) ((hm.keep fun o e=>s1.extBut _ _ n1 e).keep fun o e=>up _ _ (Ne.symm n3) e) S2 fun h3 c3 tk3 g3 k3=>?_
    exact fin h3 c3 tk3 g3 fun b o hb hs e=>k3 b o hb hs (up _ _ hs (s1.extBut _ _ hb e))
theorem vT {d:Addr} {Q:Bool->Shared->Prop} (ty:s.TypeIs (.ref d) "set") (h:Q false s):wpAny (model prog w) A (Builtin.List.listLengthHint (.ref d)) Q E s:=by
  unfold Builtin.List.listLengthHint
  refine AN (wpAny_specialOf ty F.slot_set_len.lookup ?_)
  have cut:splitId "set.__len__"=some ("set","__len__"):=by kernel_rfl
  dsimp only
  simp only [cut]
  refine AN (wpAny_isInstance ty (b:=true) sub_set_self (wpAny_ite_false rfl ?_))
  rw [if_pos (by kernel_rfl)]
  exact AN (wpAny_typeOf ty (AO h))
theorem pN {a:Addr} {es:Array (Int × Value)} {ep:Nat} {t:SetTable} {Q:List Value->Shared->Prop} (hh:A.handled=none) (ha:SAt w s.heap a es ep t) (ty:s.TypeIs (.ref a) "set") (hz:es.size<=sizeLine)
    (h:∀ h' d' tk ord,ord.Perm (es.toList.map (·.2))->s.heap.objs.size<=h'.objs.size->(∀ b o,s.heap.get? b=some o->h'.get? b=some o)->Q ord { s with heap:=h',drawn:=d',toks:=tk }):wpAny (model prog w) A (collect (.ref a)) Q E s:=by
  have lt:a < s.heap.objs.size:=by obtain ⟨⟨o,e,_⟩,_⟩:=ha;exact AZ e
  obtain ⟨hp,g,dr,tk,os⟩:=s
  unfold collect
  refine AN (wpAny_runValue (codeAny_builtin F.entry_proto_collect ?_))
  rw [Around.under_plainId F.plain_proto_collect _]
  refine AN (wpAny_newObj_type (AO ⟨plainId_quiet F.plain_list_iadd _,codeAny_builtin F.entry_list_iadd ?_⟩))
  rw [Around.under_plainId F.plain_list_iadd _]
  have S1:(hp.push { cls:=.type "list",data:=.seq ([]:List Value).toArray }).get? hp.objs.size=some { cls:=.type "list",data:=.seq ([]:List Value).toArray }:=A1 _ rfl
  have a1:SAt w (hp.push { cls:=.type "list",data:=.seq ([]:List Value).toArray }) a es ep t:=ha.keep fun o e=>AT _ e
  have ty1:(⟨hp.push { cls:=.type "list",data:=.seq ([]:List Value).toArray },g,dr,tk,os⟩:Shared).TypeIs (.ref a) "set":=let ⟨o,e,c⟩:=ty;⟨o,AT _ e,c⟩
  have z1:(hp.push { cls:=.type "list",data:=.seq ([]:List Value).toArray }).objs.size=hp.objs.size+1:=Bu ..
  have k1:∀ b o,hp.get? b=some o->(hp.push { cls:=.type "list",data:=.seq ([]:List Value).toArray }).get? b=some o:=fun b o e=>AT _ e
  refine (show wpAny _ A.in1 (Builtin.List.listExtendWith (.ref hp.objs.size) (.ref a) (.ref hp.objs.size)) _ _ ⟨hp.push { cls:=.type "list",data:=.seq ([]:List Value).toArray },g,dr,tk,os⟩ from ?_)
  generalize hp.push { cls:=.type "list",data:=.seq ([]:List Value).toArray }=H1 at *
  unfold Builtin.List.listExtendWith
  refine AN (wpAny_typeOf ty1 ?_)
  rw [if_neg (by
    have e1:Builtin.List.listSameRef (.ref hp.objs.size) (.ref a)=false:=beq_false_of_ne (Nat.ne_of_gt lt)
    have e2:(Value.type "set" == Value.type "list")=false:=by decide
    have e3:(Value.type "set" == Value.type "tuple")=false:=by decide
    rw [e1,e2,e3]
    decide)]
  refine AN (uH (s:=⟨H1,g,dr,tk,os⟩) a1 ty1 hz fun h2 I d2 ord lI pm it2 k2=>?_)
  have ty2:(⟨h2,g,d2,tk,os⟩:Shared).TypeIs (.ref a) "set":=let ⟨o,e,c⟩:=ty1;⟨o,k2 _ _ e,c⟩
  refine AN (AQ (vT ty2 ?_))
  have lI:H1.objs.size<=I:=lI
  rw [z1] at lI
  have nS:hp.objs.size ≠ I:=Ba lI
  have nI:a ≠ I:=Ba (Nat.lt_trans lt lI)
  have ol:ord.length=es.size:=by have:=pm.length_eq;simpa using this
  have S2:h2.get? hp.objs.size=some (seqObj "list" #[] 0):=k2 _ _ S1
  have a2:SAt w h2 a es ep t:=a1.keep fun o e=>k2 _ _ e
  refine wpAny_ite_true (by kernel_rfl) ?_
  refine AN (wpAny_rule ?_)
  refine AN (AN (listUpdate_at (s:=⟨h2,g,d2,tk,os⟩) S2 rfl ?_))
  obtain ⟨c3,S3⟩:∃ c3,(h2.update hp.objs.size (Obj.mapSeq (·.push Value.none))).get? hp.objs.size=some (seqObj "list" (#[].push Value.none) c3):=⟨_,get?_update_seq S2 (·.push Value.none)⟩
  refine listUpdate_at (s:=⟨h2.update hp.objs.size (Obj.mapSeq (·.push Value.none)),g,d2,tk,os⟩) S3 rfl ?_
  obtain ⟨c4,S4⟩:∃ c4,((h2.update hp.objs.size (Obj.mapSeq (·.push Value.none))).update hp.objs.size (Obj.mapSeq (·.pop))).get? hp.objs.size=some (seqObj "list" (#[].push Value.none).pop c4):=⟨_,get?_update_seq S3 (·.pop)⟩
  have oth:∀ b o,b ≠ hp.objs.size->h2.get? b=some o->((h2.update hp.objs.size (Obj.mapSeq (·.push Value.none))).update hp.objs.size (Obj.mapSeq (·.pop))).get? b=some o:=fun b o n e=>(Heap.SameBut.update ..).extBut _ _ n ((Heap.SameBut.update ..).extBut _ _ n e)
  have it4:=it2.keep (S:=hp.objs.size) (Ne.symm nS) (fun T ps e z=>by subst z;rw [S2] at e;simp [seqObj] at e) oth
  have a4:=a2.keep fun o e=>oth _ _ (Ba lt) e
  have lt4:hp.objs.size < ((h2.update hp.objs.size (Obj.mapSeq (·.push Value.none))).update hp.objs.size (Obj.mapSeq (·.pop))).objs.size:=AZ S4
  generalize ((h2.update hp.objs.size (Obj.mapSeq (·.push Value.none))).update hp.objs.size (Obj.mapSeq (·.pop)))=H4 at *
  refine AO ⟨plainId_quiet F.plain_extend_loop _,yr (ord:=ord) hh nI nS (Nat.ne_of_gt lt) (by omega) _ ord.length 0 ⟨H4,g,d2,tk,os⟩ c4 (by omega) (Nat.zero_le _) it4 a4 (by simpa [seqObj] using S4) fun h5 c5 tk5 S5 k5=>?_⟩
  refine AN (wpAny_load S5 ?_)
  refine AO ?_
  have e:ord.toArray.toList=ord:=by simp
  refine e.symm ▸ h h5 d2 tk5 ord pm ?_ fun b o e=>?_
  · exact Nat.le_of_lt (AZ S5)
  · have lb:=AZ e
    exact k5 b o (Ba (Nat.lt_trans lb lI)) (Ba lb) (oth _ _ (Ba lb) (k2 _ _ (k1 _ _ e)))
end
end L2
end
section
namespace L2
open PySem PySem.Spec PyProof.Rows
section
variable {X:Cx}
noncomputable abbrev xi (X:Cx) (p:Addr) (ns:List Int):HO:=.ext fun h=>SetL X.prog X.w h p ns
theorem Inv.drew {pins:List (Addr × Obj)} {σ:St} {H:Hp} {s:Shared} {d:Drawn} (I:Inv X pins σ H s):Inv X pins σ H { s with drawn:=d } :=
  ⟨I.ok,I.os,I.bare,I.base,I.loc,I.cell,I.free,I.freeC,I.pin,I.hok,I.len⟩
noncomputable def rSet (X:Cx):List V->Hp->VK->Prop:=fun xs H Q=>∃ (l:Addr) (ns:List Int),xs=[.ref l]/\SqT X.K H l (ns.map V.int)/\ns.length < 64/\∀ p,H p=none->Q (.ref p) (upd H p (xi X p (ns.foldl met [])))
theorem t7 (hc:X.calm=true):dJ X (.type "set") (rSet X):=by
  intro pins s σ H xs us Q I rx h
  obtain ⟨l,ns,rfl,hl,h64,q⟩:=h
  obtain ⟨u,rfl,ru⟩:=kh rx
  cases (show u=Value.ref l from ru)
  obtain ⟨its,r,p,hz⟩:=I.tuple hl
  have hlen:=r.length
  refine nZ (I.ok.hd hc) (show s.heap.IsTuple l its.toArray from p) (by simpa using qL r) (by simp at hlen ⊢;unfold scanBound;omega) fun h' tk S k=>?_
  exact ⟨.ref s.heap.objs.size,_,I.laid (a:=s.heap.objs.size) (o:=xi X s.heap.objs.size (ns.foldl met [])) (t':=tk) k (A8 _) ⟨S,(let ⟨o,_,_,_,_,e,_⟩:=S;⟨o,e⟩),fun h1 h2 x k=>x.keep k⟩,rfl,q _ (I.hok.fresh (A8 _))⟩
noncomputable def uY (X:Cx):List V->Hp->VK->Prop:=fun xs H Q=>∃ (p:Addr) (ns:List Int),xs=[.ref p]/\H p=some (xi X p ns)/\ns.length < 64/\∀ q,H q=none->∀ ns':List Int,ns'.Perm ns->ns'.Pairwise (·<=·)->Q (.ref q) (upd H q (.lst (ns'.map V.int)))
theorem qS (hc:X.calm=true):dJ X (.builtin "sorted") (uY X):=by
  intro pins s σ H xs us Q I rx h
  obtain ⟨p,ns,rfl,hp,h64,q⟩:=h
  obtain ⟨u,rfl,ru⟩:=kh rx
  cases (show u=Value.ref p from ru)
  obtain ⟨S,_,_⟩:=I.hok p _ hp
  have ty:=S.typeIs (s:=s)
  obtain ⟨o,es,ep,t,ms,ho,hex,hd,hel,hi,pm,hb,hf,ht⟩:=S
  have hh:=I.ok.hd hc
  have sz:es.size<=sizeLine:=fits_of_scanBound hb
  refine Calls.call_function_entry kind_sorted plain_sorted entry_sorted (args_sorted1 _) (AN (AO (AN (pN (show X.A.in1.handled=none from hh) ⟨⟨o,ho,hd⟩,hf,ht⟩ ty sz fun h1 d1 tk1 ord po z1 k1=>?_))))
  obtain ⟨ks,hks⟩:∃ ks,IntsAre ord ks:=by
    have:∀ v ∈ ord,∃ n t,v=Value.int n t:=fun v hv=>by
      have:=po.mem_iff.mp hv
      exact hi.all v this
    clear po
    induction ord with
    | nil=>exact ⟨[],.nil⟩
    | cons v ord ih =>
      obtain ⟨n,t,rfl⟩:=this v AR
      obtain ⟨ks,h⟩:=ih fun v hv=>this v (AS _ hv)
      exact ⟨n :: ks,.cons n t h⟩
  have pk:ks.Perm ns:=(j3 po hks hi).trans pm
  have ol:ord.length < 64:=by rw [hks.length,pk.length_eq];exact h64
  refine AN (wpAny_newList ?_)
  have got:(h1.push (seqObj "list" ord.toArray 0)).get? h1.objs.size=some (seqObj "list" ord.toArray 0):=A1 _ rfl
  refine AN (AQ (wpAny_call_entry slot_list_sort ⟨_,got,rfl⟩ entry_list_sort (list_sort_tree got hks ol fun out ns' a b c=>⟨_,rfl,AO ⟨_,rfl,?_⟩⟩) (args_list_sort _)))
  obtain ⟨e,he⟩:=sortedHeap_at (out:=out) got
  have nl:ns'.length < 64:=by rw [b.length_eq,pk.length_eq];exact h64
  have keep:∀ (b:Addr) (u:Obj),s.heap.get? b=some u->(sortedHeap (h1.push (seqObj "list" ord.toArray 0)) h1.objs.size ord out).get? b=some u:=fun b u z=>by
    have lb:=AZ z
    rw [sortedHeap_old (Ba (Bf lb z1)) (by rw [Bu];exact Nat.lt_succ_of_lt (Bf lb z1))]
    exact AT _ (k1 _ _ z)
  refine ⟨.ref h1.objs.size,_,(I.drew (d:=d1)).laid (a:=h1.objs.size) (o:=.lst (ns'.map V.int)) (t':=tk1) keep z1 ⟨?_,out.toList,e,jr a,by rw [he]⟩,rfl,q _ (I.hok.fresh z1) ns' (b.trans pk) c⟩
  rw [A2]
  have:64<=sizeLine:=by decide
  omega
end
end L2
end
section
namespace L2
open PySem PySem.Spec PyProof.Rows
section
variable {X:Cx}
theorem vw {k v:Expr} {pos:Pos} {Q:Value->Shared->Prop} {A:Around} {E:Value->Shared->Prop} {s:Shared} {prog:Program} {w:World} {env:Env}
    (h:wpAny (model prog w) A (eval k env) (fun x s1=>wpAny (model prog w) A (eval v env) (fun y s2=>wpAny (model prog w) A (dictSet s.heap.objs.size x y) (fun _ s3=>Q (.ref s.heap.objs.size) s3) E s2) E s1) E { s with heap:=s.heap.push { cls:=.type "dict",data:=.dict #[] } }) :
    wpAny (model prog w) A (eval (.Dict [some k] [v] pos) env) Q E s:=by
  rw [arm_eval_Dict]
  refine AN (wpAny_standAt ?_)
  have e:=dictDisplay_pairs [(eval k env,(do let x <- eval v env;standAt pos;pure x:Sem Value))] (by simp) (by simp)
  refine (show wpAny (model prog w) A (dictDisplay ([(eval k env,(do let x <- eval v env;standAt pos;pure x:Sem Value))].map fun p=>(some p.1,p.2))) Q E s from ?_)
  rw [e]
  refine AN ?_
  unfold subDict
  refine AN (wpAny_alloc (AN (AQ ?_)))
  rw [if_pos (by simp)]
  refine AN ?_
  unfold evalPairs
  refine AN (wpAny_mono h (fun x s1 h1=>?_) fun _ _ z=>z)
  refine AN (AQ (AN (wpAny_mono h1 (fun y s2 h2=>?_) fun _ _ z=>z)))
  refine AN (wpAny_standAt (AO ?_))
  refine AN (AQ (AO (AO (AQ ?_))))
  simp only [List.forIn_cons,List.forIn_nil]
  refine AN (AN (AN (wpAny_mono h2 (fun _ s3 h3=>?_) fun _ _ z=>z)))
  exact AO (AO (AO (AO (AO h3))))
noncomputable def tD1K (k:Key) (v:V):TE:=fun _ H Q=>∀ p,H p=none->Q (.ref p) (upd (upd H p (.dK [])) p (.dK [(k,v)]))
theorem z7 {k v:Expr} {key:Key} {d:V} {pos:Pos} (hk:PE X k (tC (kV key))) (hv:PE X v (tC d)):PE X (.Dict [some k] [v] pos) (tD1K key d):=by
  intro pins s σ H Q I q
  have hn:=I.hok.fresh (A8 s.heap.objs.size)
  have I1:=I.laid (a:=s.heap.objs.size) (o:=.dK []) (h':=s.heap.push { cls:=.type "dict",data:=.dict #[] }) (t':=s.toks) (fun _ _ q=>AT _ q) (A8 _) (wl s.heap I.big)
  refine vw (thn (hk pins _ σ _ (fun x H2=>x=kV key/\H2=upd H s.heap.objs.size (.dK [])) I1 ⟨rfl,rfl⟩) fun x s1 ⟨vx,H1,I2,rx,e1,e2⟩=>thn (hv pins s1 σ H1 (fun y H2=>y=d/\H2=upd H s.heap.objs.size (.dK [])) I2 ⟨rfl,e2⟩) fun y s2 ⟨vy,H2,I3,ry,e3,e4⟩=>?_)
  subst e1 e2 e3 e4
  obtain ⟨z,hd,vs,rel,dd⟩:=qQ I3.hok (.inl bd)
  cases rel
  refine iG (hsz:=Nat.zero_le _) (rT rx) dd fun h' dd' hs=>?_
  have he:∃ q,h'.get? s.heap.objs.size=some q:=let ⟨q,_,_,hq,_⟩:=dd';⟨q,hq⟩
  have hz:[(key,vy)].length<=sizeLine:=(by decide:1<=sizeLine)
  exact ⟨.ref s.heap.objs.size,_,nW I3 (by rw [bd];exact True.intro) hs he (wk (kvs:=[(key,vy)]) hz hd (KV.put (kvs:=[]) .nil key ry) dd'),rfl,q _ hn⟩
end
end L2
end
section
namespace L2
open PySem PySem.W PySem.Spec PyProof.Rows
noncomputable abbrev excO (a:Addr) (cls:Value):HO:=.ext fun h=>∃ o,h.get? a=some o/\o.cls=cls
noncomputable abbrev excF (ob:Obj) (a:Addr) (cls:Value):HO:=.frz ob (excO a cls)
structure ExcK (K:FG) (D:Addr):Prop where
  ga:findIn K (.ref D) "__getattribute__"=some (some (.builtin "BaseException.__getattribute__"))
  gt:findIn K (.ref D) "__getattr__"=some none
  cl:(clsIn K D).isSome=true
  ca:findIn K (.ref D) "__class__"=some (some (.builtin "object.__class__"))
  sp:specialIn K (.builtin "object.__class__") "__get__"=some (some (.builtin "getset_descriptor.__get__"))
  tk:takesIn K (.builtin "object.__class__")=some true
  ob:mroIn K D (.type "object")=some true
  be:mroIn K D (.type "BaseException")=some true
structure XName (K:FG) (c:String) (D:Addr):Prop where
  ns:nsIn K mainGlobals (Str.ofString c)=some (some (.ref D))
  ex:ExcK K D
theorem XName.inj {K:FG} {c:String} {D D':Addr} (a:XName K c D) (b:XName K c D'):D=D':=by
  have:=a.ns.symm.trans b.ns
  cases this
  rfl
end L2
end
section
namespace L2
open PySem
section
variable {K:FG} {h:Heap} {mg:Str->Option Value}
theorem jY {h:Heap}:∀ {l:List Nat} {a:Nat} {o:Obj},(l.filterMap fun a=>(h.get? a).map fun o=>(a,o)).lookup a=some o->h.get? a=some o
  | [],_,_,e=>by cases e
  | b :: l,a,o,e=>by
    rw [List.filterMap_cons] at e
    cases hb:h.get? b with
    | none=>rw [hb] at e;exact jY e
    | some p =>
      rw [hb] at e
      replace e:List.lookup a ((b,p) :: l.filterMap fun a=>(h.get? a).map fun o=>(a,o))=some o:=e
      rw [List.lookup_cons] at e
      cases hab:a == b with
      | true=>rw [hab] at e;cases eq_of_beq hab;cases e;exact hb
      | false=>rw [hab] at e;exact jY e
theorem fragAt_in (h:Heap):(vW h).In h:=fun _ _ e=>jY e
noncomputable def stPos (s:Stmt):Pos:=match s with
  | .FunctionDef _ _ _ _ _ _ _ _ _ p=>p
  | _=>⟨0,0,0,0⟩
set_option tactic.hygienic true in
theorem AE {n:Str} {st:Stmt} (X:K.In h) (G:h.Ns mainGlobals mg) (e:pF K n=lM n st):Def K mg n st:=by
  unfold pF at e
  split at e
  · rename_i f hf
    split at e
    · rename_i oc od fd sl hl
      unfold lM at e
      obtain ⟨name,qual,params,body,scope,globals,closure,defaults,kw,doc,pm,an,cd,ct,bi⟩:=fd
      simp only [Option.some.injEq,Prod.mk.injEq] at e
      obtain ⟨rfl,rfl,rfl,rfl,rfl,rfl,rfl,rfl,rfl,hc⟩:=e
      exact ⟨f,_,AA (st:=st) hl hc (by unfold PySem.W.keepIn;simp only [hl]),PySem.W.mg_of X G hf⟩
    · cases e
  · cases e
theorem qA {α β:Type} {f g:α->β} {l:List α} (e:l.map f=l.map g) (i:Nat) {a:α} (h:l[i]?=some a):f a=g a:=List.map_inj_left.mp e a (A4 h)
theorem aY {ds:List (Str × Stmt)} {n:Str} {st:Stmt} (X:K.In h) (G:h.Ns mainGlobals mg) (e:ds.map (fun p=>pF K p.1)=ds.map (fun p=>lM p.1 p.2)) (i:Nat) (hi:ds[i]?=some (n,st)):Def K mg n st:=AE X G (qA e i hi)
theorem cW {l:List Str} {n:Str} (X:K.In h) (G:h.Ns mainGlobals mg) (e:l.map (PySem.W.nsIn K mainGlobals)=l.map (fun _=>some none)) (i:Nat) (hi:l[i]?=some n):mg n=none:=PySem.W.mg_none_of X G (qA e i hi)
set_option tactic.hygienic true in
theorem nO {l:List (Str × Int)} {n:Str} {v:Int} (X:K.In h) (G:h.Ns mainGlobals mg) (e:l.map (fun p=>nP K p.1)=l.map (fun p=>some p.2)) (i:Nat) (hi:l[i]?=some (n,v)):∃ t,mg n=some (.int v t):=by
  have e:=qA e i hi
  unfold nP at e
  dsimp only at e
  split at e
  · rename_i v' t hs;cases e;exact ⟨t,PySem.W.mg_of X G hs⟩
  · cases e
theorem walk_ofS {l:PySem.W.OpenLaw} {n k:Nat} {q:Program} {loose:List Str} {XP:(Str->Option Value)->Heap->Prop} {YP:World->Heap->Prop} {d:DefRec} {S:FG->Prop} {CX:CXT} {sp:FG->Sp} {x:Str}
    (hn:l.most=some n) (hn2:n<=sizeLine) (hdf:d.params.defaults=[]) (hr:Room k callerA)
    (hY:∀ (w:World) (h:Heap),YP w h->∃ K:FG,K.In h/\S K)
    (F:∀ (w:World) (mg:Str->Option Value) (fa:Addr) (h:Heap) (K:FG),S K->K.In h->h.Ns mainGlobals mg->mg d.name=some (.ref fa) ->
      ∃ fd:FuncData,(∀ (s:Shared) (u:Value),BindsTo s fd ⟨[u],[]⟩ [(x,u)]) /\
        ∀ base:Heap,K.In base->base.Ns mainGlobals mg->FnOk l.prog w K mg base CX k fa fd [x] (sp K))
    (hsp:∀ (K:FG) (H:Hp) (a:Addr) (ns:List Int),ns.length<=n->yE H->SqL K H a (ns.map V.int)->sp K [.ref a] H (fun v _=>v=.bl true) fun _ _ _=>False)
    (hCX:∀ (H:Hp) (s:Shared) (e:Value) (s':Shared),CX [] H s (fun _ _ _=>False) e s'->False) :
    PySem.W.WalkO q loose XP YP l.row.toRowW d [] (fun f vs=>PySem.call f vs):=by
  refine Att.attach_call hn hdf fun w s₀ s₁ mg mb fa o pm cd doc a vs ns G Y ho hd hcd hmg hobj hints hlen hg=>?_
  obtain ⟨K,KX,hS⟩:=hY w _ Y
  obtain ⟨fd,hb,hF⟩:=F w mg fa _ K hS KX G.T.g hmg
  exact vN KX G.T.g G.T.b G.T.builtins G.T.nolimit hg hobj hints (Bw hlen hn2) hr hF hb (fun H hO hS=>hsp K H a ns hlen hO hS) fun H e s'=>hCX H s₁ e s'
end
end L2
end
section
namespace L3
open PySem L2
theorem nsE {α:Type} {p:α} {P:Prop} (e:(none:Option α)=some p):P:=nomatch e
inductive D where
 | non | bl (b:Bool) | int (i:Int) | str (x:Str)
 | tup (xs:List D) | lst (xs:List D) | fls (xs:List D) | dk (kvs:List (Key × D)) | dt (kvs:List (List Key × D))
 | exc (c:String) (fs:List (String × D))
noncomputable def jJ:D->Bool
 | .lst _=>true
 | .dk _=>true
 | .dt _=>true
 | _=>false
noncomputable def FzL (K:FG) (H:Hp) (a:Addr) (vs:List V):Prop:=(∃ o,H a=some (.frz o (.lst vs)))\/∃ (o:Obj) (its:Array Value) (n:Nat),K.lookup a=some o/\o.cls=.type "list"/\o.dict=none/\o.data=.seq its n/\its.size<=sizeLine/\Vals vs its.toList
theorem FzL.sq {K:FG} {H:Hp} {a:Addr} {vs:List V} (h:FzL K H a vs):SqL K H a vs:=h.elim (fun ⟨o,e⟩=>.inl (.inr ⟨o,e⟩)) .inr
inductive Reps (R:D->V->List Addr->Prop):List D->List V->List Addr->Prop where
 | nil:Reps R [] [] []
 | cons {d v L ds vs L'}:R d v L->Reps R ds vs L'->Reps R (d :: ds) (v :: vs) (L ++ L')
inductive Rep (K:FG) (H:Hp):D->V->List Addr->Prop where
 | non:Rep K H .non .non []
 | bl (b:Bool):Rep K H (.bl b) (.bl b) []
 | int (i:Int):Rep K H (.int i) (.int i) []
 | str (x:Str):Rep K H (.str x) (.str x) []
 | tup {xs a vs L}:H a=some (.tup vs)->Reps (Rep K H) xs vs L->Rep K H (.tup xs) (.ref a) L
 | lst {xs a vs L}:H a=some (.lst vs)->Reps (Rep K H) xs vs L->Rep K H (.lst xs) (.ref a) (a :: L)
 | lstF {xs a vs L}:FzL K H a vs->Reps (Rep K H) xs vs L->Rep K H (.fls xs) (.ref a) L
 | dK {kvs a ps L}:H a=some (.dK ps)->kvs.map (·.1)=ps.map (·.1)->Reps (Rep K H) (kvs.map (·.2)) (ps.map (·.2)) L->Rep K H (.dk kvs) (.ref a) (a :: L)
 | dT {kvs a ps L}:H a=some (.dT ps)->kvs.map (·.1)=ps.map (·.1)->Reps (Rep K H) (kvs.map (·.2)) (ps.map (·.2)) L->Rep K H (.dt kvs) (.ref a) (a :: L)
 | exc {c a D ob}:XName K c D->H a=some (excF ob a (.ref D))->Rep K H (.exc c []) (.ref a) []
noncomputable def RepV (K:FG) (H:Hp) (d:D) (v:V) (L:List Addr):Prop:=match d with
 | .non=>v=.non/\L=[]
 | .bl b=>v=.bl b/\L=[]
 | .int i=>v=.int i/\L=[]
 | .str x=>v=.str x/\L=[]
 | .tup xs=>∃ a vs,v=.ref a/\H a=some (.tup vs)/\Reps (Rep K H) xs vs L
 | .lst xs=>∃ a vs L',v=.ref a/\L=a :: L'/\H a=some (.lst vs)/\Reps (Rep K H) xs vs L'
 | .fls xs=>∃ a vs,v=.ref a/\FzL K H a vs/\Reps (Rep K H) xs vs L
 | .dk kvs=>∃ a ps L',v=.ref a/\L=a :: L'/\H a=some (.dK ps)/\kvs.map (·.1)=ps.map (·.1)/\Reps (Rep K H) (kvs.map (·.2)) (ps.map (·.2)) L'
 | .dt kvs=>∃ a ps L',v=.ref a/\L=a :: L'/\H a=some (.dT ps)/\kvs.map (·.1)=ps.map (·.1)/\Reps (Rep K H) (kvs.map (·.2)) (ps.map (·.2)) L'
 | .exc c fs=>fs=[]/\L=[]/\∃ a D ob,v=.ref a/\XName K c D/\H a=some (excF ob a (.ref D))
theorem Rep.view {K:FG} {H:Hp} {d:D} {v:V} {L:List Addr} (r:Rep K H d v L):RepV K H d v L:=by
 cases r with
 | non=>exact ⟨rfl,rfl⟩
 | bl b=>exact ⟨rfl,rfl⟩
 | int i=>exact ⟨rfl,rfl⟩
 | str x=>exact ⟨rfl,rfl⟩
 | tup h r=>exact ⟨_,_,rfl,h,r⟩
 | lst h r=>exact ⟨_,_,_,rfl,rfl,h,r⟩
 | lstF h r=>exact ⟨_,_,rfl,h,r⟩
 | dK h k r=>exact ⟨_,_,_,rfl,rfl,h,k,r⟩
 | dT h k r=>exact ⟨_,_,_,rfl,rfl,h,k,r⟩
 | exc n h=>exact ⟨rfl,rfl,_,_,_,rfl,n,h⟩
noncomputable def MutAt (H:Hp) (b:Addr):Prop:=(∃ xs,H b=some (.lst xs))\/(∃ ps,H b=some (.dK ps))\/∃ ps,H b=some (.dT ps)
theorem MutAt.ex {H:Hp} {b:Addr} (m:MutAt H b):∃ o,H b=some o:=by
 rcases m with ⟨_,h⟩ | ⟨_,h⟩ | ⟨_,h⟩ <;> exact ⟨_,h⟩
theorem MutAt.notup {H:Hp} {b:Addr} {vs:List V} (m:MutAt H b) (h:H b=some (.tup vs)):False:=by
 rcases m with ⟨_,e⟩ | ⟨_,e⟩ | ⟨_,e⟩ <;> rw [e] at h <;> cases h
theorem MutAt.nofrz {H:Hp} {b:Addr} {o:Obj} {u:HO} (m:MutAt H b) (h:H b=some (.frz o u)):False:=by
 rcases m with ⟨_,e⟩ | ⟨_,e⟩ | ⟨_,e⟩ <;> rw [e] at h <;> cases h
theorem FzL.keep {K:FG} {H H':Hp} {a:Addr} {vs:List V} {M:Addr->Prop} (h:FzL K H a vs) (k:∀ b o,H b=some o->¬ M b->H' b=some o) (hm:∀ b,M b->MutAt H b):FzL K H' a vs:=h.elim (fun ⟨o,e⟩=>.inl ⟨o,k a _ e fun z=>(hm a z).nofrz e⟩) .inr
section
variable {K:FG} {H H':Hp} {d:D} {v:V} {L:List Addr}
theorem Rep.inH (r:Rep K H d v L):∀ b ∈ L,MutAt H b:=by
 refine Rep.rec (motive_1:=fun _ _ L _=>∀ b ∈ L,MutAt H b) (motive_2:=fun _ _ L _=>∀ b ∈ L,MutAt H b) ?_ ?_ ?_ ?_ ?_ ?_ ?_ ?_ ?_ ?_ ?_ ?_ r
 ·intro b hb;cases hb
 ·intro _ b hb;cases hb
 ·intro _ b hb;cases hb
 ·intro _ b hb;cases hb
 ·intro _ _ _ _ _ _ ih;exact ih
 ·intro _ _ _ _ h _ ih b hb
  rcases AX.mp hb with e | hb
  ·rw [e];exact .inl ⟨_,h⟩
  ·exact ih b hb
 ·intro _ _ _ _ _ _ ih;exact ih
 ·intro _ _ _ _ h _ _ ih b hb
  rcases AX.mp hb with e | hb
  ·rw [e];exact .inr (.inl ⟨_,h⟩)
  ·exact ih b hb
 ·intro _ _ _ _ h _ _ ih b hb
  rcases AX.mp hb with e | hb
  ·rw [e];exact .inr (.inr ⟨_,h⟩)
  ·exact ih b hb
 ·intro _ _ _ _ _ _ b hb;cases hb
 ·intro b hb;cases hb
 ·intro _ _ _ _ _ _ _ _ i1 i2 b hb
  rcases A0.mp hb with h | h
  ·exact i1 b h
  ·exact i2 b h
theorem Reps.inH {ds:List D} {vs:List V} (r:Reps (Rep K H) ds vs L):∀ b ∈ L,MutAt H b:=by
 induction r with
 | nil=>intro b hb;cases hb
 | cons r _ ih =>
  intro b hb
  rcases A0.mp hb with h | h
  ·exact r.inH b h
  ·exact ih b h
theorem Rep.keep {M:Addr->Prop} (k:∀ b o,H b=some o->¬ M b->H' b=some o) (hm:∀ b,M b->MutAt H b) (r:Rep K H d v L):(∀ b ∈ L,¬ M b)->Rep K H' d v L:=by
 refine Rep.rec (motive_1:=fun d v L _=>(∀ b ∈ L,¬ M b)->Rep K H' d v L) (motive_2:=fun ds vs L _=>(∀ b ∈ L,¬ M b)->Reps (Rep K H') ds vs L) ?_ ?_ ?_ ?_ ?_ ?_ ?_ ?_ ?_ ?_ ?_ ?_ r
 ·intro _;exact .non
 ·intro b _;exact .bl b
 ·intro b _;exact .int b
 ·intro b _;exact .str b
 ·intro xs a vs L h _ ih hL
  exact .tup (k a _ h fun z=>(hm a z).notup h) (ih hL)
 ·intro xs a vs L h _ ih hL
  exact .lst (k a _ h (hL a AR)) (ih fun b hb=>hL b (AS _ hb))
 ·intro xs a vs L h _ ih hL
  exact .lstF (h.keep k hm) (ih hL)
 ·intro kvs a ps L h e _ ih hL
  exact .dK (k a _ h (hL a AR)) e (ih fun b hb=>hL b (AS _ hb))
 ·intro kvs a ps L h e _ ih hL
  exact .dT (k a _ h (hL a AR)) e (ih fun b hb=>hL b (AS _ hb))
 ·intro c a D ob n h _
  exact .exc n (k a _ h fun z=>(hm a z).nofrz h)
 ·intro _;exact .nil
 ·intro d v L ds vs L' _ _ i1 i2 hL
  exact .cons (i1 fun b hb=>hL b (AV _ hb)) (i2 fun b hb=>hL b (AW _ hb))
theorem Rep.same (r:Rep K H d v L) (s:Same H H'):Rep K H' d v L:=r.keep (M:=fun _=>False) (fun b o h _=>s b o h) (fun _ z=>z.elim) fun _ _ z=>z
theorem Reps.keep {M:Addr->Prop} {ds:List D} {vs:List V} (k:∀ b o,H b=some o->¬ M b->H' b=some o) (hm:∀ b,M b->MutAt H b) (r:Reps (Rep K H) ds vs L):(∀ b ∈ L,¬ M b)->Reps (Rep K H') ds vs L:=by
 induction r with
 | nil=>intro _;exact .nil
 | cons r _ ih=>intro hL;exact .cons (r.keep k hm fun b hb=>hL b (AV _ hb)) (ih fun b hb=>hL b (AW _ hb))
theorem Reps.same {ds:List D} {vs:List V} (r:Reps (Rep K H) ds vs L) (s:Same H H'):Reps (Rep K H') ds vs L:=r.keep (M:=fun _=>False) (fun b o h _=>s b o h) (fun _ z=>z.elim) fun _ _ z=>z
end
inductive Fl where
 | u | l | z
 deriving DecidableEq
structure It3 where
 d:D
 v:V
 L:List Addr
 f:Fl
noncomputable abbrev Sto:=List (Option (D × Fl))
structure Gm where
 H0:Hp
 bw:Addr->Prop
 pr:Nat->Bool
 σ0:St
 orig:Hp
 src:Addr->Prop
 lv:Nat->Option V
noncomputable def OwnOk (G:Gm) (x:It3):Prop:=jJ x.d=true/\∃ a L',x.v=.ref a/\x.L=a :: L'/\a ∉ L'/\(x.f=.u->G.H0 a=none\/G.bw a)
structure ItOk (K:FG) (G:Gm) (H:Hp) (x:It3):Prop where
 rep:Rep K H x.d x.v x.L
 own:x.f ≠ .z->OwnOk G x
 src:∀ c ∈ x.L,G.H0 c=none\/G.src c
structure Fx (G:Gm) (H:Hp) (T:List It3) (g:Nat->Option It3):Prop where
 frT:∀ x ∈ T,x.f ≠ .z->∀ a,x.v=.ref a->G.orig a=none
 frS:∀ i x,g i=some x->G.pr i=false->x.f ≠ .z->∀ a,x.v=.ref a->G.orig a=none
 bin:∀ b,G.bw b->∃ o,H b=some o
 ob:∀ b o,G.orig b=some o->∃ o',H b=some o'
 lvS:∀ i x,g i=some x->x.f=.l->G.lv i=some x.v
noncomputable def NoRoot (x y:It3):Prop:=x.f ≠ .z->∀ a,x.v=.ref a->a ∉ y.L
noncomputable def Apart3 (x y:It3):Prop:=NoRoot x y/\NoRoot y x
structure Wf (K:FG) (G:Gm) (H:Hp) (σ:St) (ρ:Sto) (T:List It3) (g:Nat->Option It3):Prop where
 len:σ.length = ρ.length
 sl:∀ i,(g i).map (fun x=>(x.d,x.f))=(ρ[i]?).join
 sv:∀ i x,g i=some x->σ[i]?=some (some x.v)
 okS:∀ i x,g i=some x->ItOk K G H x
 okT:∀ x ∈ T,ItOk K G H x
 ss:∀ i j x y,i ≠ j->g i=some x->g j=some y->NoRoot x y
 st:∀ i x,g i=some x->∀ y ∈ T,Apart3 x y
 tt:T.Pairwise Apart3
 base:∀ b o,G.H0 b=some o->¬ G.bw b->H b=some o
 pro:∀ i,G.pr i=true->σ[i]?=G.σ0[i]?
 fx:Fx G H T g
structure Le (K:FG) (G:Gm) (W:D->Sto->Prop) (G0:Gm) (W0:D->Sto->Prop):Prop where
 pr:G.pr=G0.pr
 ex:∀ (H:Hp) (σ:St) (ρ:Sto) (T:List It3) (g:Nat->Option It3) (e:D),Wf K G H σ ρ T g->W e ρ->∃ ρ0 T0 g0,Wf K G0 H σ ρ0 T0 g0/\W0 e ρ0
theorem Le.refl (K:FG) (G:Gm) (W:D->Sto->Prop):Le K G W G W:=⟨rfl,fun _ _ ρ T g _ w h=>⟨ρ,T,g,w,h⟩⟩
theorem Le.trans {K:FG} {G G1 G2:Gm} {W W1 W2:D->Sto->Prop} (a:Le K G W G1 W1) (b:Le K G1 W1 G2 W2):Le K G W G2 W2:=⟨a.pr.trans b.pr,fun H σ ρ T g e w h=>by
 obtain ⟨ρ1,T1,g1,w1,h1⟩:=a.ex H σ ρ T g e w h
 exact b.ex H σ ρ1 T1 g1 e w1 h1⟩
section
variable {K:FG} {G:Gm} {H H':Hp} {σ:St} {ρ:Sto} {T T':List It3} {g:Nat->Option It3} {x y z:It3}
theorem ItOk.keep {M:Addr->Prop} (h:ItOk K G H x) (k:∀ b o,H b=some o->¬ M b->H' b=some o) (hm:∀ b,M b->MutAt H b) (hL:∀ b ∈ x.L,¬ M b):ItOk K G H' x:=⟨h.rep.keep k hm hL,h.own,h.src⟩
theorem ItOk.same (h:ItOk K G H x) (s:Same H H'):ItOk K G H' x:=⟨h.rep.same s,h.own,h.src⟩
theorem Fx.more (f:Fx G H T g) (s:∀ b o,H b=some o->∃ o',H' b=some o'):Fx G H' T g:=⟨f.frT,f.frS,fun b h=>let ⟨o,e⟩:=f.bin b h;s b o e,fun b o h=>let ⟨o',e⟩:=f.ob b o h;s b o' e,f.lvS⟩
theorem Fx.sub (f:Fx G H T g) (h:∀ x ∈ T',x ∈ T):Fx G H T' g:=⟨fun x hx=>f.frT x (h x hx),f.frS,f.bin,f.ob,f.lvS⟩
theorem Wf.grow (w:Wf K G H σ ρ T g) (s:Same H H'):Wf K G H' σ ρ T g :=
 ⟨w.len,w.sl,w.sv,fun i x e=>(w.okS i x e).same s,fun x hx=>(w.okT x hx).same s,w.ss,w.st,w.tt,fun b o e n=>s b o (w.base b o e n),w.pro,w.fx.more fun b o h=>⟨o,s b o h⟩⟩
theorem Wf.sub (w:Wf K G H σ ρ T g) (h:T'.Sublist T):Wf K G H σ ρ T' g :=
 ⟨w.len,w.sl,w.sv,w.okS,fun x hx=>w.okT x (h.subset hx),w.ss,fun i x e y hy=>w.st i x e y (h.subset hy),w.tt.sublist h,w.base,w.pro,w.fx.sub fun x hx=>h.subset hx⟩
noncomputable def Itm (T:List It3) (g:Nat->Option It3) (y:It3):Prop:=(∃ i,g i=some y)\/y ∈ T
noncomputable def eS (T:List It3) (g:Nat->Option It3) (c:Addr):Prop:=(∀ i z,g i=some z->z.f ≠ .z->z.v ≠ .ref c)/\∀ z ∈ T,z.f ≠ .z->z.v ≠ .ref c
theorem Wf.itm (w:Wf K G H σ ρ T g) (h:Itm T g y):ItOk K G H y:=by
 rcases h with ⟨i,e⟩ | h
 ·exact w.okS i y e
 ·exact w.okT y h
theorem nD {α:Type} {R:α->α->Prop} {l:List α} (p:l.Pairwise R) (hs:∀ a b,R a b->R b a):∀ a ∈ l,∀ b ∈ l,a ≠ b->R a b:=by
 induction p with
 | nil=>intro a ha;cases ha
 | @cons c l hc _ ih =>
  intro a ha b hb n
  rcases AX.mp ha with ea | ha
  ·rcases AX.mp hb with eb | hb
   ·exact absurd (ea.trans eb.symm) n
   ·rw [ea];exact hc b hb
  ·rcases AX.mp hb with eb | hb
   ·rw [eb];exact hs _ _ (hc a ha)
   ·exact ih a ha b hb n
theorem Apart3.symm (h:Apart3 x y):Apart3 y x:=⟨h.2,h.1⟩
theorem Wf.kid (w:Wf K G H σ ρ T g) (h:Itm T g y) {c:Addr} (hc:c ∈ y.L) (hn:y.f ≠ .z->y.v ≠ .ref c):eS T g c:=by
 refine ⟨fun i z e hz ez=>?_,fun z hm hz ez=>?_⟩
 ·rcases h with ⟨j,ej⟩ | hy
  ·by_cases ij:i=j
   ·subst ij
    rw [e] at ej
    cases ej
    exact hn hz ez
   ·exact w.ss i j z y ij e ej hz c ez hc
  ·exact (w.st i z e y hy).1 hz c ez hc
 ·rcases h with ⟨j,ej⟩ | hy
  ·exact (w.st j y ej z hm).2 hz c ez hc
  ·by_cases e:z=y
   ·subst e;exact hn hz ez
   ·exact (nD w.tt (fun _ _=>Apart3.symm) z hm y hy e).1 hz c ez hc
structure New (K:FG) (H H':Hp) (Ks:Addr->Prop) (x:It3):Prop where
 same:Same H H'
 rep:Rep K H' x.d x.v x.L
 sub:∀ c ∈ x.L,H c=none\/Ks c
 own:x.f ≠ .z->jJ x.d=true/\∃ a L',x.v=.ref a/\x.L=a :: L'/\a ∉ L'/\H a=none
theorem Wf.h0none (w:Wf K G H σ ρ T g) {a:Addr} (h:H a=none):G.H0 a=none:=by
 cases e:G.H0 a with
 | none=>rfl
 | some o =>
  by_cases b:G.bw a
  ·obtain ⟨o,e⟩:=w.fx.bin a b
   rw [h] at e;cases e
  ·have:=w.base a o e b
   rw [h] at this;cases this
theorem Wf.ornone (w:Wf K G H σ ρ T g) {a:Addr} (h:H a=none):G.orig a=none:=by
 cases e:G.orig a with
 | none=>rfl
 | some o =>
  obtain ⟨o,e⟩:=w.fx.ob a o e
  rw [h] at e;cases e
theorem Wf.push {Ks:Addr->Prop} (w:Wf K G H σ ρ T g) (n:New K H H' Ks x) (hk:∀ c,Ks c->eS T g c/\(G.H0 c=none\/G.src c)):Wf K G H' σ ρ (x :: T) g:=by
 have w':=w.grow n.same
 have a1:∀ y:It3,ItOk K G H y->(∀ c,Ks c->y.f ≠ .z->y.v ≠ .ref c)->Apart3 y x:=fun y oy hy=>by
  refine ⟨fun hf a e hm=>?_,fun hf a e hm=>?_⟩
  ·obtain ⟨_,a',L',e1,e2,_,_⟩:=oy.own hf
   rw [e] at e1
   cases e1
   rcases n.sub a hm with h | h
   ·obtain ⟨o,ho⟩:=(oy.rep.inH a (by rw [e2];exact AR)).ex
    rw [h] at ho;cases ho
   ·exact hy a h hf e
  ·obtain ⟨_,a',L',e1,e2,_,h⟩:=n.own hf
   rw [e] at e1
   cases e1
   obtain ⟨o,ho⟩:=(oy.rep.inH a hm).ex
   rw [h] at ho;cases ho
 refine ⟨w'.len,w'.sl,w'.sv,w'.okS,?_,w'.ss,?_,?_,w'.base,w'.pro,⟨fun y hy hf a ea=>?_,w'.fx.frS,w'.fx.bin,w'.fx.ob,w'.fx.lvS⟩⟩
 ·intro y hy
  rcases AX.mp hy with rfl | hy
  ·refine ⟨n.rep,fun hf=>?_,fun c hc=>?_⟩
   ·obtain ⟨e0,a,L',e1,e2,e3,e4⟩:=n.own hf
    exact ⟨e0,a,L',e1,e2,e3,fun _=>.inl (w.h0none e4)⟩
   ·rcases n.sub c hc with h | h
    ·exact .inl (w.h0none h)
    ·exact (hk c h).2
  ·exact w'.okT y hy
 ·intro i z e y hy
  rcases AX.mp hy with rfl | hy
  ·exact a1 z (w.okS i z e) fun c hc=>(hk c hc).1.1 i z e
  ·exact w'.st i z e y hy
 ·refine List.pairwise_cons.mpr ⟨fun y hy=>(a1 y (w.okT y hy) fun c hc=>(hk c hc).1.2 y hy).symm,w'.tt⟩
 ·rcases AX.mp hy with h | hy
  ·subst h
   obtain ⟨e0,a',L',e1,e2,e3,e4⟩:=n.own hf
   rw [ea] at e1
   cases e1
   exact w.ornone e4
  ·exact w'.fx.frT y hy hf a ea
noncomputable def eB (ys:List It3) (c:Addr):Prop:=∃ y ∈ ys,c ∈ y.L/\(y.f ≠ .z->y.v ≠ .ref c)
theorem Wf.kids (w:Wf K G H σ ρ T g) {ys:List It3} (hy:∀ y ∈ ys,Itm T g y) {c:Addr} (h:eB ys c):eS T g c/\(G.H0 c=none\/G.src c):=by
 obtain ⟨y,m,hc,hn⟩:=h
 exact ⟨w.kid (hy y m) hc hn,(w.itm (hy y m)).src c hc⟩
structure Arg (K:FG) (H:Hp) (p:It3):Prop where
 rep:Rep K H p.d p.v p.L
 own:p.f ≠ .z->jJ p.d=true/\∃ a L',p.v=.ref a/\p.L=a :: L'/\a ∉ L'
theorem ItOk.arg (h:ItOk K G H x):Arg K H x:=⟨h.rep,fun hf=>by
 obtain ⟨m,a,L',v1,v2,v3,_⟩:=h.own hf
 exact ⟨m,a,L',v1,v2,v3⟩⟩
end
end L3
end
section
namespace L3
open PySem L2
inductive R3 where
 | pl (i:Nat) | val (d:D) (f:Fl)
noncomputable abbrev M3 (α:Type):=Sto->Option (Except D α × Sto)
noncomputable abbrev EM:=M3 R3
noncomputable def ag {α β:Type} (m:M3 α) (k:α->M3 β):M3 β:=fun ρ=>match m ρ with
 | none=>none
 | some (.error e,ρ')=>some (.error e,ρ')
 | some (.ok a,ρ')=>k a ρ'
noncomputable def bI {α:Type} (a:α):M3 α:=fun ρ=>some (.ok a,ρ)
noncomputable def bB {α:Type} (o:Option α):M3 α:=fun ρ=>o.map fun a=>(.ok a,ρ)
noncomputable def der (r:R3):M3 D:=fun ρ=>match r with
 | .pl i=>((ρ[i]?).join).map fun p=>(.ok p.1,ρ)
 | .val d _=>some (.ok d,ρ)
inductive Ar (σ:St):R3->V->List It3->Prop where
 | pl {i:Nat} {v:V}:σ[i]?=some (some v)->Ar σ (.pl i) v []
 | val (x:It3):Ar σ (.val x.d x.f) x.v [x]
noncomputable def Got (K:FG) (G:Gm) (σ:St) (ρ:Sto) (T:List It3) (r:R3) (v:V) (H:Hp):Prop:=∃ Ts g,Wf K G H σ ρ (Ts ++ T) g/\Ar σ r v Ts
noncomputable def tE (K:FG) (G0:Gm) (W0:D->Sto->Prop) (m:EM):TE:=fun σ H Q=>∃ G W,Le K G W G0 W0/\∃ ρ T g r ρ',Wf K G H σ ρ T g/\m ρ=some (r,ρ')/\match r with
 | .ok r=>∀ v H',Got K G σ ρ' T r v H'->Q v H'
 | .error e=>W e ρ'
noncomputable def tT (K:FG) (G0:Gm) (W0:D->Sto->Prop) (m:M3 Bool):TT:=fun σ H Q=>∃ G W,Le K G W G0 W0/\∃ ρ T g r ρ',Wf K G H σ ρ T g/\m ρ=some (r,ρ')/\match r with
 | .ok b=>∀ H' g',Wf K G H' σ ρ' T g'->Q b H'
 | .error e=>W e ρ'
inductive Ars (σ:St):List R3->List V->List It3->Prop where
 | nil:Ars σ [] [] []
 | cons {r v Ts rs vs Us}:Ar σ r v Ts->Ars σ rs vs Us->Ars σ (r :: rs) (v :: vs) (Us ++ Ts)
noncomputable def tA (K:FG) (G0:Gm) (W0:D->Sto->Prop) (m:M3 (List R3)):TA:=fun σ H Q=>∃ G W,Le K G W G0 W0/\∃ ρ T g r ρ',Wf K G H σ ρ T g/\m ρ=some (r,ρ')/\match r with
 | .ok rs=>∀ vs H' Ts g',Wf K G H' σ ρ' (Ts ++ T) g'->Ars σ rs vs Ts->Q vs H'
 | .error e=>W e ρ'
inductive Flw where
 | nx | br | ct | rt (d:D) (f:Fl)
noncomputable abbrev SM:=M3 Flw
noncomputable def tS (K:FG) (G0:Gm) (W0:D->Sto->Prop) (m:SM):TS:=fun E σ H=>∃ G W,Le K G W G0 W0/\∃ ρ T g r ρ',Wf K G H σ ρ T g/\m ρ=some (r,ρ')/\match r with
 | .ok .nx=>∀ σ' H' g',Wf K G H' σ' ρ' T g'->E.nx σ' H'
 | .ok .br=>∀ σ' H' g',Wf K G H' σ' ρ' T g'->E.bk σ' H'
 | .ok .ct=>∀ σ' H' g',Wf K G H' σ' ρ' T g'->E.ct σ' H'
 | .ok (.rt d f)=>∀ x σ' H' g',Wf K G H' σ' ρ' (x :: T) g'->x.d=d->x.f=f->E.rt x.v H'
 | .error e=>W e ρ'
section
variable {K:FG} {G G0:Gm} {W W0:D->Sto->Prop} {H H':Hp} {σ:St} {ρ ρ':Sto} {T T':List It3} {g:Nat->Option It3} {x y z:It3} {α β:Type}
theorem bq {r:R3} {k:D->M3 β} {o:Except D β} (e:ag (der r) k ρ=some (o,ρ')):∃ d,der r ρ=some (.ok d,ρ)/\k d ρ=some (o,ρ'):=by
 cases r with
 | pl i =>
  have er:der (.pl i) ρ=((ρ[i]?).join).map fun p=>(.ok p.1,ρ):=rfl
  unfold ag at e
  rw [er] at e ⊢
  cases h:(ρ[i]?).join with
  | none=>rw [h] at e;exact nsE e
  | some p=>rw [h] at e;exact ⟨p.1,rfl,e⟩
 | val d f=>exact ⟨d,rfl,e⟩
theorem cN {o:Option α} {r:Except D α} (e:bB o ρ=some (r,ρ')):∃ a,o=some a/\r=.ok a/\ρ' = ρ:=by
 unfold bB at e
 cases o with
 | none=>exact nsE e
 | some a=>cases e;exact ⟨a,rfl,rfl,rfl⟩
theorem Wf.slot (w:Wf K G H σ ρ T g) {i:Nat} {d:D} {f:Fl} (e:(ρ[i]?).join=some (d,f)):∃ y,g i=some y/\y.d=d/\y.f=f/\σ[i]?=some (some y.v):=by
 have h:=w.sl i
 rw [e] at h
 cases q:g i with
 | none=>rw [q] at h;exact nsE h
 | some y =>
  rw [q] at h
  cases h
  exact ⟨y,rfl,rfl,rfl,w.sv i y q⟩
theorem Ar.item {r:R3} {v:V} {Ts:List It3} {d:D} (w:Wf K G H σ ρ T g) (a:Ar σ r v Ts) (hs:∀ x ∈ Ts,x ∈ T) (e:der r ρ=some (.ok d,ρ)):∃ y,Itm T g y/\y.d=d/\y.v=v:=by
 cases a with
 | @pl i v h =>
  have er:der (.pl i) ρ=((ρ[i]?).join).map fun p=>(.ok p.1,ρ):=rfl
  rw [er] at e
  cases q:(ρ[i]?).join with
  | none=>rw [q] at e;exact nsE e
  | some p =>
   rw [q] at e
   obtain ⟨y,e1,e2,e3,e4⟩:=w.slot (d:=p.1) (f:=p.2) q
   have e5:p.1=d:=by cases e;rfl
   rw [h] at e4
   refine ⟨y,.inl ⟨i,e1⟩,e2.trans e5,?_⟩
   cases e4;rfl
 | val x=>cases e;exact ⟨x,.inr (hs x (by simp)),rfl,rfl⟩
theorem Wf.done {Us:List It3} {ys:List It3} (w:Wf K G H σ ρ (Us ++ T) g) (hy:∀ y ∈ ys,Itm (Us ++ T) g y) (n:New K H H' (eB ys) x):Got K G σ ρ T (.val x.d x.f) x.v H' :=
 ⟨[x],g,(w.push n fun c h=>w.kids hy h).sub (by simpa using List.Sublist.cons_cons x (A5 Us T)),.val x⟩
theorem tE.seq {ma:EM} {k:R3->M3 β} {r:Except D β} {P:VK} (le:Le K G W G0 W0) (w:Wf K G H σ ρ T g) (e:ag ma k ρ=some (r,ρ')) (he:∀ x,r=.error x->W x ρ')
  (h:∀ ra ρ1,k ra ρ1=some (r,ρ')->∀ v H1,Got K G σ ρ1 T ra v H1->P v H1):tE K G0 W0 ma σ H P:=by
 unfold ag at e
 cases q:ma ρ with
 | none=>rw [q] at e;exact nsE e
 | some p =>
  obtain ⟨o,ρ1⟩:=p
  rw [q] at e
  cases o with
  | error x=>cases e;exact ⟨G,W,le,ρ,T,g,.error x,ρ',w,q,he x rfl⟩
  | ok ra=>exact ⟨G,W,le,ρ,T,g,.ok ra,ρ1,w,q,h ra ρ1 e⟩
theorem tT.seq {ma:M3 Bool} {k:Bool->M3 β} {r:Except D β} {P:Bool->Hp->Prop} (le:Le K G W G0 W0) (w:Wf K G H σ ρ T g) (e:ag ma k ρ=some (r,ρ')) (he:∀ x,r=.error x->W x ρ')
  (h:∀ b ρ1,k b ρ1=some (r,ρ')->∀ H1 g1,Wf K G H1 σ ρ1 T g1->P b H1):tT K G0 W0 ma σ H P:=by
 unfold ag at e
 cases q:ma ρ with
 | none=>rw [q] at e;exact nsE e
 | some p =>
  obtain ⟨o,ρ1⟩:=p
  rw [q] at e
  cases o with
  | error x=>cases e;exact ⟨G,W,le,ρ,T,g,.error x,ρ',w,q,he x rfl⟩
  | ok ra=>exact ⟨G,W,le,ρ,T,g,.ok ra,ρ1,w,q,h ra ρ1 e⟩
theorem tA.seq {ma:M3 (List R3)} {k:List R3->M3 β} {r:Except D β} {P:List V->Hp->Prop} (le:Le K G W G0 W0) (w:Wf K G H σ ρ T g) (e:ag ma k ρ=some (r,ρ')) (he:∀ x,r=.error x->W x ρ')
  (h:∀ rs ρ1,k rs ρ1=some (r,ρ')->∀ vs H1 Ts g1,Wf K G H1 σ ρ1 (Ts ++ T) g1->Ars σ rs vs Ts->P vs H1):tA K G0 W0 ma σ H P:=by
 unfold ag at e
 cases q:ma ρ with
 | none=>rw [q] at e;exact nsE e
 | some p =>
  obtain ⟨o,ρ1⟩:=p
  rw [q] at e
  cases o with
  | error x=>cases e;exact ⟨G,W,le,ρ,T,g,.error x,ρ',w,q,he x rfl⟩
  | ok ra=>exact ⟨G,W,le,ρ,T,g,.ok ra,ρ1,w,q,h ra ρ1 e⟩
noncomputable def EndE (K:FG) (G:Gm) (W:D->Sto->Prop) (σ:St) (T:List It3) (ρ':Sto) (Q:VK):Except D R3->Prop
 | .ok r=>∀ v H',Got K G σ ρ' T r v H'->Q v H'
 | .error e=>W e ρ'
theorem EndE.err {Q:VK} {r:Except D R3} (h:EndE K G W σ T ρ' Q r):∀ x,r=.error x->W x ρ':=by
 intro x e;subst e;exact h
theorem tE.open {m:EM} {Q:VK} (h:tE K G0 W0 m σ H Q):∃ G W,Le K G W G0 W0/\∃ ρ T g r ρ',Wf K G H σ ρ T g/\m ρ=some (r,ρ')/\EndE K G W σ T ρ' Q r:=by
 obtain ⟨G,W,le,ρ,T,g,r,ρ',w,e,q⟩:=h
 refine ⟨G,W,le,ρ,T,g,r,ρ',w,e,?_⟩
 cases r with
 | ok r=>exact q
 | error x=>exact q
theorem tE.use {m:EM} {Q:VK} (h:tE K G0 W0 m σ H Q) {P:Prop} (k:∀ G W,Le K G W G0 W0->∀ ρ T g r ρ',Wf K G H σ ρ T g->m ρ=some (r,ρ')->EndE K G W σ T ρ' Q r->P):P:=by
 obtain ⟨G,W,le,ρ,T,g,r,ρ',w,e,q⟩:=h.open
 exact k G W le ρ T g r ρ' w e q
theorem tE.mk {m:EM} {Q:VK} {r:Except D R3} (le:Le K G W G0 W0) (w:Wf K G H σ ρ T g) (e:m ρ=some (r,ρ')) (h:EndE K G W σ T ρ' Q r):tE K G0 W0 m σ H Q:=by
 refine ⟨G,W,le,ρ,T,g,r,ρ',w,e,?_⟩
 cases r with
 | ok r=>exact h
 | error x=>exact h
noncomputable def ac (i:Nat):EM:=fun ρ=>((ρ[i]?).join).map fun _=>(.ok (.pl i),ρ)
theorem zw {i:Nat} {Q:VK} (h:tE K G0 W0 (ac i) σ H Q):sI i σ H Q:=by
 refine h.use fun G W le ρ T g r ρ' w e q=>?_
 unfold ac at e
 cases h:(ρ[i]?).join with
 | none=>rw [h] at e;exact nsE e
 | some p =>
  rw [h] at e
  cases e
  obtain ⟨y,_,_,_,e4⟩:=w.slot (d:=p.1) (f:=p.2) h
  exact ⟨y.v,e4,q y.v H ⟨[],g,w,.pl e4⟩⟩
noncomputable def mC (d:D):EM:=bI (.val d .z)
theorem Wf.const {d:D} {v:V} (w:Wf K G H σ ρ T g) (r:Rep K H d v []):Got K G σ ρ T (.val d .z) v H :=
 Wf.done (Us:=[]) (ys:=[]) (x:=⟨d,v,[],.z⟩) w (fun _ h=>(by cases h)) ⟨Same.refl _,r,fun _ h=>(by cases h),fun h=>absurd rfl h⟩
theorem gZ {d:D} {v:V} {Q:VK} (r:∀ H,Rep K H d v []) (h:tE K G0 W0 (mC d) σ H Q):tC v σ H Q:=by
 refine h.use fun G W le ρ T g o ρ' w e q=>?_
 cases e
 exact q v H (w.const (r H))
noncomputable def aj (f:D->D->Option (D × Fl)) (ma mb:EM):EM:=ag ma fun ra=>ag mb fun rb=>ag (der ra) fun da=>ag (der rb) fun db=>bB ((f da db).map fun p=>R3.val p.1 p.2)
noncomputable def OpD (K:FG) (r:R2) (f:D->D->Option (D × Fl)):Prop:=∀ (a b:It3) (H:Hp) (Q:VK) (p:D × Fl),Arg K H a->Arg K H b->f a.d b.d=some p ->
 (∀ w H',New K H H' (eB [a,b]) w->w.d=p.1->w.f=p.2->Q w.v H')->r a.v b.v H Q
theorem pG {Us:List It3} {ys:List It3} {Q:VK} {d:D} {f:Fl} (w:Wf K G H σ ρ (Us ++ T) g) (hy:∀ y ∈ ys,Itm (Us ++ T) g y) (q:EndE K G W σ T ρ Q (.ok (.val d f))) :
  ∀ w' H',New K H H' (eB ys) w'->w'.d=d->w'.f=f->Q w'.v H':=by
 intro w' H' n e1 e2
 subst e1 e2
 exact q w'.v H' (w.done hy n)
theorem nc {r:R2} {f:D->D->Option (D × Fl)} {ma mb:EM} {Q:VK} (ho:OpD K r f) (h:tE K G0 W0 (aj f ma mb) σ H Q):tOp r (tE K G0 W0 ma) (tE K G0 W0 mb) σ H Q:=by
 refine h.use fun G W le ρ T g o ρ' w e q=>?_
 refine tE.seq le w e q.err fun ra ρ1 e1 va H1 ⟨Ts,g1,w1,a1⟩=>?_
 refine tE.seq le w1 e1 q.err fun rb ρ2 e2 vb H2 ⟨Us,g2,w2,a2⟩=>?_
 obtain ⟨da,d1,e3⟩:=bq e2
 obtain ⟨db,d2,e4⟩:=bq e3
 obtain ⟨p,e5,rfl,rfl⟩:=cN e4
 obtain ⟨ya,i1,f1,f2⟩:=a1.item w2 (fun x hx=>AW _ (AV _ hx)) d1
 obtain ⟨yb,i2,f3,f4⟩:=a2.item w2 (fun x hx=>AV _ hx) d2
 subst f1 f2 f3 f4
 cases ef:f ya.d yb.d with
 | none=>rw [ef] at e5;exact nsE e5
 | some s =>
  rw [ef] at e5
  cases e5
  rw [<- List.append_assoc] at w2 i1 i2
  refine ho ya yb H2 Q s (w2.itm i1).arg (w2.itm i2).arg ef (pG w2 (fun y hy=>?_) q)
  rcases AX.mp hy with h | hy
  ·rw [h];exact i1
  ·rw [Bp.mp hy];exact i2
noncomputable def mUn (f:D->Option (D × Fl)) (ma:EM):EM:=ag ma fun ra=>ag (der ra) fun da=>bB ((f da).map fun p=>R3.val p.1 p.2)
noncomputable def UnD (K:FG) (r:V->Hp->VK->Prop) (f:D->Option (D × Fl)):Prop:=∀ (a:It3) (H:Hp) (Q:VK) (p:D × Fl),Arg K H a->f a.d=some p ->
 (∀ w H',New K H H' (eB [a]) w->w.d=p.1->w.f=p.2->Q w.v H')->r a.v H Q
theorem yI {r:V->Hp->VK->Prop} {f:D->Option (D × Fl)} {ma:EM} {Q:VK} (ho:UnD K r f) (h:tE K G0 W0 (mUn f ma) σ H Q):tUn r (tE K G0 W0 ma) σ H Q:=by
 refine h.use fun G W le ρ T g o ρ' w e q=>?_
 refine tE.seq le w e q.err fun ra ρ1 e1 va H1 ⟨Ts,g1,w1,a1⟩=>?_
 obtain ⟨da,d1,e3⟩:=bq e1
 obtain ⟨p,e5,rfl,rfl⟩:=cN e3
 obtain ⟨ya,i1,f1,f2⟩:=a1.item w1 (fun x hx=>AV _ hx) d1
 subst f1 f2
 cases ef:f ya.d with
 | none=>rw [ef] at e5;exact nsE e5
 | some s =>
  rw [ef] at e5
  cases e5
  exact ho ya H1 Q s (w1.itm i1).arg ef (pG w1 (fun y hy=>by rw [Bp.mp hy];exact i1) q)
noncomputable def ah:M3 (List R3):=bI []
noncomputable def ab (m:EM) (ms:M3 (List R3)):M3 (List R3):=ag m fun r=>ag ms fun rs=>bI (r :: rs)
noncomputable def EndA (K:FG) (G:Gm) (W:D->Sto->Prop) (σ:St) (T:List It3) (ρ':Sto) (Q:List V->Hp->Prop):Except D (List R3)->Prop
 | .ok rs=>∀ vs H' Ts g',Wf K G H' σ ρ' (Ts ++ T) g'->Ars σ rs vs Ts->Q vs H'
 | .error e=>W e ρ'
theorem EndA.err {Q:List V->Hp->Prop} {r:Except D (List R3)} (h:EndA K G W σ T ρ' Q r):∀ x,r=.error x->W x ρ':=by
 intro x e;subst e;exact h
theorem tA.open {m:M3 (List R3)} {Q:List V->Hp->Prop} (h:tA K G0 W0 m σ H Q):∃ G W,Le K G W G0 W0/\∃ ρ T g r ρ',Wf K G H σ ρ T g/\m ρ=some (r,ρ')/\EndA K G W σ T ρ' Q r:=by
 obtain ⟨G,W,le,ρ,T,g,r,ρ',w,e,q⟩:=h
 refine ⟨G,W,le,ρ,T,g,r,ρ',w,e,?_⟩
 cases r with
 | ok r=>exact q
 | error x=>exact q
theorem tA.use {m:M3 (List R3)} {Q:List V->Hp->Prop} (h:tA K G0 W0 m σ H Q) {P:Prop} (k:∀ G W,Le K G W G0 W0->∀ ρ T g r ρ',Wf K G H σ ρ T g->m ρ=some (r,ρ')->EndA K G W σ T ρ' Q r->P):P:=by
 obtain ⟨G,W,le,ρ,T,g,r,ρ',w,e,q⟩:=h.open
 exact k G W le ρ T g r ρ' w e q
theorem zC {Q:List V->Hp->Prop} (h:tA K G0 W0 ah σ H Q):tNil σ H Q:=by
 refine h.use fun G W le ρ T g r ρ' w e q=>?_
 cases e
 exact q [] H [] g w .nil
theorem wY {m:EM} {ms:M3 (List R3)} {Q:List V->Hp->Prop} (h:tA K G0 W0 (ab m ms) σ H Q):yM (tE K G0 W0 m) (tA K G0 W0 ms) σ H Q:=by
 refine h.use fun G W le ρ T g r ρ' w e q=>?_
 refine tE.seq le w e q.err fun ra ρ1 e1 va H1 ⟨Ts,g1,w1,a1⟩=>?_
 refine tA.seq le w1 e1 q.err fun rs ρ2 e2 vs H2 Us g2 w2 a2=>?_
 cases e2
 refine q (va :: vs) H2 (Us ++ Ts) g2 ?_ (.cons a1 a2)
 rw [List.append_assoc]
 exact w2
noncomputable def gJ:List R3->M3 (List D)
 | []=>bI []
 | r :: rs=>ag (der r) fun d=>ag (gJ rs) fun ds=>bI (d :: ds)
theorem se:∀ {rs:List R3} {ρ ρ':Sto} {o:Except D (List D)},gJ rs ρ=some (o,ρ')->∃ ds,o=.ok ds/\ρ' = ρ
 | [],ρ,ρ',o,e=>by cases e;exact ⟨[],rfl,rfl⟩
 | r :: rs,ρ,ρ',o,e=>by
  obtain ⟨d,e1,e2⟩:=bq (k:=fun d=>ag (gJ rs) fun ds=>bI (d :: ds)) e
  unfold ag at e2
  cases q:gJ rs ρ with
  | none=>rw [q] at e2;exact nsE e2
  | some p =>
   obtain ⟨o',ρ1⟩:=p
   obtain ⟨ds,rfl,rfl⟩:=se q
   rw [q] at e2
   cases e2
   exact ⟨d :: ds,rfl,rfl⟩
theorem eV {rs:List R3} {k:List D->M3 β} {o:Except D β} (e:ag (gJ rs) k ρ=some (o,ρ')):∃ ds,gJ rs ρ=some (.ok ds,ρ)/\k ds ρ=some (o,ρ'):=by
 unfold ag at e
 cases q:gJ rs ρ with
 | none=>rw [q] at e;exact nsE e
 | some p =>
  obtain ⟨o',ρ1⟩:=p
  obtain ⟨ds,rfl,rfl⟩:=se q
  rw [q] at e
  exact ⟨ds,rfl,e⟩
theorem Ars.items:∀ {rs:List R3} {vs:List V} {Ts:List It3} {ds:List D} ,Wf K G H σ ρ T g->Ars σ rs vs Ts->(∀ x ∈ Ts,x ∈ T)->gJ rs ρ=some (.ok ds,ρ)->∃ ys:List It3,(∀ y ∈ ys,Itm T g y)/\ys.map (·.d)=ds/\ys.map (·.v)=vs
 | [],_,_,ds,w,.nil,_,e=>by cases e;exact ⟨[],fun _ h=>(by cases h),rfl,rfl⟩
 | r :: rs,_,_,ds,w,.cons a as,hs,e=>by
  obtain ⟨d,e1,e2⟩:=bq (k:=fun d=>ag (gJ rs) fun ds=>bI (d :: ds)) e
  obtain ⟨ds',e3,e4⟩:=eV e2
  cases e4
  obtain ⟨y,i1,f1,f2⟩:=a.item w (fun x hx=>hs x (AW _ hx)) e1
  obtain ⟨ys,i2,f3,f4⟩:=Ars.items w as (fun x hx=>hs x (AV _ hx)) e3
  refine ⟨y :: ys,fun z hz=>?_,by simp [f1,f3],by simp [f2,f4]⟩
  rcases AX.mp hz with h | hz
  ·rw [h];exact i1
  ·exact i2 z hz
noncomputable def aG (f:List D->Option (D × Fl)) (ms:M3 (List R3)):EM:=ag ms fun rs=>ag (gJ rs) fun ds=>bB ((f ds).map fun p=>R3.val p.1 p.2)
noncomputable def gU (K:FG) (r:List V->Hp->VK->Prop) (f:List D->Option (D × Fl)):Prop:=∀ (ys:List It3) (H:Hp) (Q:VK) (p:D × Fl),(∀ y ∈ ys,Arg K H y)->f (ys.map (·.d))=some p ->
 (∀ w H',New K H H' (eB ys) w->w.d=p.1->w.f=p.2->Q w.v H')->r (ys.map (·.v)) H Q
theorem ju {r:List V->Hp->VK->Prop} {f:List D->Option (D × Fl)} {ms:M3 (List R3)} {Q:VK} (ho:gU K r f) (h:tE K G0 W0 (aG f ms) σ H Q):tCB r (tA K G0 W0 ms) σ H Q:=by
 refine h.use fun G W le ρ T g o ρ' w e q=>?_
 refine tA.seq le w e q.err fun rs ρ1 e1 vs H1 Ts g1 w1 a1=>?_
 obtain ⟨ds,d1,e2⟩:=eV e1
 obtain ⟨p,e5,rfl,rfl⟩:=cN e2
 obtain ⟨ys,i1,f1,f2⟩:=a1.items w1 (fun x hx=>AV _ hx) d1
 subst f1 f2
 cases ef:f (ys.map (·.d)) with
 | none=>rw [ef] at e5;exact nsE e5
 | some s =>
  rw [ef] at e5
  cases e5
  exact ho ys H1 Q s (fun y hy=>(w1.itm (i1 y hy)).arg) ef (pG w1 i1 q)
noncomputable def asB:D->Option Bool
 | .bl b=>some b
 | _=>none
noncomputable def nK (ma mb:EM):EM:=ag ma fun ra=>ag (der ra) fun d=>ag (bB (asB d)) fun b=>if b then mb else bI (.val (.bl false) .z)
noncomputable def mOr (ma mb:EM):EM:=ag ma fun ra=>ag (der ra) fun d=>ag (bB (asB d)) fun b=>if b then bI (.val (.bl true) .z) else mb
noncomputable def yg (ma:EM):EM:=ag ma fun ra=>ag (der ra) fun d=>ag (bB (asB d)) fun b=>bI (.val (.bl (!b)) .z)
theorem iR {o:Option α} {k:α->M3 β} {r:Except D β} (e:ag (bB o) k ρ=some (r,ρ')):∃ a,o=some a/\k a ρ=some (r,ρ'):=by
 unfold ag bB at e
 cases o with
 | none=>exact nsE e
 | some a=>exact ⟨a,rfl,e⟩
theorem wD {d:D} {b:Bool} (e:asB d=some b):d=.bl b:=by
 cases d <;> first | exact nsE e | cases e
 rfl
theorem Rep.bl_eq {b:Bool} {v:V} {L:List Addr} (r:Rep K H (.bl b) v L):v=.bl b/\L=[]:=by cases r;exact ⟨rfl,rfl⟩
theorem Ar.bool {ra:R3} {v:V} {Ts:List It3} {d:D} {b:Bool} (w:Wf K G H σ ρ (Ts ++ T) g) (a:Ar σ ra v Ts) (e:der ra ρ=some (.ok d,ρ)) (hb:asB d=some b):v=.bl b:=by
 obtain ⟨y,i1,f1,f2⟩:=a.item w (fun x hx=>AV _ hx) e
 have r:=(w.itm i1).rep
 rw [f1,wD hb] at r
 rw [<- f2]
 exact r.bl_eq.1
theorem zB {ma mb:EM} {Q:VK} (h:tE K G0 W0 (nK ma mb) σ H Q):yO (tE K G0 W0 ma) (tE K G0 W0 mb) σ H Q:=by
 refine h.use fun G W le ρ T g o ρ' w e q=>?_
 refine tE.seq le w e q.err fun ra ρ1 e1 va H1 ⟨Ts,g1,w1,a1⟩=>?_
 obtain ⟨d,d1,e2⟩:=bq e1
 obtain ⟨b,hb,e3⟩:=iR e2
 refine ⟨b,a1.bool w1 d1 hb,?_⟩
 have w2:=w1.sub (A5 Ts T)
 cases b with
 | true=>exact tE.mk le w2 e3 q
 | false=>cases e3;exact q _ _ (w2.const (.bl false))
theorem tE_or {ma mb:EM} {Q:VK} (h:tE K G0 W0 (mOr ma mb) σ H Q):tOrV (tE K G0 W0 ma) (tE K G0 W0 mb) σ H Q:=by
 refine h.use fun G W le ρ T g o ρ' w e q=>?_
 refine tE.seq le w e q.err fun ra ρ1 e1 va H1 ⟨Ts,g1,w1,a1⟩=>?_
 obtain ⟨d,d1,e2⟩:=bq e1
 obtain ⟨b,hb,e3⟩:=iR e2
 refine ⟨b,a1.bool w1 d1 hb,?_⟩
 have w2:=w1.sub (A5 Ts T)
 cases b with
 | false=>exact tE.mk le w2 e3 q
 | true=>cases e3;exact q _ _ (w2.const (.bl true))
theorem zy {ma:EM} {Q:VK} (h:tE K G0 W0 (yg ma) σ H Q):yG (tE K G0 W0 ma) σ H Q:=by
 refine h.use fun G W le ρ T g o ρ' w e q=>?_
 refine tE.seq le w e q.err fun ra ρ1 e1 va H1 ⟨Ts,g1,w1,a1⟩=>?_
 obtain ⟨d,d1,e2⟩:=bq e1
 obtain ⟨b,hb,e3⟩:=iR e2
 refine ⟨b,a1.bool w1 d1 hb,?_⟩
 have w2:=w1.sub (A5 Ts T)
 cases e3;exact q _ _ (w2.const (.bl (!b)))
noncomputable def EndT (K:FG) (G:Gm) (W:D->Sto->Prop) (σ:St) (T:List It3) (ρ':Sto) (Q:Bool->Hp->Prop):Except D Bool->Prop
 | .ok b=>∀ H' g',Wf K G H' σ ρ' T g'->Q b H'
 | .error e=>W e ρ'
theorem EndT.err {Q:Bool->Hp->Prop} {r:Except D Bool} (h:EndT K G W σ T ρ' Q r):∀ x,r=.error x->W x ρ':=by
 intro x e;subst e;exact h
theorem tT.open {m:M3 Bool} {Q:Bool->Hp->Prop} (h:tT K G0 W0 m σ H Q):∃ G W,Le K G W G0 W0/\∃ ρ T g r ρ',Wf K G H σ ρ T g/\m ρ=some (r,ρ')/\EndT K G W σ T ρ' Q r:=by
 obtain ⟨G,W,le,ρ,T,g,r,ρ',w,e,q⟩:=h
 refine ⟨G,W,le,ρ,T,g,r,ρ',w,e,?_⟩
 cases r with
 | ok r=>exact q
 | error x=>exact q
theorem tT.use {m:M3 Bool} {Q:Bool->Hp->Prop} (h:tT K G0 W0 m σ H Q) {P:Prop} (k:∀ G W,Le K G W G0 W0->∀ ρ T g r ρ',Wf K G H σ ρ T g->m ρ=some (r,ρ')->EndT K G W σ T ρ' Q r->P):P:=by
 obtain ⟨G,W,le,ρ,T,g,r,ρ',w,e,q⟩:=h.open
 exact k G W le ρ T g r ρ' w e q
theorem tT.mk {m:M3 Bool} {Q:Bool->Hp->Prop} {r:Except D Bool} (le:Le K G W G0 W0) (w:Wf K G H σ ρ T g) (e:m ρ=some (r,ρ')) (h:EndT K G W σ T ρ' Q r):tT K G0 W0 m σ H Q:=by
 refine ⟨G,W,le,ρ,T,g,r,ρ',w,e,?_⟩
 cases r with
 | ok r=>exact h
 | error x=>exact h
noncomputable def cB (m:EM):M3 Bool:=ag m fun r=>ag (der r) fun d=>bB (asB d)
theorem zj {m:EM} {Q:Bool->Hp->Prop} (h:tT K G0 W0 (cB m) σ H Q):tB (tE K G0 W0 m) σ H Q:=by
 refine h.use fun G W le ρ T g o ρ' w e q=>?_
 refine tE.seq le w e q.err fun ra ρ1 e1 va H1 ⟨Ts,g1,w1,a1⟩=>?_
 obtain ⟨d,d1,e2⟩:=bq e1
 obtain ⟨b,hb,rfl,rfl⟩:=cN e2
 exact ⟨b,a1.bool w1 d1 hb,q _ _ (w1.sub (A5 Ts T))⟩
noncomputable def cOr (a b:M3 Bool):M3 Bool:=ag a fun c=>if c then bI true else b
noncomputable def gK (a:M3 Bool):M3 Bool:=ag a fun c=>bI (!c)
theorem tT_or {a b:M3 Bool} {Q:Bool->Hp->Prop} (h:tT K G0 W0 (cOr a b) σ H Q):tOr (tT K G0 W0 a) (tT K G0 W0 b) σ H Q:=by
 refine h.use fun G W le ρ T g o ρ' w e q=>?_
 refine tT.seq le w e q.err fun c ρ1 e1 H1 g1 w1=>?_
 cases c with
 | false=>exact tT.mk le w1 e1 q
 | true=>cases e1;exact q _ _ w1
theorem zh {a:M3 Bool} {Q:Bool->Hp->Prop} (h:tT K G0 W0 (gK a) σ H Q):tNot (tT K G0 W0 a) σ H Q:=by
 refine h.use fun G W le ρ T g o ρ' w e q=>?_
 refine tT.seq le w e q.err fun c ρ1 e1 H1 g1 w1=>?_
 cases e1;exact q _ _ w1
end
end L3
end
section
namespace L3
open PySem L2
noncomputable def eA (x:It3):It3:={ x with f:=.z }
theorem dw {x y:It3}:NoRoot (eA x) y:=fun h=>absurd rfl h
noncomputable def lowAt (i:Nat) (ρ:Sto):Sto:=match (ρ[i]?).join with
 | some (d,.u)=>ρ.set i (some (d,.z))
 | some (d,.l)=>ρ.set i (some (d,.z))
 | _=>ρ
noncomputable def frz (is:List Nat) (ρ:Sto):Sto:=is.foldl (fun ρ i=>lowAt i ρ) ρ
noncomputable def frz3 (is:List Nat):M3 Unit:=fun ρ=>some (.ok (),frz is ρ)
noncomputable def pls:List R3->List Nat
 | []=>[]
 | .pl i :: rs=>i :: pls rs
 | .val _ _ :: rs=>pls rs
section
variable {K:FG} {G G0:Gm} {W W0:D->Sto->Prop} {H H':Hp} {σ:St} {ρ ρ':Sto} {T T':List It3} {g:Nat->Option It3} {x y z:It3} {α β:Type}
theorem ItOk.low (h:ItOk K G H x):ItOk K G H (eA x):=⟨h.rep,fun q=>absurd rfl q,h.src⟩
theorem cr {ρ:Sto} {i j:Nat} {o:Option (D × Fl)} (hi:i < ρ.length):((ρ.set i o)[j]?).join=if j=i then o else (ρ[j]?).join:=by
 by_cases e:j=i
 ·subst e
  rw [if_pos rfl,List.getElem?_set_self hi]
  rfl
 ·rw [if_neg e,List.getElem?_set_ne (fun h=>e h.symm)]
theorem eQ {ρ:Sto} {i:Nat} {p:D × Fl} (h:(ρ[i]?).join=some p):i < ρ.length:=by
 cases q:ρ[i]? with
 | none=>rw [q] at h;exact nsE h
 | some o=>exact (A3.mp q).1
theorem Wf.lowSlot (w:Wf K G H σ ρ T g) {i:Nat} {d:D} {f:Fl} (e:(ρ[i]?).join=some (d,f)):Wf K G H σ (ρ.set i (some (d,.z))) T (fun j=>if j=i then (g i).map eA else g j):=by
 have hi:=eQ e
 obtain ⟨y,gy,ed,ef,ev⟩:=w.slot e
 have val:∀ j x,(if j=i then (g i).map eA else g j)=some x->∃ x0,g j=some x0/\(x=x0\/x=eA x0)/\(j=i->x=eA x0):=fun j x h=>by
  by_cases q:j=i
  ·subst q
   rw [if_pos rfl,gy] at h
   cases h
   exact ⟨y,gy,.inr rfl,fun _=>rfl⟩
  ·rw [if_neg q] at h
   exact ⟨x,h,.inl rfl,fun z=>absurd z q⟩
 have nr:∀ {a b:It3},NoRoot a b->∀ a' b',(a'=a\/a'=eA a)->(b'=b\/b'=eA b)->NoRoot a' b':=fun h a' b' h1 h2=>by
  rcases h1 with rfl | rfl
  ·rcases h2 with rfl | rfl
   ·exact h
   ·exact h
  ·exact dw
 refine ⟨by rw [List.length_set];exact w.len,fun j=>?_,fun j x h=>?_,fun j x h=>?_,w.okT,fun j k a b n h1 h2=>?_,fun j a h b hb=>?_,w.tt,w.base,w.pro,⟨w.fx.frT,fun j x h hp hf a ea=>?_,w.fx.bin,w.fx.ob,fun j x h hl=>?_⟩⟩
 ·rw [cr hi]
  by_cases q:j=i
  ·subst q
   rw [if_pos rfl,if_pos rfl,gy]
   show some ((eA y).d,Fl.z)=_
   rw [<- ed];rfl
  ·rw [if_neg q,if_neg q];exact w.sl j
 ·obtain ⟨x0,h0,hx,_⟩:=val j x h
  have:=w.sv j x0 h0
  rcases hx with rfl | rfl <;> exact this
 ·obtain ⟨x0,h0,hx,_⟩:=val j x h
  rcases hx with rfl | rfl
  ·exact w.okS j x h0
  ·exact (w.okS j x0 h0).low
 ·obtain ⟨a0,h0,ha,_⟩:=val j a h1
  obtain ⟨b0,h0',hb,_⟩:=val k b h2
  exact nr (w.ss j k a0 b0 n h0 h0') a b ha hb
 ·obtain ⟨a0,h0,ha,_⟩:=val j a h
  exact ⟨nr (w.st j a0 h0 b hb).1 a b ha (.inl rfl),nr (w.st j a0 h0 b hb).2 b a (.inl rfl) ha⟩
 ·obtain ⟨x0,h0,hx,_⟩:=val j x h
  rcases hx with rfl | rfl
  ·exact w.fx.frS j x h0 hp hf a ea
  ·exact absurd rfl hf
 ·obtain ⟨x0,h0,hx,_⟩:=val j x h
  rcases hx with rfl | rfl
  ·exact w.fx.lvS j x h0 hl
  ·cases hl
noncomputable def Kin (x y:It3):Prop:=y.d=x.d/\y.v=x.v/\y.L=x.L/\(y.f=x.f\/y.f=.z)
theorem Kin.refl (x:It3):Kin x x:=⟨rfl,rfl,rfl,.inl rfl⟩
theorem Kin.trans (a:Kin x y) (b:Kin y z):Kin x z:=⟨b.1.trans a.1,b.2.1.trans a.2.1,b.2.2.1.trans a.2.2.1,by
 rcases b.2.2.2 with h | h
 ·rcases a.2.2.2 with h' | h'
  ·exact .inl (h.trans h')
  ·exact .inr (h.trans h')
 ·exact .inr h⟩
theorem Wf.lowAt {i:Nat} (w:Wf K G H σ ρ T g):∃ g',Wf K G H σ (lowAt i ρ) T g'/\(∀ j y,g j=some y->∃ y',g' j=some y'/\Kin y y'/\(j=i->y'.f=.z)):=by
 have keep:∀ d,(ρ[i]?).join=some (d,.z)->∃ g',Wf K G H σ ρ T g'/\(∀ j y,g j=some y->∃ y',g' j=some y'/\Kin y y'/\(j=i->y'.f=.z)):=fun d e=>⟨g,w,fun j y h=>⟨y,h,Kin.refl y,fun q=>by
  subst q
  obtain ⟨y',h',_,hf,_⟩:=w.slot e
  rw [h] at h';cases h';exact hf⟩⟩
 have low:∀ d f,(ρ[i]?).join=some (d,f)->∃ g',Wf K G H σ (ρ.set i (some (d,.z))) T g'/\(∀ j y,g j=some y->∃ y',g' j=some y'/\Kin y y'/\(j=i->y'.f=.z)):=fun d f e=>⟨_,w.lowSlot e,fun j y h=>by
  by_cases q:j=i
  ·subst q;exact ⟨eA y,by rw [if_pos rfl,h];rfl,⟨rfl,rfl,rfl,.inr rfl⟩,fun _=>rfl⟩
  ·exact ⟨y,by rw [if_neg q];exact h,Kin.refl y,fun z=>absurd z q⟩⟩
 unfold L3.lowAt
 cases e:(ρ[i]?).join with
 | none =>
  refine ⟨g,w,fun j y h=>⟨y,h,Kin.refl y,fun q=>?_⟩⟩
  subst q
  have:=w.sl j
  rw [h,e] at this;cases this
 | some p =>
  obtain ⟨d,f⟩:=p
  cases f with
  | u=>exact low d _ e
  | l=>exact low d _ e
  | z=>exact keep d e
theorem Wf.frz:∀ {is:List Nat} {ρ:Sto} {g:Nat->Option It3},Wf K G H σ ρ T g->∃ g',Wf K G H σ (frz is ρ) T g'/\(∀ j y,g j=some y->∃ y',g' j=some y'/\Kin y y'/\(j ∈ is->y'.f=.z))
 | [],ρ,g,w=>⟨g,w,fun j y h=>⟨y,h,Kin.refl y,fun q=>by cases q⟩⟩
 | i :: is,ρ,g,w=>by
  obtain ⟨g1,w1,h1⟩:=w.lowAt (i:=i)
  obtain ⟨g2,w2,h2⟩:=Wf.frz (is:=is) w1
  refine ⟨g2,w2,fun j y h=>?_⟩
  obtain ⟨y1,e1,k1,z1⟩:=h1 j y h
  obtain ⟨y2,e2,k2,z2⟩:=h2 j y1 e1
  refine ⟨y2,e2,k1.trans k2,fun hm=>?_⟩
  rcases AX.mp hm with q | q
  ·rcases k2.2.2.2 with h | h
   ·exact h.trans (z1 q)
   ·exact h
  ·exact z2 q
theorem Wf.lowT {Ts:List It3} (w:Wf K G H σ ρ (Ts ++ T) g):Wf K G H σ ρ (Ts.map eA ++ T) g:=by
 have sp:∀ {a b:It3},Apart3 a b->Apart3 (eA a) (eA b):=fun h=>⟨dw,dw⟩
 refine ⟨w.len,w.sl,w.sv,w.okS,fun x hx=>?_,w.ss,fun i x e y hy=>?_,?_,w.base,w.pro,⟨fun x hx hf a ea=>?_,w.fx.frS,w.fx.bin,w.fx.ob,w.fx.lvS⟩⟩
 ·rcases A0.mp hx with h | h
  ·obtain ⟨x0,h0,rfl⟩:=A6.mp h
   exact (w.okT x0 (AV _ h0)).low
  ·exact w.okT x (AW _ h)
 ·rcases A0.mp hy with h | h
  ·obtain ⟨y0,h0,rfl⟩:=A6.mp h
   exact ⟨(w.st i x e y0 (AV _ h0)).1,dw⟩
  ·exact w.st i x e y (AW _ h)
 ·have h:=List.pairwise_append.mp w.tt
  refine List.pairwise_append.mpr ⟨?_,h.2.1,fun a ha b hb=>?_⟩
  ·rw [List.pairwise_map]
   exact h.1.imp fun h=>sp h
  ·obtain ⟨a0,h0,rfl⟩:=A6.mp ha
   exact ⟨dw,(h.2.2 a0 h0 b hb).2⟩
 ·rcases A0.mp hx with h | h
  ·obtain ⟨x0,h0,rfl⟩:=A6.mp h
   exact absurd rfl hf
  ·exact w.fx.frT x (AW _ h) hf a ea
theorem kS:∀ {rs:List R3} {i:Nat},R3.pl i ∈ rs->i ∈ pls rs
 | [],_,h=>by cases h
 | .pl j :: rs,i,h=>by
  rcases AX.mp h with e | h
  ·cases e;exact AR
  ·exact AS _ (kS h)
 | .val _ _ :: rs,i,h=>by
  rcases AX.mp h with e | h
  ·cases e
  ·exact kS (rs:=rs) h
theorem Ars.given:∀ {rs:List R3} {vs:List V} {Ts:List It3} {ds:List D} {S:List It3} {g':Nat->Option It3} {is:List Nat},Wf K G H σ ρ T g->(∀ j y,g j=some y->∃ y',g' j=some y'/\Kin y y'/\(j ∈ is->y'.f=.z))->(∀ i,R3.pl i ∈ rs->i ∈ is) ->
  Ars σ rs vs Ts->(∀ x ∈ Ts,x ∈ T)->(∀ x ∈ Ts,eA x ∈ S)->gJ rs ρ=some (.ok ds,ρ)->∃ ys:List It3,(∀ y ∈ ys,Itm S g' y/\y.f=.z)/\ys.map (·.d)=ds/\ys.map (·.v)=vs
 | [],_,_,ds,S,g',is,w,hg,hi,.nil,_,_,e=>by cases e;exact ⟨[],fun _ h=>(by cases h),rfl,rfl⟩
 | r :: rs,_,_,ds,S,g',is,w,hg,hi,.cons (v:=v0) a as,hs,hS,e=>by
  obtain ⟨d,e1,e2⟩:=bq (k:=fun d=>ag (gJ rs) fun ds=>bI (d :: ds)) e
  obtain ⟨ds',e3,e4⟩:=eV e2
  cases e4
  obtain ⟨ys,i2,f3,f4⟩:=Ars.given w hg (fun i h=>hi i (AS _ h)) as (fun x hx=>hs x (AV _ hx)) (fun x hx=>hS x (AV _ hx)) e3
  have one:∃ y,(Itm S g' y/\y.f=.z)/\y.d=d/\y.v=v0:=by
   cases a with
   | @pl i v h =>
    have er:der (.pl i) ρ=((ρ[i]?).join).map fun p=>(.ok p.1,ρ):=rfl
    rw [er] at e1
    cases q:(ρ[i]?).join with
    | none=>rw [q] at e1;exact nsE e1
    | some p =>
     rw [q] at e1
     obtain ⟨y,y1,y2,y3,y4⟩:=w.slot (d:=p.1) (f:=p.2) q
     obtain ⟨y',h1,h2,h3⟩:=hg i y y1
     have e5:p.1=d:=by cases e1;rfl
     rw [h] at y4
     refine ⟨y',⟨.inl ⟨i,h1⟩,h3 (hi i AR)⟩,h2.1.trans (y2.trans e5),?_⟩
     rw [h2.2.1];cases y4;rfl
   | val x=>cases e1;exact ⟨eA x,⟨.inr (hS x (by simp)),rfl⟩,rfl,rfl⟩
  obtain ⟨y,i1,f1,f2⟩:=one
  refine ⟨y :: ys,fun z hz=>?_,by simp [f1,f3],by simp [f2,f4]⟩
  rcases AX.mp hz with h | hz
  ·rw [h];exact i1
  ·exact i2 z hz
noncomputable def eF (ys:List It3) (c:Addr):Prop:=∃ y ∈ ys,c ∈ y.L
noncomputable def gives (rs:List R3):M3 (List D):=ag (gJ rs) fun ds=>ag (frz3 (pls rs)) fun _=>bI ds
theorem Ars.gives {rs:List R3} {vs:List V} {Ts:List It3} {k:List D->M3 β} {r:Except D β} (w:Wf K G H σ ρ (Ts ++ T) g) (a:Ars σ rs vs Ts) (e:ag (gives rs) k ρ=some (r,ρ')) :
  ∃ ds ρ1 g1,k ds ρ1=some (r,ρ')/\ρ1=frz (pls rs) ρ/\Wf K G H σ ρ1 (Ts.map eA ++ T) g1/\(∀ j y,g j=some y->∃ y',g1 j=some y'/\Kin y y')/\∃ ys:List It3,(∀ y ∈ ys,Itm (Ts.map eA ++ T) g1 y/\y.f=.z)/\ys.map (·.d)=ds/\ys.map (·.v)=vs:=by
 unfold L3.gives at e
 have e0:ag (gJ rs) (fun ds=>ag (frz3 (pls rs)) fun _=>k ds) ρ=some (r,ρ'):=by
  rw [<- e]
  unfold ag
  cases q:gJ rs ρ with
  | none=>rfl
  | some p =>
   obtain ⟨o,ρ2⟩:=p
   cases o with
   | error x=>rfl
   | ok ds=>rfl
 obtain ⟨ds,d1,e1⟩:=eV e0
 obtain ⟨g1,w1,h1⟩:=Wf.frz (is:=pls rs) w
 refine ⟨ds,L3.frz (pls rs) ρ,g1,e1,rfl,w1.lowT,fun j y h=>let ⟨y',a,b,_⟩:=h1 j y h;⟨y',a,b⟩,?_⟩
 exact Ars.given w h1 (fun i h=>kS h) a (fun x hx=>AV _ hx) (fun x hx=>AV _ (A6.mpr ⟨x,hx,rfl⟩)) d1
theorem Wf.alls (w:Wf K G H σ ρ T g) {ys:List It3} (hy:∀ y ∈ ys,Itm T g y/\y.f=.z) {c:Addr} (h:eF ys c):eS T g c/\(G.H0 c=none\/G.src c):=by
 obtain ⟨y,m,hc⟩:=h
 exact ⟨w.kid (hy y m).1 hc fun hf=>absurd (hy y m).2 hf,(w.itm (hy y m).1).src c hc⟩
theorem Wf.doneA {Us:List It3} {ys:List It3} (w:Wf K G H σ ρ (Us ++ T) g) (hy:∀ y ∈ ys,Itm (Us ++ T) g y/\y.f=.z) (n:New K H H' (eF ys) x):Got K G σ ρ T (.val x.d x.f) x.v H' :=
 ⟨[x],g,(w.push n fun c h=>w.alls hy h).sub (by simpa using List.Sublist.cons_cons x (A5 Us T)),.val x⟩
theorem kQ:∀ {ys:List It3},(∀ y ∈ ys,Rep K H y.d y.v y.L)->Reps (Rep K H) (ys.map (·.d)) (ys.map (·.v)) (ys.map (·.L)).flatten
 | [],_=>.nil
 | y :: ys,h=>.cons (h y AR) (kQ fun z hz=>h z (AS _ hz))
theorem gi {ys:List It3} {c:Addr} (h:c ∈ (ys.map (·.L)).flatten):eF ys c:=by
 obtain ⟨l,hl,hc⟩:=List.mem_flatten.mp h
 obtain ⟨y,hy,rfl⟩:=A6.mp hl
 exact ⟨y,hy,hc⟩
noncomputable def ye (mk:List D->D) (f:Fl) (ms:M3 (List R3)):EM:=ag ms fun rs=>ag (gives rs) fun ds=>bB (if ds.length<=16777216 then some (.val (mk ds) f) else none)
noncomputable abbrev bc:M3 (List R3)->EM:=ye .tup .z
noncomputable abbrev cU:M3 (List R3)->EM:=ye .lst .u
theorem bT {H:Hp} {p:Addr} {o:HO} (h:H p=none):Same H (upd H p o):=fun b u e=>by
 rw [aN (bA e h)];exact e
set_option tactic.hygienic true in
theorem zx (hz:(16777216:Nat)=sizeLine) {ms:M3 (List R3)} {Q:VK} (h:tE K G0 W0 (bc ms) σ H Q):tTup (tA K G0 W0 ms) σ H Q:=by
 refine h.use fun G W le ρ T g o ρ' w e q=>?_
 refine tA.seq le w e q.err fun rs ρ1 e1 vs H1 Ts g1 w1 a1=>?_
 obtain ⟨ds,ρ2,g2,e2,_,w2,_,ys,hy,f1,f2⟩:=a1.gives w1 e1
 obtain ⟨v,e3,rfl,rfl⟩:=cN e2
 subst f1 f2
 split at e3
 ·rename_i hl
  cases e3
  refine ⟨by rw [A2] at hl ⊢;omega,fun p hp=>?_⟩
  refine q _ _ (Wf.doneA (x:=⟨.tup (ys.map (·.d)),.ref p,(ys.map (·.L)).flatten,.z⟩) w2 hy ⟨bT hp,.tup bd ((kQ fun y hy'=>(w2.itm (hy y hy').1).rep).same (bT hp)),fun c hc=>.inr (gi hc),fun hf=>absurd rfl hf⟩)
 ·exact nsE e3
set_option tactic.hygienic true in
theorem zA (hz:(16777216:Nat)=sizeLine) {ms:M3 (List R3)} {Q:VK} (h:tE K G0 W0 (cU ms) σ H Q):tLst (tA K G0 W0 ms) σ H Q:=by
 refine h.use fun G W le ρ T g o ρ' w e q=>?_
 refine tA.seq le w e q.err fun rs ρ1 e1 vs H1 Ts g1 w1 a1=>?_
 obtain ⟨ds,ρ2,g2,e2,_,w2,_,ys,hy,f1,f2⟩:=a1.gives w1 e1
 obtain ⟨v,e3,rfl,rfl⟩:=cN e2
 subst f1 f2
 split at e3
 ·rename_i hl
  cases e3
  refine ⟨by rw [A2] at hl ⊢;omega,fun p hp=>?_⟩
  have np:p ∉ (ys.map (·.L)).flatten:=fun hc=>by
   obtain ⟨y,hm,hc⟩:=gi hc
   obtain ⟨o,ho⟩:=((w2.itm (hy y hm).1).rep.inH p hc).ex
   rw [hp] at ho;exact nsE ho
  refine q _ _ (Wf.doneA (x:=⟨.lst (ys.map (·.d)),.ref p,p :: (ys.map (·.L)).flatten,.u⟩) w2 hy ⟨bT hp,.lst bd ((kQ fun y hy'=>(w2.itm (hy y hy').1).rep).same (bT hp)),fun c hc=>?_,fun _=>⟨rfl,p,_,rfl,rfl,np,hp⟩⟩)
  rcases AX.mp hc with e | hc
  ·rw [e];exact .inl hp
  ·exact .inr (gi hc)
 ·exact nsE e3
end
end L3
end
section
namespace L3
open PySem L2
section
variable {K:FG} {G G0:Gm} {W W0:D->Sto->Prop} {H H':Hp} {σ:St} {ρ ρ':Sto} {T T':List It3} {g:Nat->Option It3} {x y z:It3} {α β:Type}
noncomputable def EndS (K:FG) (G:Gm) (W:D->Sto->Prop) (T:List It3) (ρ':Sto) (E:Ends):Except D Flw->Prop
 | .ok .nx=>∀ σ' H' g',Wf K G H' σ' ρ' T g'->E.nx σ' H'
 | .ok .br=>∀ σ' H' g',Wf K G H' σ' ρ' T g'->E.bk σ' H'
 | .ok .ct=>∀ σ' H' g',Wf K G H' σ' ρ' T g'->E.ct σ' H'
 | .ok (.rt d f)=>∀ x σ' H' g',Wf K G H' σ' ρ' (x :: T) g'->x.d=d->x.f=f->E.rt x.v H'
 | .error e=>W e ρ'
theorem EndS.err {E:Ends} {r:Except D Flw} (h:EndS K G W T ρ' E r):∀ x,r=.error x->W x ρ':=by
 intro x e;subst e;exact h
theorem tS.open {m:SM} {E:Ends} (h:tS K G0 W0 m E σ H):∃ G W,Le K G W G0 W0/\∃ ρ T g r ρ',Wf K G H σ ρ T g/\m ρ=some (r,ρ')/\EndS K G W T ρ' E r:=by
 obtain ⟨G,W,le,ρ,T,g,r,ρ',w,e,q⟩:=h
 refine ⟨G,W,le,ρ,T,g,r,ρ',w,e,?_⟩
 cases r with
 | ok r=>cases r <;> exact q
 | error x=>exact q
theorem tS.use {m:SM} {E:Ends} (h:tS K G0 W0 m E σ H) {P:Prop} (k:∀ G W,Le K G W G0 W0->∀ ρ T g r ρ',Wf K G H σ ρ T g->m ρ=some (r,ρ')->EndS K G W T ρ' E r->P):P:=by
 obtain ⟨G,W,le,ρ,T,g,r,ρ',w,e,q⟩:=h.open
 exact k G W le ρ T g r ρ' w e q
theorem tS.mk {m:SM} {E:Ends} {r:Except D Flw} (le:Le K G W G0 W0) (w:Wf K G H σ ρ T g) (e:m ρ=some (r,ρ')) (h:EndS K G W T ρ' E r):tS K G0 W0 m E σ H:=by
 refine ⟨G,W,le,ρ,T,g,r,ρ',w,e,?_⟩
 cases r with
 | ok r=>cases r <;> exact h
 | error x=>exact h
noncomputable def fF:SM:=bI .nx
noncomputable def aK (a b:SM):SM:=ag a fun f=>match f with
 | .nx=>b
 | o=>bI o
theorem zp {E:Ends} (h:tS K G0 W0 fF E σ H):yH E σ H:=by
 refine h.use fun G W le ρ T g r ρ' w e q=>?_
 cases e
 exact q _ _ _ w
theorem zn {a b:SM} {E:Ends} (h:tS K G0 W0 (aK a b) E σ H):tSeq (tS K G0 W0 a) (tS K G0 W0 b) E σ H:=by
 refine h.use fun G W le ρ T g r ρ' w e q=>?_
 unfold aK ag at e
 cases p:a ρ with
 | none=>rw [p] at e;exact nsE e
 | some p' =>
  obtain ⟨o,ρ1⟩:=p'
  rw [p] at e
  cases o with
  | error x=>cases e;exact tS.mk le w p q
  | ok f =>
   cases f with
   | nx=>exact tS.mk le (r:=.ok .nx) w p fun σ' H' g' w'=>tS.mk le w' e q
   | br=>cases e;exact tS.mk le w p q
   | ct=>cases e;exact tS.mk le w p q
   | rt d f=>cases e;exact tS.mk le w p q
noncomputable def ib (m:EM):SM:=ag m fun _=>bI .nx
theorem wQ {m:EM} {E:Ends} (h:tS K G0 W0 (ib m) E σ H):yJ (tE K G0 W0 m) E σ H:=by
 refine h.use fun G W le ρ T g r ρ' w e q=>?_
 refine tE.seq le w e q.err fun ra ρ1 e1 v H1 ⟨Ts,g1,w1,a1⟩=>?_
 cases e1
 exact q _ _ _ (w1.sub (A5 Ts T))
noncomputable def sIf (c:M3 Bool) (a b:SM):SM:=ag c fun t=>if t then a else b
theorem tS_if {c:M3 Bool} {a b:SM} {E:Ends} (h:tS K G0 W0 (sIf c a b) E σ H):tIfS (tT K G0 W0 c) (tS K G0 W0 a) (tS K G0 W0 b) E σ H:=by
 refine h.use fun G W le ρ T g r ρ' w e q=>?_
 refine tT.seq le w e q.err fun t ρ1 e1 H1 g1 w1=>?_
 cases t with
 | true=>exact tS.mk le w1 e1 q
 | false=>exact tS.mk le w1 e1 q
noncomputable def nol:Fl->Fl
 | .u=>.u
 | _=>.z
theorem Aj (f:Fl):nol f ≠ .l:=by cases f <;> intro h <;> cases h
theorem Ai (f:Fl):nol f=f\/nol f=.z:=by cases f <;> first | exact .inl rfl | exact .inr rfl
noncomputable def gP (r:R3):M3 (D × Fl):=match r with
 | .val d f=>bI (d,nol f)
 | .pl i=>fun ρ=>((ρ[i]?).join).map fun p=>(.ok (p.1,.z),lowAt i ρ)
theorem oG {i:Nat}:gP (.pl i) ρ=((ρ[i]?).join).map fun p=>(.ok (p.1,.z),lowAt i ρ):=rfl
theorem Ar.val_inv {d:D} {f:Fl} {v:V} {Ts:List It3} (a:Ar σ (.val d f) v Ts):∃ x,Ts=[x]/\x.d=d/\x.f=f/\x.v=v:=by
 generalize h:R3.val d f=r at a
 cases a with
 | pl _=>cases h
 | val x=>cases h;exact ⟨x,rfl,rfl,rfl,rfl⟩
theorem Ar.take {r:R3} {v:V} {Ts:List It3} {k:D × Fl->M3 β} {o:Except D β} (w:Wf K G H σ ρ (Ts ++ T) g) (a:Ar σ r v Ts) (e:ag (gP r) k ρ=some (o,ρ')) :
  ∃ p ρ1 g1 x,k p ρ1=some (o,ρ')/\Wf K G H σ ρ1 (x :: T) g1/\x.d=p.1/\(p.2=x.f\/p.2=.z)/\p.2 ≠ .l/\x.v=v:=by
 cases a with
 | val x=>exact ⟨(x.d,nol x.f),ρ,g,x,e,w,rfl,Ai _,Aj _,rfl⟩
 | @pl i v h =>
  unfold ag at e
  rw [oG] at e
  cases q:(ρ[i]?).join with
  | none=>rw [q] at e;exact nsE e
  | some p =>
   rw [q] at e
   obtain ⟨y,y1,y2,y3,y4⟩:=w.slot (d:=p.1) (f:=p.2) q
   obtain ⟨g1,w1,h1⟩:=w.lowAt (i:=i)
   obtain ⟨y',z1,z2,z3⟩:=h1 i y y1
   have hz:=z3 rfl
   refine ⟨(p.1,.z),_,g1,y',e,?_,z2.1.trans y2,.inr rfl,(by intro h;cases h),?_⟩
   ·have nr:∀ u:It3,NoRoot y' u:=fun u hf=>absurd hz hf
    refine ⟨w1.len,w1.sl,w1.sv,w1.okS,fun u hu=>?_,w1.ss,fun j u eu u' hu=>?_,?_,w1.base,w1.pro,⟨fun u hu hf a ea=>?_,w1.fx.frS,w1.fx.bin,w1.fx.ob,w1.fx.lvS⟩⟩
    ·rcases AX.mp hu with h | hu
     ·rw [h];exact w1.okS i y' z1
     ·exact w1.okT u hu
    ·rcases AX.mp hu with h | hu
     ·rw [h]
      refine ⟨?_,nr _⟩
      by_cases ij:j=i
      ·subst ij
       rw [z1] at eu;cases eu
       exact nr _
      ·exact w1.ss j i u y' ij eu z1
     ·exact w1.st j u eu u' hu
    ·exact List.pairwise_cons.mpr ⟨fun u hu=>⟨nr _,(w1.st i y' z1 u hu).2⟩,w1.tt⟩
    ·rcases AX.mp hu with h | hu
     ·rw [h] at hf;exact absurd hz hf
     ·exact w1.fx.frT u hu hf a ea
   ·rw [z2.2.1]
    rw [h] at y4;cases y4;rfl
theorem Wf.store {i:Nat} {f:Fl} (w:Wf K G H σ ρ (x :: T) g) (hi:i < ρ.length) (hp:G.pr i=false) (hf:f=x.f\/f=.z) (hnl:f ≠ .l) :
  Wf K G H (σ.set i (some x.v)) (ρ.set i (some (x.d,f))) T (fun j=>if j=i then some { x with f:=f } else g j):=by
 have hil:i < σ.length:=by rw [w.len];exact hi
 have tx:=List.pairwise_cons.mp w.tt
 have ox:=w.okT x AR
 have nx:∀ u:It3,NoRoot x u->NoRoot { x with f:=f } u:=fun u h q=>by
  rcases hf with e | e
  ·exact h (by rw [<- e];exact q)
  ·exact absurd e q
 have val:∀ j u,(if j=i then some { x with f:=f } else g j)=some u->(j=i/\u = { x with f:=f })\/(j ≠ i/\g j=some u):=fun j u h=>by
  by_cases q:j=i
  ·rw [if_pos q] at h;cases h;exact .inl ⟨q,rfl⟩
  ·rw [if_neg q] at h;exact .inr ⟨q,h⟩
 refine ⟨by rw [List.length_set,List.length_set];exact w.len,fun j=>?_,fun j u h=>?_,fun j u h=>?_,fun u hu=>w.okT u (AS _ hu),fun j k a b n h1 h2=>?_,fun j a h b hb=>?_,tx.2,w.base,fun j hj=>?_,⟨fun u hu=>w.fx.frT u (AS _ hu),fun j u h hpj hfu a ea=>?_,w.fx.bin,w.fx.ob,fun j u h hl=>?_⟩⟩
 ·rw [cr hi]
  by_cases q:j=i
  ·rw [if_pos q,if_pos q];rfl
  ·rw [if_neg q,if_neg q];exact w.sl j
 ·rcases val j u h with ⟨rfl,rfl⟩ | ⟨n,h⟩
  ·rw [List.getElem?_set_self hil]
  ·rw [List.getElem?_set_ne (fun z=>n z.symm)];exact w.sv j u h
 ·rcases val j u h with ⟨rfl,rfl⟩ | ⟨n,h⟩
  ·refine ⟨ox.rep,fun q=>?_,ox.src⟩
   rcases hf with e | e
   ·subst e
    exact ox.own q
   ·exact absurd e q
  ·exact w.okS j u h
 ·rcases val j a h1 with ⟨ej,ea⟩ | ⟨n1,h1'⟩
  ·rcases val k b h2 with ⟨ek,eb⟩ | ⟨n2,h2'⟩
   ·exact absurd (ej.trans ek.symm) n
   ·rw [ea];exact nx b (w.st k b h2' x AR).2
  ·rcases val k b h2 with ⟨ek,eb⟩ | ⟨n2,h2'⟩
   ·rw [eb];exact (w.st j a h1' x AR).1
   ·exact w.ss j k a b n h1' h2'
 ·rcases val j a h with ⟨rfl,rfl⟩ | ⟨n,h⟩
  ·exact ⟨nx b (tx.1 b hb).1,(tx.1 b hb).2⟩
  ·exact w.st j a h b (AS _ hb)
 ·have n:j ≠ i:=fun z=>by subst z;rw [hp] at hj;cases hj
  rw [List.getElem?_set_ne (fun z=>n z.symm)];exact w.pro j hj
 ·rcases val j u h with ⟨_,rfl⟩ | ⟨n,h⟩
  ·rcases hf with e | e
   ·exact w.fx.frT x AR (by rw [<- e];exact hfu) a ea
   ·exact absurd e hfu
  ·exact w.fx.frS j u h hpj hfu a ea
 ·rcases val j u h with ⟨_,rfl⟩ | ⟨n,h⟩
  ·exact absurd hl hnl
  ·exact w.fx.lvS j u h hl
noncomputable def aW (i:Nat) (m:EM):SM:=ag m fun r=>ag (gP r) fun p=>fun ρ=>if i < ρ.length then some (.ok .nx,ρ.set i (some p)) else none
set_option tactic.hygienic true in
theorem zm {i:Nat} {m:EM} {E:Ends} (hp:G0.pr i=false) (h:tS K G0 W0 (aW i m) E σ H):uz (tE K G0 W0 m) (r0 i) E σ H:=by
 refine h.use fun G W le ρ T g r ρ' w e q=>?_
 refine tE.seq le w e q.err fun ra ρ1 e1 v H1 ⟨Ts,g1,w1,a1⟩=>?_
 obtain ⟨p,ρ2,g2,x,e2,w2,f1,f2,f4,f3⟩:=a1.take w1 e1
 split at e2
 ·rename_i hi
  cases e2
  have:=w2.store (f:=p.2) hi (by rw [le.pr];exact hp) f2 f4
  rw [f1,f3] at this
  exact q _ _ _ this
 ·exact nsE e2
noncomputable def bv (np:Nat) (m:EM):SM:=ag m fun r=>match r with
 | .val d f=>bI (.rt d f)
 | .pl i=>fun ρ=>match (ρ[i]?).join with
  | some (d,.u)=>if i < np then some (.ok (.rt d .z),lowAt i ρ) else some (.ok (.rt d .u),ρ.set i none)
  | some (d,_)=>some (.ok (.rt d .z),lowAt i ρ)
  | none=>none
theorem Wf.move {i:Nat} (w:Wf K G H σ ρ T g) (hp:G.pr i=false) (e:g i=some y):Wf K G H σ (ρ.set i none) (y :: T) (fun j=>if j=i then none else g j):=by
 have hi:i < ρ.length:=by
  have:=w.sl i
  rw [e] at this
  exact eQ this.symm
 have val:∀ j u,(if j=i then none else g j)=some u->j ≠ i/\g j=some u:=fun j u h=>by
  by_cases q:j=i
  ·rw [if_pos q] at h;exact nsE h
  ·rw [if_neg q] at h;exact ⟨q,h⟩
 refine ⟨by rw [List.length_set];exact w.len,fun j=>?_,fun j u h=>w.sv j u (val j u h).2,fun j u h=>w.okS j u (val j u h).2,fun u hu=>?_,fun j k a b n h1 h2=>w.ss j k a b n (val j a h1).2 (val k b h2).2,fun j a h b hb=>?_,?_,w.base,w.pro,⟨fun u hu hf a ea=>?_,fun j u h=>w.fx.frS j u (val j u h).2,w.fx.bin,w.fx.ob,fun j u h=>w.fx.lvS j u (val j u h).2⟩⟩
 ·rw [cr hi]
  by_cases q:j=i
  ·rw [if_pos q,if_pos q];rfl
  ·rw [if_neg q,if_neg q];exact w.sl j
 ·rcases AX.mp hu with h | hu
  ·rw [h];exact w.okS i y e
  ·exact w.okT u hu
 ·obtain ⟨n,h⟩:=val j a h
  rcases AX.mp hb with h' | hb
  ·rw [h'];exact ⟨w.ss j i a y n h e,w.ss i j y a (Ne.symm n) e h⟩
  ·exact w.st j a h b hb
 ·exact List.pairwise_cons.mpr ⟨fun u hu=>w.st i y e u hu,w.tt⟩
 ·rcases AX.mp hu with h | hu
  ·subst h;exact w.fx.frS i u e hp hf a ea
  ·exact w.fx.frT u hu hf a ea
theorem zo {np:Nat} {m:EM} {E:Ends} (hnp:∀ i,np<=i->G0.pr i=false) (h:tS K G0 W0 (bv np m) E σ H):tRet (tE K G0 W0 m) E σ H:=by
 refine h.use fun G W le ρ T g r ρ' w e q=>?_
 refine tE.seq le w e q.err fun ra ρ1 e1 v H1 ⟨Ts,g1,w1,a1⟩=>?_
 have low:∀ {i:Nat} {d:D} {f:Fl},(ρ1[i]?).join=some (d,f)->some ((.ok (.rt d .z),lowAt i ρ1):Except D Flw × Sto)=some (r,ρ')->Ar σ (.pl i) v Ts->E.rt v H1:=fun {i d f} ej e2 a=>by
  cases e2
  have e3:ag (gP (.pl i)) (fun p=>bI (Flw.rt p.1 p.2)) ρ1=some (.ok (.rt d .z),L3.lowAt i ρ1):=by
   unfold ag
   rw [oG,ej]
   rfl
  obtain ⟨p,ρ2,g2,x,e4,w2,f1,f2,_,f3⟩:=a.take w1 e3
  have e5:Flw.rt p.1 p.2=Flw.rt d .z/\ρ2=L3.lowAt i ρ1:=by
   unfold bI at e4
   injection e4 with e4
   injection e4 with e5 e6
   injection e5 with e5
   exact ⟨e5,e6⟩
  obtain ⟨e5,e6⟩:=e5
  injection e5 with e7 e8
  subst e6
  rw [<- f3]
  have w3:=Wf.lowT (Ts:=[x]) w2
  exact q (eA x) σ H1 g2 w3 (f1.trans e7) rfl
 cases a1 with
 | val x=>cases e1;exact q x σ H1 g1 w1 rfl rfl
 | @pl i v h =>
  dsimp only at e1
  cases ej:(ρ1[i]?).join with
  | none=>rw [ej] at e1;exact nsE e1
  | some p =>
   obtain ⟨d,f⟩:=p
   rw [ej] at e1
   cases f with
   | u =>
    dsimp only at e1
    split at e1
    ·exact low ej e1 (.pl h)
    ·cases e1
     obtain ⟨y,y1,y2,y3,y4⟩:=w1.slot ej
     have w2:=Wf.move w1 (by rw [le.pr];exact hnp i (by omega)) y1
     have:=q y σ H1 _ w2 y2 y3
     rw [h] at y4
     cases y4
     exact this
   | l=>exact low ej e1 (.pl h)
   | z=>exact low ej e1 (.pl h)
noncomputable def cE (c:M3 Bool) (b:SM):Nat->SM
 | 0=>fun _=>none
 | n+1=>ag c fun t=>if t then ag b (fun f=>match f with
   | .nx=>cE c b n
   | .ct=>cE c b n
   | .br=>bI .nx
   | .rt d f=>bI (.rt d f)) else bI .nx
noncomputable def fc (c:M3 Bool) (b:SM):SM:=fun ρ=>open Classical in if h:∃ n r,cE c b n ρ=some r then some (Classical.choose (Classical.choose_spec h)) else none
theorem gW {c:M3 Bool} {b:SM}:∀ {n:Nat} {ρ:Sto} {r:Except D Flw × Sto},cE c b n ρ=some r->cE c b (n+1) ρ=some r
 | 0,ρ,r,e=>by cases e
 | n+1,ρ,r,e=>by
  unfold cE at e ⊢
  unfold ag at e ⊢
  cases h:c ρ with
  | none=>rw [h] at e;exact nsE e
  | some p =>
   obtain ⟨o,ρ1⟩:=p
   rw [h] at e
   cases o with
   | error x=>exact e
   | ok t =>
    cases t with
    | false=>exact e
    | true =>
     simp only [if_true] at e ⊢
     cases h2:b ρ1 with
     | none=>rw [h2] at e;exact nsE e
     | some p2 =>
      obtain ⟨o2,ρ2⟩:=p2
      rw [h2] at e
      cases o2 with
      | error x=>exact e
      | ok f =>
       cases f with
       | nx=>exact gW (n:=n) e
       | ct=>exact gW (n:=n) e
       | br=>exact e
       | rt d f=>exact e
theorem jR {c:M3 Bool} {b:SM} {n m:Nat} {ρ:Sto} {r:Except D Flw × Sto} (h:n<=m) (e:cE c b n ρ=some r):cE c b m ρ=some r:=by
 induction h with
 | refl=>exact e
 | step _ ih=>exact gW ih
set_option tactic.hygienic true in
theorem oN {c:M3 Bool} {b:SM} {ρ:Sto} {r:Except D Flw × Sto} (e:fc c b ρ=some r):∃ n,cE c b n ρ=some r:=by
 unfold fc at e
 split at e
 ·rename_i h
  have e2:=Classical.choose_spec (Classical.choose_spec h)
  injection e with e
  exact ⟨Classical.choose h,by rw [<- e];exact e2⟩
 ·exact nsE e
theorem ux {c:M3 Bool} {b:SM} {E:Ends} (h:tS K G0 W0 (fc c b) E σ H):uw (tT K G0 W0 c) (tS K G0 W0 b) E σ H:=by
 refine h.use fun G W le ρ T g r ρ' w e q=>?_
 obtain ⟨n,e⟩:=oN e
 refine ⟨fun m σ H=>∃ ρ g,Wf K G H σ ρ T g/\cE c b m ρ=some (r,ρ'),⟨n,ρ,g,w,e⟩,?_⟩
 rintro m σ1 H1 ⟨ρ1,g1,w1,e1⟩
 cases m with
 | zero=>exact nsE e1
 | succ m =>
  unfold cE at e1
  refine tT.seq le w1 e1 q.err fun t ρ2 e2 H2 g2 w2=>?_
  cases t with
  | false=>cases e2;exact q _ _ _ w2
  | true =>
   refine ⟨fun σ H=>∃ ρ g,Wf K G H σ ρ T g/\cE c b m ρ=some (r,ρ'),fun σ' H' h=>⟨m,Nat.lt_succ_self m,h⟩,?_⟩
   simp only [if_true] at e2
   unfold ag at e2
   cases p:b ρ2 with
   | none=>rw [p] at e2;exact nsE e2
   | some p2 =>
    obtain ⟨o,ρ3⟩:=p2
    rw [p] at e2
    cases o with
    | error x=>cases e2;exact tS.mk le w2 p q
    | ok f =>
     cases f with
     | nx=>exact tS.mk le (r:=.ok .nx) w2 p fun σ' H' g' w'=>⟨ρ3,g',w',e2⟩
     | ct=>exact tS.mk le (r:=.ok .ct) w2 p fun σ' H' g' w'=>⟨ρ3,g',w',e2⟩
     | br=>cases e2;exact tS.mk le (r:=.ok .br) w2 p q
     | rt d f=>cases e2;exact tS.mk le (r:=.ok (.rt d f)) w2 p q
end
end L3
end
section
namespace L3
open PySem L2
noncomputable abbrev Fn:=List (D × Fl)->Option (Except D (D × Fl) × List (D × Fl))
noncomputable def prs (ρ:Sto):List R3->Option (List (D × Fl))
 | []=>some []
 | .pl i :: rs=>match (ρ[i]?).join,prs ρ rs with
  | some p,some ps=>some (p :: ps)
  | _,_=>none
 | .val d f :: rs=>match prs ρ rs with
  | some ps=>some ((d,f) :: ps)
  | _=>none
noncomputable def pH (rs:List R3):List Nat:=(pls rs).filter fun i=>decide (2<=(pls rs).count i)
noncomputable def back:List R3->List (D × Fl)->List (D × Fl)->Sto->Sto
 | .pl i :: rs,p :: ps,q :: qs,ρ=>back rs ps qs (if p.2=.z then ρ else ρ.set i (some (q.1,if q.2=.z then .z else p.2)))
 | .val _ _ :: rs,_ :: ps,_ :: qs,ρ=>back rs ps qs ρ
 | _,_,_,ρ=>ρ
section
variable {K:FG} {G G0:Gm} {W W0:D->Sto->Prop} {H H':Hp} {σ:St} {ρ ρ':Sto} {T T':List It3} {g:Nat->Option It3} {x y z:It3} {α β:Type}
structure Back1 (K:FG) (H H':Hp) (ps:List It3) (p q:It3):Prop where
 z:p.f=.z->q=p
 v:q.v=p.v
 f:q.f=p.f\/q.f=.z
 arg:Arg K H' q
 src:∀ c ∈ q.L,H c=none\/eF ps c
 there:p.f=.u->∀ b,p.v=.ref b->∃ o,H' b=some o
structure BehindX (K:FG) (H H':Hp) (ps qs:List It3):Prop where
 frame:∀ b o,H b=some o->(∀ p ∈ ps,p.f=.u->p.v ≠ .ref b)->H' b=some o
 back:Paired (Back1 K H H' ps) ps qs
 apart:qs.Pairwise Apart3
structure Behind (K:FG) (H H':Hp) (ps qs:List It3) (x:It3):Prop extends BehindX K H H' ps qs where
 rep:Rep K H' x.d x.v x.L
 own:x.f ≠ .z->jJ x.d=true/\∃ a L',x.v=.ref a/\x.L=a :: L'/\a ∉ L'/\H a=none
 src:∀ c ∈ x.L,H c=none\/eF ps c
 apx:∀ q ∈ qs,Apart3 x q
theorem Ars.args:∀ {rs:List R3} {vs:List V} {Ts T:List It3} {pfs:List (D × Fl)},Ars σ rs vs Ts->Wf K G H σ ρ (Ts ++ T) g->(∀ i,2<=(pls rs).count i->∀ y,g i=some y->y.f=.z)->prs ρ rs=some pfs ->
  ∃ ps:List It3,ps.map (fun p=>(p.d,p.f))=pfs/\ps.map (·.v)=vs/\ps.Pairwise Apart3/\(∀ p ∈ ps,(∃ i,R3.pl i ∈ rs/\g i=some p)\/p ∈ Ts)/\Paired (fun r p=>match r with | .pl i=>g i=some p | .val _ _=>p ∈ Ts) rs ps
 | [],_,_,T,pfs,.nil,w,_,e=>by cases e;exact ⟨[],rfl,rfl,.nil,fun _ h=>(by cases h),.nil⟩
 | r :: rs,_,_,T,pfs,.cons (v:=v0) (Ts:=T0) (Us:=U0) a as,w,hd,e=>by
  have wt:Wf K G H σ ρ (U0 ++ (T0 ++ T)) g:=by rw [<- List.append_assoc];exact w
  have hd':∀ i,2<=(pls rs).count i->∀ y,g i=some y->y.f=.z:=fun i hc=>hd i (by
   cases r with
   | pl j=>show 2<=(j :: pls rs).count i;rw [List.count_cons];omega
   | val _ _=>exact hc)
  cases a with
  | @pl i v h =>
   unfold prs at e
   cases q:(ρ[i]?).join with
   | none=>rw [q] at e;exact nsE e
   | some p0 =>
    cases q2:prs ρ rs with
    | none=>rw [q,q2] at e;exact nsE e
    | some pfs' =>
     rw [q,q2] at e
     cases e
     obtain ⟨ps,f1,f2,f3,f4,f5⟩:=Ars.args as wt hd' q2
     obtain ⟨y,y1,y2,y3,y4⟩:=w.slot (d:=p0.1) (f:=p0.2) q
     have hv:y.v=v0:=by rw [h] at y4;cases y4;rfl
     refine ⟨y :: ps,by rw [Bc,f1,y2,y3],by rw [Bc,f2,hv],List.pairwise_cons.mpr ⟨fun p hp=>?_,f3⟩,fun p hp=>?_,.cons y1 ?_⟩
     ·rcases f4 p hp with ⟨j,hj,ej⟩ | hp
      ·by_cases ij:i=j
       ·subst ij
        have hc:2<=(pls (R3.pl i :: rs)).count i:=by
         show 2<=(i :: pls rs).count i
         rw [List.count_cons_self]
         have:=List.count_pos_iff.mpr (kS hj)
         omega
        have hz:=hd i hc y y1
        have hz':=hd i hc p ej
        exact ⟨fun q=>absurd hz q,fun q=>absurd hz' q⟩
       ·exact ⟨w.ss i j y p ij y1 ej,w.ss j i p y (Ne.symm ij) ej y1⟩
      ·exact w.st i y y1 p (AV _ (AV _ hp))
     ·rcases AX.mp hp with h' | hp
      ·rw [h'];exact .inl ⟨i,AR,y1⟩
      ·rcases f4 p hp with ⟨j,hj,ej⟩ | hp
       ·exact .inl ⟨j,AS _ hj,ej⟩
       ·exact .inr (AV _ hp)
     ·exact Paired.mapP f5 fun r p h=>by
       cases r with
       | pl j=>exact h
       | val _ _=>exact AV _ h
  | val x =>
   unfold prs at e
   cases q2:prs ρ rs with
   | none=>rw [q2] at e;exact nsE e
   | some pfs' =>
    rw [q2] at e
    cases e
    obtain ⟨ps,f1,f2,f3,f4,f5⟩:=Ars.args as wt hd' q2
    refine ⟨x :: ps,by rw [Bc,f1],by rw [Bc,f2],List.pairwise_cons.mpr ⟨fun p hp=>?_,f3⟩,fun p hp=>?_,.cons (AW _ AR) ?_⟩
    ·rcases f4 p hp with ⟨j,hj,ej⟩ | hp
     ·exact (w.st j p ej x (AV _ (AW _ AR))).symm
     ·have t1:=(List.pairwise_append.mp w.tt).1
      exact ((List.pairwise_append.mp t1).2.2 p hp x AR).symm
    ·rcases AX.mp hp with h' | hp
     ·rw [h'];exact .inr (AW _ AR)
     ·rcases f4 p hp with ⟨j,hj,ej⟩ | hp
      ·exact .inl ⟨j,AS _ hj,ej⟩
      ·exact .inr (AV _ hp)
    ·exact Paired.mapP f5 fun r p h=>by
      cases r with
      | pl j=>exact h
      | val _ _=>exact AV _ h
theorem gL:∀ {rs:List R3} {ps qs:List It3} {ρ:Sto} {g:Nat->Option It3},(∀ j,(g j).map (fun x=>(x.d,x.f))=(ρ[j]?).join)->rs.length=ps.length->Paired (Back1 K H H' T) ps qs->(∀ i,R3.pl i ∈ rs->i < ρ.length) ->
  ∃ g':Nat->Option It3,(∀ j,(g' j).map (fun x=>(x.d,x.f))=((back rs (ps.map fun p=>(p.d,p.f)) (qs.map fun q=>(q.d,q.f)) ρ)[j]?).join)/\(back rs (ps.map fun p=>(p.d,p.f)) (qs.map fun q=>(q.d,q.f)) ρ).length = ρ.length /\
   ∀ j:Nat,(g' j=g j/\∀ (k:Nat) (p:It3),rs[k]?=some (R3.pl j)->ps[k]?=some p->p.f=.z)\/∃ (k:Nat) (p q:It3),rs[k]?=some (R3.pl j)/\ps[k]?=some p/\qs[k]?=some q/\p.f ≠ .z/\g' j=some q
 | [],[],_,ρ,g,hg,_,.nil,_=>⟨g,hg,rfl,fun j=>.inl ⟨rfl,fun k p h=>by simp at h⟩⟩
 | [],_ :: _,_,_,_,_,h,_,_=>by cases h
 | _ :: _,[],_,_,_,_,h,_,_=>by cases h
 | .val d f :: rs,p :: ps,_,ρ,g,hg,hl,.cons (b:=q) (l₂:=qs) b1 bs,hi=>by
  obtain ⟨g',h1,h2,h3⟩:=gL (rs:=rs) hg (by simpa using hl) bs fun i h=>hi i (AS _ h)
  refine ⟨g',h1,h2,fun j=>?_⟩
  rcases h3 j with ⟨e,h⟩ | ⟨k,p',q',a1,a2,a3,a4⟩
  ·refine .inl ⟨e,fun k p' e1 e2=>?_⟩
   cases k with
   | zero=>simp at e1
   | succ k=>exact h k p' (by simpa using e1) (by simpa using e2)
  ·exact .inr ⟨k+1,p',q',by simpa using a1,by simpa using a2,by simpa using a3,a4⟩
 | .pl i :: rs,p :: ps,_,ρ,g,hg,hl,.cons (b:=q) (l₂:=qs) b1 bs,hi=>by
  have hil:=hi i AR
  by_cases hz:p.f=.z
  ·have eb:back (.pl i :: rs) ((p :: ps).map fun p=>(p.d,p.f)) ((q :: qs).map fun q=>(q.d,q.f)) ρ=back rs (ps.map fun p=>(p.d,p.f)) (qs.map fun q=>(q.d,q.f)) ρ:=by
    show back rs _ _ (if p.f=.z then ρ else _)=_
    rw [if_pos hz]
   rw [eb]
   obtain ⟨g',h1,h2,h3⟩:=gL (rs:=rs) hg (by simpa using hl) bs fun i h=>hi i (AS _ h)
   refine ⟨g',h1,h2,fun j=>?_⟩
   rcases h3 j with ⟨e,h⟩ | ⟨k,p',q',a1,a2,a3,a4⟩
   ·refine .inl ⟨e,fun k p' e1 e2=>?_⟩
    cases k with
    | zero=>simp at e2;rw [<- e2];exact hz
    | succ k=>exact h k p' (by simpa using e1) (by simpa using e2)
   ·exact .inr ⟨k+1,p',q',by simpa using a1,by simpa using a2,by simpa using a3,a4⟩
  ·have eb:back (.pl i :: rs) ((p :: ps).map fun p=>(p.d,p.f)) ((q :: qs).map fun q=>(q.d,q.f)) ρ=back rs (ps.map fun p=>(p.d,p.f)) (qs.map fun q=>(q.d,q.f)) (ρ.set i (some (q.d,q.f))):=by
    show back rs _ _ (if p.f=.z then ρ else ρ.set i (some (q.d,if q.f=.z then .z else p.f)))=_
    rw [if_neg hz]
    have:(if q.f=.z then Fl.z else p.f)=q.f:=by
     by_cases h:q.f=.z
     ·rw [if_pos h,h]
     ·rw [if_neg h]
      rcases b1.f with h' | h'
      ·exact h'.symm
      ·exact absurd h' h
    rw [this]
   rw [eb]
   obtain ⟨g',h1,h2,h3⟩:=gL (rs:=rs) (ρ:=ρ.set i (some (q.d,q.f))) (g:=fun j=>if j=i then some q else g j) (fun j=>by
    rw [cr hil]
    by_cases e:j=i
    ·rw [if_pos e,if_pos e];rfl
    ·rw [if_neg e,if_neg e];exact hg j) (by simpa using hl) bs fun i h=>by rw [List.length_set];exact hi i (AS _ h)
   refine ⟨g',h1,by rw [h2,List.length_set],fun j=>?_⟩
   rcases h3 j with ⟨e,h⟩ | ⟨k,p',q',a1,a2,a3,a4⟩
   ·by_cases ej:j=i
    ·rw [if_pos ej] at e
     exact .inr ⟨0,p,q,by simp [ej],rfl,rfl,hz,e⟩
    ·rw [if_neg ej] at e
     refine .inl ⟨e,fun k p' e1 e2=>?_⟩
     cases k with
     | zero=>simp at e1;exact absurd e1.symm ej
     | succ k=>exact h k p' (by simpa using e1) (by simpa using e2)
   ·exact .inr ⟨k+1,p',q',by simpa using a1,by simpa using a2,by simpa using a3,a4⟩
theorem nC:∀ {rs:List R3} {pfs:List (D × Fl)},prs ρ rs=some pfs->rs.length=pfs.length
 | [],pfs,e=>by cases e;rfl
 | .pl i :: rs,pfs,e=>by
  unfold prs at e
  cases q:(ρ[i]?).join with
  | none=>rw [q] at e;exact nsE e
  | some p =>
   cases q2:prs ρ rs with
   | none=>rw [q,q2] at e;exact nsE e
   | some ps=>rw [q,q2] at e;cases e;rw [Bj,Bj,nC q2]
 | .val d f :: rs,pfs,e=>by
  unfold prs at e
  cases q2:prs ρ rs with
  | none=>rw [q2] at e;exact nsE e
  | some ps=>rw [q2] at e;cases e;rw [Bj,Bj,nC q2]
theorem qt:∀ {rs:List R3} {pfs:List (D × Fl)},prs ρ rs=some pfs->∀ i,R3.pl i ∈ rs->i < ρ.length
 | [],pfs,e,i,h=>by cases h
 | .pl i :: rs,pfs,e,j,h=>by
  unfold prs at e
  cases q:(ρ[i]?).join with
  | none=>rw [q] at e;exact nsE e
  | some p =>
   cases q2:prs ρ rs with
   | none=>rw [q,q2] at e;exact nsE e
   | some ps =>
    rcases AX.mp h with h | h
    ·cases h;exact eQ q
    ·exact qt q2 j h
 | .val d f :: rs,pfs,e,j,h=>by
  unfold prs at e
  cases q2:prs ρ rs with
  | none=>rw [q2] at e;exact nsE e
  | some ps =>
   rcases AX.mp h with h | h
   ·cases h
   ·exact qt q2 j h
theorem Paired.at {α β:Type} {F:α->β->Prop}:∀ {l:List α} {m:List β} {k:Nat} {a:α} {b:β},Paired F l m->l[k]?=some a->m[k]?=some b->F a b
 | _,_,_,_,_,.nil,h,_=>by simp at h
 | _,_,0,_,_,.cons r _,h,h'=>by simp at h h';subst h h';exact r
 | _,_,k+1,_,_,.cons _ t,h,h'=>Paired.at (k:=k) t (by simpa using h) (by simpa using h')
theorem Paired.exL {α β:Type} {F:α->β->Prop}:∀ {l:List α} {m:List β} {k:Nat} {a:α},Paired F l m->l[k]?=some a->∃ b,m[k]?=some b/\F a b
 | _,_,_,_,.nil,h=>by simp at h
 | _,_,0,_,.cons r _,h=>by simp at h;subst h;exact ⟨_,rfl,r⟩
 | _,_,k+1,_,.cons _ t,h=>let ⟨b,h1,h2⟩:=Paired.exL (k:=k) t (by simpa using h);⟨b,by simpa using h1,h2⟩
theorem Paired.exR {α β:Type} {F:α->β->Prop}:∀ {l:List α} {m:List β} {k:Nat} {b:β},Paired F l m->m[k]?=some b->∃ a,l[k]?=some a/\F a b
 | _,_,_,_,.nil,h=>by simp at h
 | _,_,0,_,.cons r _,h=>by simp at h;subst h;exact ⟨_,rfl,r⟩
 | _,_,k+1,_,.cons _ t,h=>let ⟨b,h1,h2⟩:=Paired.exR (k:=k) t (by simpa using h);⟨b,by simpa using h1,h2⟩
theorem dZ {α:Type} {R:α->α->Prop} {l:List α} (p:l.Pairwise R) (hs:∀ a b,R a b->R b a) {i j:Nat} {a b:α} (n:i ≠ j) (ha:l[i]?=some a) (hb:l[j]?=some b):R a b:=by
 obtain ⟨h1,e1⟩:=A3.mp ha
 obtain ⟨h2,e2⟩:=A3.mp hb
 have q:=List.pairwise_iff_getElem.mp p
 rcases Nat.lt_or_ge i j with h | h
 ·rw [<- e1,<- e2];exact q i j h1 h2 h
 ·rw [<- e1,<- e2];exact hs _ _ (q j i h2 h1 (by omega))
theorem Wf.after {rs:List R3} {Ts ps qs:List It3} {pfs:List (D × Fl)} (w:Wf K G H σ ρ (Ts ++ T) g) (e:prs ρ rs=some pfs) (f1:ps.map (fun p=>(p.d,p.f))=pfs)
  (f4:∀ p ∈ ps,(∃ i,R3.pl i ∈ rs/\g i=some p)\/p ∈ Ts) (f5:Paired (fun r p=>match r with | .pl i=>g i=some p | .val _ _=>p ∈ Ts) rs ps) (B:BehindX K H H' ps qs) :
  ∃ g',Wf K G H' σ (L3.back rs pfs (qs.map fun q=>(q.d,q.f)) ρ) T g' /\
   ∀ x,Rep K H' x.d x.v x.L->(x.f ≠ .z->jJ x.d=true/\∃ a L',x.v=.ref a/\x.L=a :: L'/\a ∉ L'/\H a=none)->(∀ c ∈ x.L,H c=none\/eF ps c)->(∀ q ∈ qs,Apart3 x q)->Wf K G H' σ (L3.back rs pfs (qs.map fun q=>(q.d,q.f)) ρ) (x :: T) g':=by
 subst f1
 have hl:rs.length=ps.length:=by have:=nC e;rwa [A2] at this
 obtain ⟨g',h1,h2,h3⟩:=gL (K:=K) (H:=H) (H':=H') (T:=ps) (rs:=rs) (ps:=ps) (qs:=qs) w.sl hl B.back (qt e)
 have hps:∀ p ∈ ps,Itm (Ts ++ T) g p:=fun p hp=>by
  rcases f4 p hp with ⟨i,_,ei⟩ | h
  ·exact .inl ⟨i,ei⟩
  ·exact .inr (AV _ h)
 have dom:∀ b o,H b=some o->∃ o',H' b=some o':=fun b o hb=>by
  by_cases h:∀ p ∈ ps,p.f=.u->p.v ≠ .ref b
  ·exact ⟨o,B.frame b o hb h⟩
  ·have h':∃ p,p ∈ ps/\p.f=.u/\p.v=.ref b:=by
    refine Classical.byContradiction fun n=>h fun p hp hf hv=>n ⟨p,hp,hf,hv⟩
   obtain ⟨p,hp,hf,hv⟩:=h'
   obtain ⟨k,hk,ek⟩:=List.mem_iff_getElem.mp hp
   obtain ⟨q,e1,b1⟩:=Paired.exL B.back (show ps[k]?=some p by rw [AY hk,ek])
   exact b1.there hf b hv
 have ka:∀ j z,g j=some z->(∀ (k:Nat) (p:It3),rs[k]?=some (R3.pl j)->ps[k]?=some p->p.f=.z)->∀ p ∈ ps,Apart3 p z:=fun j z ej hu p hp=>by
  rcases f4 p hp with ⟨i,hi,ei⟩ | h
  ·by_cases ij:i=j
   ·subst ij
    have epz:p=z:=BC (ei.symm.trans ej)
    subst epz
    have hz:p.f=.z:=by
     obtain ⟨k,hk,ek⟩:=List.mem_iff_getElem.mp hi
     have ek':rs[k]?=some (R3.pl i):=by rw [AY hk,ek]
     obtain ⟨p',e1,e2⟩:=Paired.exL f5 ek'
     have e2:g i=some p':=e2
     rw [ei] at e2
     cases e2
     exact hu k p ek' e1
    exact ⟨fun q=>absurd hz q,fun q=>absurd hz q⟩
   ·exact ⟨w.ss i j p z ij ei ej,w.ss j i z p (Ne.symm ij) ej ei⟩
  ·exact (w.st j z ej p (AV _ h)).symm
 have kt:∀ z ∈ T,∀ p ∈ ps,Apart3 p z:=fun z hz p hp=>by
  rcases f4 p hp with ⟨i,hi,ei⟩ | h
  ·exact w.st i p ei z (AW _ hz)
  ·exact (List.pairwise_append.mp w.tt).2.2 p h z hz
 have keep:∀ z,ItOk K G H z->(∀ p ∈ ps,Apart3 p z)->ItOk K G H' z:=fun z oz az=>by
  refine oz.keep (M:=fun b=>∃ p ∈ ps,p.f=.u/\p.v=.ref b) (fun b o hb n=>B.frame b o hb fun p hp hf hv=>n ⟨p,hp,hf,hv⟩) (fun b ⟨p,hp,hf,hv⟩=>?_) (fun b hb ⟨p,hp,hf,hv⟩=>?_)
  ·obtain ⟨_,a,L',e1,e2,_⟩:=(w.itm (hps p hp)).own (by rw [hf];intro q;cases q)
   rw [hv] at e1
   cases e1
   exact (w.itm (hps p hp)).rep.inH b (by rw [e2];exact AR)
  ·exact (az p hp).1 (by rw [hf];intro q;cases q) b hv hb
 have okq:∀ k p q,ps[k]?=some p->qs[k]?=some q->ItOk K G H' q:=fun k p q e1 e2=>by
  have b:=Paired.at B.back e1 e2
  refine ⟨b.arg.rep,fun hf=>?_,fun c hc=>?_⟩
  ·obtain ⟨m,a,L',v1,v2,v3⟩:=b.arg.own hf
   refine ⟨m,a,L',v1,v2,v3,fun hu=>?_⟩
   have pf:p.f=.u:=by
    rcases b.f with h | h
    ·rw [<- h];exact hu
    ·rw [h] at hu;cases hu
   obtain ⟨_,a',L'',e3,_,_,e5⟩:=(w.itm (hps p (A4 e1))).own (by rw [pf];intro q;cases q)
   rw [<- b.v,v1] at e3
   cases e3
   exact e5 pf
  ·rcases b.src c hc with h | ⟨p',hp',h⟩
   ·exact .inl (w.h0none h)
   ·exact (w.itm (hps p' hp')).src c h
 have kq:∀ z,ItOk K G H z->(∀ p ∈ ps,Apart3 p z)->∀ k p q,ps[k]?=some p->qs[k]?=some q->Apart3 z q:=fun z oz az k p q e1 e2=>by
  have b:=Paired.at B.back e1 e2
  refine ⟨fun hf a ev hm=>?_,fun hf a ev=>?_⟩
  ·rcases b.src a hm with h | ⟨p',hp',hc⟩
   ·obtain ⟨_,a',L',q1,q2,_⟩:=oz.own hf
    rw [ev] at q1;cases q1
    obtain ⟨o,ho⟩:=(oz.rep.inH a (by rw [q2];exact AR)).ex
    rw [h] at ho;exact nsE ho
   ·exact (az p' hp').2 hf a ev hc
  ·have pf:p.f ≠ .z:=fun q'=>by
    have:=b.z q'
    rw [this] at hf
    exact hf q'
   exact (az p (A4 e1)).1 pf a (by rw [<- b.v];exact ev)
 have old:∀ j z,g' j=some z->(g j=some z/\∀ p ∈ ps,Apart3 p z)\/∃ k p,rs[k]?=some (R3.pl j)/\ps[k]?=some p/\qs[k]?=some z:=fun j z ez=>by
  rcases h3 j with ⟨e1,hu⟩ | ⟨k,p,q,a1,a2,a3,_,a5⟩
  ·rw [e1] at ez
   exact .inl ⟨ez,ka j z ez hu⟩
  ·rw [a5] at ez
   cases ez
   exact .inr ⟨k,p,a1,a2,a3⟩
 have wf:Wf K G H' σ (L3.back rs (ps.map fun p=>(p.d,p.f)) (qs.map fun q=>(q.d,q.f)) ρ) T g':=by
  refine ⟨by rw [h2];exact w.len,h1,fun j z ez=>?_,fun j z ez=>?_,fun z hz=>keep z (w.okT z (AW _ hz)) (kt z hz),fun i j a b n ea eb=>?_,fun j z ez t ht=>?_,(List.pairwise_append.mp w.tt).2.1,fun b o e n=>?_,w.pro,⟨fun u hu=>w.fx.frT u (AW _ hu),fun j u h hp hf a ea=>?_,fun b hb=>?_,fun b o h=>?_,fun j u h hl=>?_⟩⟩
  ·rcases old j z ez with ⟨e1,_⟩ | ⟨k,p,a1,a2,a3⟩
   ·exact w.sv j z e1
   ·have ep:g j=some p:=by
     obtain ⟨p',q1,q2⟩:=Paired.exL f5 a1
     rw [a2] at q1;cases q1
     exact q2
    rw [(Paired.at B.back a2 a3).v]
    exact w.sv j p ep
  ·rcases old j z ez with ⟨e1,ap⟩ | ⟨k,p,a1,a2,a3⟩
   ·exact keep z (w.okS j z e1) ap
   ·exact okq k p z a2 a3
  ·rcases old i a ea with ⟨e1,ap⟩ | ⟨k,p,a1,a2,a3⟩
   ·rcases old j b eb with ⟨e2,_⟩ | ⟨k',p',b1,b2,b3⟩
    ·exact w.ss i j a b n e1 e2
    ·exact (kq a (w.okS i a e1) ap k' p' b b2 b3).1
   ·rcases old j b eb with ⟨e2,ap⟩ | ⟨k',p',b1,b2,b3⟩
    ·exact (kq b (w.okS j b e2) ap k p a a2 a3).2
    ·have kk:k ≠ k':=fun z=>by
      subst z
      rw [a1] at b1
      cases b1
      exact n rfl
     exact (dZ B.apart (fun _ _=>Apart3.symm) kk a3 b3).1
  ·rcases old j z ez with ⟨e1,ap⟩ | ⟨k,p,a1,a2,a3⟩
   ·exact w.st j z e1 t (AW _ ht)
   ·exact (kq t (w.okT t (AW _ ht)) (kt t ht) k p z a2 a3).symm
  ·refine B.frame b o (w.base b o e n) fun p hp hf hv=>?_
   obtain ⟨_,a,L',e1,_,_,e3⟩:=(w.itm (hps p hp)).own (by rw [hf];intro q;cases q)
   rw [hv] at e1
   cases e1
   rcases e3 hf with h | h
   ·rw [e] at h;cases h
   ·exact n h
  ·rcases old j u h with ⟨e1,_⟩ | ⟨k,p,a1,a2,a3⟩
   ·exact w.fx.frS j u e1 hp hf a ea
   ·have b:=Paired.at B.back a2 a3
    have ep:g j=some p:=by
     obtain ⟨p',q1,q2⟩:=Paired.exL f5 a1
     rw [a2] at q1;cases q1
     exact q2
    refine w.fx.frS j p ep hp (fun q'=>?_) a (by rw [<- b.v];exact ea)
    have:=b.z q'
    rw [this] at hf
    exact hf q'
  ·obtain ⟨o,ho⟩:=w.fx.bin b hb
   exact dom b o ho
  ·obtain ⟨o',ho⟩:=w.fx.ob b o h
   exact dom b o' ho
  ·rcases old j u h with ⟨e1,_⟩ | ⟨k,p,a1,a2,a3⟩
   ·exact w.fx.lvS j u e1 hl
   ·have b:=Paired.at B.back a2 a3
    have ep:g j=some p:=by
     obtain ⟨p',q1,q2⟩:=Paired.exL f5 a1
     rw [a2] at q1;cases q1
     exact q2
    rw [b.v]
    refine w.fx.lvS j p ep ?_
    rcases b.f with h | h
    ·rw [<- h];exact hl
    ·rw [h] at hl;cases hl
 refine ⟨g',wf,fun x rx ox sx ax=>?_⟩
 have kx:∀ z,ItOk K G H z->(∀ p ∈ ps,Apart3 p z)->Apart3 z x:=fun z oz az=>by
  refine ⟨fun hf a ev hm=>?_,fun hf a ev hm=>?_⟩
  ·rcases sx a hm with h | ⟨p',hp',hc⟩
   ·obtain ⟨_,a',L',q1,q2,_⟩:=oz.own hf
    rw [ev] at q1;cases q1
    obtain ⟨o,ho⟩:=(oz.rep.inH a (by rw [q2];exact AR)).ex
    rw [h] at ho;exact nsE ho
   ·exact (az p' hp').2 hf a ev hc
  ·obtain ⟨_,a',L',q1,_,_,q4⟩:=ox hf
   rw [ev] at q1;cases q1
   obtain ⟨o,ho⟩:=(oz.rep.inH a hm).ex
   rw [q4] at ho;exact nsE ho
 refine ⟨wf.len,wf.sl,wf.sv,wf.okS,fun z hz=>?_,wf.ss,fun j z ez t ht=>?_,?_,wf.base,wf.pro,⟨fun u hu hf a ea=>?_,wf.fx.frS,wf.fx.bin,wf.fx.ob,wf.fx.lvS⟩⟩
 ·rcases AX.mp hz with h | hz
  ·rw [h]
   refine ⟨rx,fun hf=>?_,fun c hc=>?_⟩
   ·obtain ⟨m,a,L',v1,v2,v3,v4⟩:=ox hf
    exact ⟨m,a,L',v1,v2,v3,fun _=>.inl (w.h0none v4)⟩
   ·rcases sx c hc with h | ⟨p',hp',h⟩
    ·exact .inl (w.h0none h)
    ·exact (w.itm (hps p' hp')).src c h
  ·exact wf.okT z hz
 ·rcases AX.mp ht with h | ht
  ·rw [h]
   rcases old j z ez with ⟨e1,ap⟩ | ⟨k,p,a1,a2,a3⟩
   ·exact kx z (w.okS j z e1) ap
   ·exact (ax z (A4 a3)).symm
  ·exact wf.st j z ez t ht
 ·exact List.pairwise_cons.mpr ⟨fun t ht=>(kx t (w.okT t (AW _ ht)) (kt t ht)).symm,wf.tt⟩
 ·rcases AX.mp hu with h | hu
  ·subst h
   obtain ⟨_,a',L',q1,_,_,q4⟩:=ox hf
   rw [ea] at q1;cases q1
   exact w.ornone q4
  ·exact wf.fx.frT u hu hf a ea
set_option tactic.hygienic true in
theorem qJ {i a:Nat} (h:(ρ[i]?).join=none):((L3.lowAt a ρ)[i]?).join=none:=by
 unfold L3.lowAt
 split
 ·rename_i d hd
  rw [cr (eQ hd)]
  by_cases ia:i=a
  ·subst ia;rw [h] at hd;exact nsE hd
  ·rw [if_neg ia];exact h
 ·rename_i d hd
  rw [cr (eQ hd)]
  by_cases ia:i=a
  ·subst ia;rw [h] at hd;exact nsE hd
  ·rw [if_neg ia];exact h
 ·exact h
theorem pE {i:Nat}:∀ {is:List Nat} {ρ:Sto},(ρ[i]?).join=none->((L3.frz is ρ)[i]?).join=none
 | [],ρ,h=>h
 | a :: is,ρ,h=>pE (is:=is) (ρ:=L3.lowAt a ρ) (qJ h)
end
end L3
end
section
namespace L3
open PySem L2
noncomputable def iY (ρ:Sto):Nat->List (D × Fl)->Option (List (D × Fl))
 | _,[]=>some []
 | i,(d,.z) :: ps=>(iY ρ (i+1) ps).map fun r=>(d,.z) :: r
 | i,(d,f) :: ps=>match (ρ[i]?).join,iY ρ (i+1) ps with
  | some (d',f'),some r=>if f'=f\/f'=.z then some ((d',f') :: r) else none
  | _,_=>none
noncomputable def kA (n:Nat) (ps:List (D × Fl)):Sto:=ps.map some ++ List.replicate (n - ps.length) none
noncomputable def fn0 (n:Nat) (b:SM):Fn:=fun ps=>match b (kA n ps) with
 | some (.ok .nx,ρ')=>(iY ρ' 0 ps).map fun fs=>(.ok (.non,.z),fs)
 | some (.ok (.rt d f),ρ')=>(iY ρ' 0 ps).map fun fs=>(.ok (d,f),fs)
 | some (.error e,ρ')=>(iY ρ' 0 ps).map fun fs=>(.error e,fs)
 | _=>none
noncomputable def tz (b:Bool) (p:D × Fl):D × Fl:=if b then (p.1,.z) else p
noncomputable def fnM (mask:List Bool) (n:Nat) (b:SM):Fn:=fun ps=>if ps.length=mask.length then fn0 n b (List.zipWith tz mask ps) else none
section
variable {K:FG} {G:Gm} {W:D->Sto->Prop} {H H':Hp} {σ:St} {ρ ρ':Sto} {T T':List It3} {g:Nat->Option It3} {x y z:It3} {α β:Type}
noncomputable def gOf (H:Hp) (pr:Nat->Bool) (σ0:St) (ps:List It3):Gm:=⟨H,fun b=>∃ p ∈ ps,p.f=.u/\p.v=.ref b,pr,σ0,H,eF ps,fun i=>(ps[i]?).map (·.v)⟩
theorem tR {n:Nat} {ps:List (D × Fl)} (hn:ps.length<=n) (i:Nat):((kA n ps)[i]?).join=ps[i]?:=by
 unfold kA
 by_cases h:i < ps.length
 ·rw [Bs (by simpa using h),A7]
  cases ps[i]? <;> rfl
 ·rw [List.getElem?_append_right (by simpa using h),List.getElem?_replicate,List.getElem?_eq_none (by omega)]
  split <;> rfl
theorem my {n:Nat} {vs:List V} {i:Nat} {v:V} (h:vs[i]?=some v):(vs.map some ++ List.replicate n (none:Option V))[i]?=some (some v):=by
 obtain ⟨hi,e⟩:=A3.mp h
 rw [Bs (by simpa using hi),A7,h]
 rfl
theorem uo {n:Nat} {pr:Nat->Bool} {ps:List It3} (hn:ps.length<=n) (ha:∀ p ∈ ps,Arg K H p) (hp:ps.Pairwise Apart3) (hpr:∀ (i:Nat) (p:It3),ps[i]?=some p->p.f ≠ .z->pr i=true) :
  Wf K (gOf H pr ((ps.map (·.v)).map some ++ List.replicate (n - (ps.map (·.v)).length) none) ps) H ((ps.map (·.v)).map some ++ List.replicate (n - (ps.map (·.v)).length) none) (kA n (ps.map fun p=>(p.d,p.f))) [] (fun i=>ps[i]?):=by
 refine ⟨?_,fun i=>?_,fun i x e=>?_,fun i x e=>?_,fun _ h=>(by cases h),fun i j a b n ea eb=>?_,fun _ _ _ _ h=>(by cases h),.nil,fun b o e _=>e,fun i _=>rfl,⟨fun _ h=>(by cases h),fun i x e hz hf=>?_,fun b h=>?_,fun b o e=>⟨o,e⟩,fun i x e _=>(by show (ps[i]?).map (·.v)=_;rw [e];rfl)⟩⟩
 ·unfold kA;simp
 ·rw [tR (by simpa using hn),A7]
 ·exact my (by rw [A7,e];rfl)
 ·have hm:=A4 e
  refine ⟨(ha x hm).rep,fun hf=>?_,fun c hc=>.inr ⟨x,hm,hc⟩⟩
  obtain ⟨m,a,L',v1,v2,v3⟩:=(ha x hm).own hf
  exact ⟨m,a,L',v1,v2,v3,fun hu=>.inr ⟨x,hm,hu,v1⟩⟩
 ·exact (dZ hp (fun _ _=>Apart3.symm) n ea eb).1
 ·have hz:pr i=false:=hz
  rw [hpr i x e hf] at hz;cases hz
 ·obtain ⟨p,hm,hf,hv⟩:=h
  obtain ⟨_,a,L',v1,v2,_⟩:=(ha p hm).own (by rw [hf];intro q;cases q)
  rw [hv] at v1;cases v1
  exact ((ha p hm).rep.inH b (by rw [v2];exact AR)).ex
noncomputable def FinsOk (ρ:Sto) (i:Nat) (ps fs:List (D × Fl)):Prop:=fs.length=ps.length/\∀ (k:Nat) (p:D × Fl),ps[k]?=some p->∃ q,fs[k]?=some q/\(p.2=.z->q=p)/\(p.2 ≠ .z->(ρ[i+k]?).join=some q/\(q.2=p.2\/q.2=.z))
theorem FinsOk.cons {i:Nat} {p0 q0:D × Fl} {ps fs:List (D × Fl)} (h:FinsOk ρ (i+1) ps fs) (hz:p0.2=.z->q0=p0) (hn:p0.2 ≠ .z->(ρ[i]?).join=some q0/\(q0.2=p0.2\/q0.2=.z)):FinsOk ρ i (p0 :: ps) (q0 :: fs):=by
 refine ⟨by rw [Bj,Bj,h.1],fun k p hk=>?_⟩
 cases k with
 | zero=>cases hk;exact ⟨q0,rfl,hz,hn⟩
 | succ k =>
  obtain ⟨q,a,b,c⟩:=h.2 k p hk
  exact ⟨q,a,b,fun n=>by have:=c n;rwa [show i+1+k=i+(k+1) by omega] at this⟩
theorem j6:∀ {i:Nat} {ps:List (D × Fl)} {fs:List (D × Fl)},iY ρ i ps=some fs->FinsOk ρ i ps fs
 | i,[],fs,e=>by cases e;exact ⟨rfl,fun k p h=>by cases h⟩
 | i,p0 :: ps,fs,e=>by
  obtain ⟨d,f⟩:=p0
  have key:f ≠ .z->(match (ρ[i]?).join,iY ρ (i+1) ps with
    | some (d',f'),some r=>if f'=f\/f'=.z then some ((d',f') :: r) else none
    | _,_=>none)=some fs->FinsOk ρ i ((d,f) :: ps) fs:=fun hf e=>by
   cases h:(ρ[i]?).join with
   | none=>rw [h] at e;exact nsE e
   | some p0 =>
    cases h2:iY ρ (i+1) ps with
    | none=>rw [h,h2] at e;exact nsE e
    | some r =>
     rw [h,h2] at e
     obtain ⟨d',f'⟩:=p0
     dsimp only at e
     rcases Decidable.em (f'=f\/f'=.z) with hc | hc
     ·rw [if_pos hc] at e
      cases e
      exact (j6 h2).cons (fun z=>absurd z hf) fun _=>⟨h,hc⟩
     ·rw [if_neg hc] at e;exact nsE e
  cases f with
  | z =>
   obtain ⟨r,h,h'⟩:=AU.mp (show (iY ρ (i+1) ps).map (fun r=>(d,Fl.z) :: r)=some fs from e)
   subst h'
   exact (j6 h).cons (fun _=>rfl) fun n=>absurd rfl n
  | u=>exact key (by intro q;cases q) e
  | l=>exact key (by intro q;cases q) e
theorem ku {α β:Type} {P:Nat->α->β->Prop}:∀ (l:List α) (i:Nat),(∀ (k:Nat) a,l[k]?=some a->∃ b,P (i+k) a b)->∃ m:List β,m.length=l.length/\∀ (k:Nat) a,l[k]?=some a->∃ b,m[k]?=some b/\P (i+k) a b
 | [],i,_=>⟨[],rfl,fun k a h=>by simp at h⟩
 | a :: l,i,h=>by
  obtain ⟨b,hb⟩:=h 0 a rfl
  obtain ⟨m,h1,h2⟩:=ku l (i+1) fun k a e=>by
   have:=h (k+1) a (by simpa using e)
   rwa [show i+(k+1)=i+1+k by omega] at this
  refine ⟨b :: m,by simp [h1],fun k a' e=>?_⟩
  cases k with
  | zero=>simp at e;subst e;exact ⟨b,rfl,hb⟩
  | succ k =>
   obtain ⟨b',e1,e2⟩:=h2 k a' (by simpa using e)
   exact ⟨b',by simpa using e1,by rwa [show i+(k+1)=i+1+k by omega]⟩
theorem Paired.ofGet {α β:Type} {F:α->β->Prop}:∀ {l:List α} {m:List β},l.length=m.length->(∀ (k:Nat) a b,l[k]?=some a->m[k]?=some b->F a b)->Paired F l m
 | [],[],_,_=>.nil
 | [],_ :: _,h,_=>by cases h
 | _ :: _,[],h,_=>by cases h
 | a :: l,b :: m,h,f=>.cons (f 0 a b rfl rfl) (Paired.ofGet (by simpa using h) fun k a b e1 e2=>f (k+1) a b (by simpa using e1) (by simpa using e2))
theorem pZ {n:Nat} {pr:Nat->Bool} {σ0:St} {ps:List It3} {fs:List (D × Fl)} (ha:∀ p ∈ ps,Arg K H p) (hp:ps.Pairwise Apart3) (hpr:∀ (i:Nat) (p:It3),ps[i]?=some p->p.f ≠ .z->pr i=true) (h0:∀ (i:Nat) (p:It3),ps[i]?=some p->σ0[i]?=some (some p.v))
  (w:Wf K (gOf H pr σ0 ps) H' σ ρ T g) (e:iY ρ 0 (ps.map fun p=>(p.d,p.f))=some fs) :
  ∃ qs,BehindX K H H' ps qs/\qs.map (fun q=>(q.d,q.f))=fs/\(∀ (k:Nat) (p q:It3),ps[k]?=some p->qs[k]?=some q->(p.f=.z/\q=p)\/(p.f ≠ .z/\g k=some q)):=by
 obtain ⟨hl,hs⟩:=j6 e
 rw [A2] at hl
 have frame:∀ b o,H b=some o->(∀ p ∈ ps,p.f=.u->p.v ≠ .ref b)->H' b=some o:=fun b o hb hn=>w.base b o hb fun ⟨p,hm,hf,hv⟩=>hn p hm hf hv
 have there:∀ b o,H b=some o->∃ o',H' b=some o':=fun b o hb=>w.fx.ob b o hb
 have repz:∀ (k:Nat) (p:It3),ps[k]?=some p->p.f=.z->Rep K H' p.d p.v p.L:=fun k p ek hz=>by
  refine (ha p (A4 ek)).rep.keep (M:=fun b=>∃ p ∈ ps,p.f=.u/\p.v=.ref b) (fun b o hb hn=>frame b o hb fun p hp hf hv=>hn ⟨p,hp,hf,hv⟩) (fun b ⟨p',hm,hf,hv⟩=>?_) fun b hb ⟨p',hm,hf,hv⟩=>?_
  ·obtain ⟨_,a,L',v1,v2,_⟩:=(ha p' hm).own (by rw [hf];intro q;cases q)
   rw [hv] at v1;cases v1
   exact (ha p' hm).rep.inH b (by rw [v2];exact AR)
  ·obtain ⟨j,hj,ej⟩:=List.mem_iff_getElem.mp hm
   have ej':ps[j]?=some p':=by rw [AY hj,ej]
   have jk:j ≠ k:=fun z=>by subst z;rw [ek] at ej';cases ej';rw [hz] at hf;cases hf
   exact (dZ hp (fun _ _=>Apart3.symm) jk ej' ek).1 (by rw [hf];intro q;cases q) b hv hb
 have one:∀ (k:Nat) (p:It3),ps[k]?=some p->∃ q,(q.d,q.f)=(fs[k]?).getD (p.d,p.f)/\fs[k]?=some (q.d,q.f)/\Back1 K H H' ps p q/\((p.f=.z/\q=p)\/(p.f ≠ .z/\g k=some q)):=fun k p ek=>by
  have hm:=A4 ek
  obtain ⟨q0,f1,f2,f3⟩:=hs k (p.d,p.f) (by rw [A7,ek];rfl)
  by_cases hz:p.f=.z
  ·have:=f2 hz
   subst this
   refine ⟨p,by rw [f1];rfl,f1,⟨fun _=>rfl,rfl,.inl rfl,⟨repz k p ek hz,fun h=>absurd hz h⟩,fun c hc=>.inr ⟨p,hm,hc⟩,fun h=>?_⟩,.inl ⟨hz,rfl⟩⟩
   rw [hz] at h;cases h
  ·obtain ⟨h1,h2⟩:=f3 hz
   rw [Bg] at h1
   obtain ⟨y,y1,y2,y3,y4⟩:=w.slot (d:=q0.1) (f:=q0.2) h1
   have hv:y.v=p.v:=by
    have:=w.pro k (hpr k p ek hz)
    rw [y4] at this
    have h0:some (some y.v)=some (some p.v):=this.trans (h0 k p ek)
    injection h0 with h0
    injection h0
   have ok:=w.okS k y y1
   refine ⟨y,by rw [f1,y2,y3];rfl,by rw [f1,y2,y3],⟨fun h=>absurd h hz,hv,by rw [y3];exact h2,⟨ok.rep,fun hf=>?_⟩,fun c hc=>ok.src c hc,fun hf b hb=>?_⟩,.inr ⟨hz,y1⟩⟩
   ·obtain ⟨m,a,L',v1,v2,v3,_⟩:=ok.own hf
    exact ⟨m,a,L',v1,v2,v3⟩
   ·obtain ⟨_,a,L',v1,v2,_⟩:=(ha p hm).own hz
    rw [hb] at v1;cases v1
    obtain ⟨o,ho⟩:=((ha p hm).rep.inH b (by rw [v2];exact AR)).ex
    exact there b o ho
 obtain ⟨qs,hq,hall⟩:=ku (P:=fun k p q=>fs[k]?=some (q.d,q.f)/\Back1 K H H' ps p q/\((p.f=.z/\q=p)\/(p.f ≠ .z/\g k=some q))) ps 0 fun k p ek=>by
  obtain ⟨q,_,a,b,c⟩:=one k p ek
  exact ⟨q,by simpa using ⟨a,b,c⟩⟩
 have get:∀ (k:Nat) (p q:It3),ps[k]?=some p->qs[k]?=some q->fs[k]?=some (q.d,q.f)/\Back1 K H H' ps p q/\((p.f=.z/\q=p)\/(p.f ≠ .z/\g k=some q)):=fun k p q ep eq=>by
  obtain ⟨q',e1,e2⟩:=hall k p ep
  rw [eq] at e1
  cases e1
  simpa using e2
 have par:∀ (k:Nat) (q:It3),qs[k]?=some q->∃ p,ps[k]?=some p:=fun k q e=>by
  have hk:=(A3.mp e).1
  exact ⟨ps[k]'(by omega),by simp [show k < ps.length by omega]⟩
 refine ⟨qs,⟨frame,Paired.ofGet hq.symm fun k p q ep eq=>(get k p q ep eq).2.1,?_⟩,?_,fun k p q ep eq=>(get k p q ep eq).2.2⟩
 ·rw [List.pairwise_iff_getElem]
  intro k j hk hj lt
  have ek:qs[k]?=some qs[k]:=AY hk
  have ej:qs[j]?=some qs[j]:=AY hj
  have side:∀ (k j:Nat) (q r:It3),k ≠ j->qs[k]?=some q->qs[j]?=some r->NoRoot q r:=fun k j q r n eq er=>by
   obtain ⟨p,ep⟩:=par k q eq
   obtain ⟨p',ep'⟩:=par j r er
   obtain ⟨_,b,c⟩:=get k p q ep eq
   obtain ⟨_,b',c'⟩:=get j p' r ep' er
   rcases c with ⟨hz,e⟩ | ⟨hz,e⟩
   ·rw [e];exact fun h=>absurd hz h
   ·rcases c' with ⟨hz',e'⟩ | ⟨hz',e'⟩
    ·rw [e']
     intro hf a ea
     exact (dZ hp (fun _ _=>Apart3.symm) n ep ep').1 hz a (by rw [<- b.v];exact ea)
    ·exact w.ss k j q r n e e'
  exact ⟨side k j _ _ (Ba lt) ek ej,side j k _ _ (Nat.ne_of_gt lt) ej ek⟩
 ·refine List.ext_getElem? fun k=>?_
  rw [A7]
  cases eq:qs[k]? with
  | none =>
   have:qs.length<=k:=List.getElem?_eq_none_iff.mp eq
   rw [List.getElem?_eq_none (by omega)]
   rfl
  | some q =>
   obtain ⟨p,ep⟩:=par k q eq
   rw [(get k p q ep eq).1]
   rfl
theorem qZ {n:Nat} {pr:Nat->Bool} {σ0:St} {ps:List It3} {fs:List (D × Fl)} (ha:∀ p ∈ ps,Arg K H p) (hp:ps.Pairwise Apart3) (hpr:∀ (i:Nat) (p:It3),ps[i]?=some p->p.f ≠ .z->pr i=true) (h0:∀ (i:Nat) (p:It3),ps[i]?=some p->σ0[i]?=some (some p.v))
  (w:Wf K (gOf H pr σ0 ps) H' σ ρ (x :: T) g) (e:iY ρ 0 (ps.map fun p=>(p.d,p.f))=some fs):∃ qs,Behind K H H' ps qs x/\qs.map (fun q=>(q.d,q.f))=fs:=by
 obtain ⟨qs,B,f,hg⟩:=pZ (n:=n) ha hp hpr h0 w e
 have ok:=w.okT x AR
 refine ⟨qs,⟨B,ok.rep,fun hf=>?_,fun c hc=>ok.src c hc,fun q hq=>?_⟩,f⟩
 ·obtain ⟨m,a,L',v1,v2,v3,_⟩:=ok.own hf
  exact ⟨m,a,L',v1,v2,v3,w.fx.frT x AR hf a v1⟩
 ·obtain ⟨k,hk,ek⟩:=List.mem_iff_getElem.mp hq
  have eq:qs[k]?=some q:=by rw [AY hk,ek]
  obtain ⟨p,ep,b⟩:=Paired.exR B.back eq
  rcases hg k p q ep eq with ⟨hz,e⟩ | ⟨hz,e⟩
  ·rw [e]
   refine ⟨fun hf a ea hm=>?_,fun h=>absurd hz h⟩
   have h1:=w.fx.frT x AR hf a ea
   obtain ⟨o,ho⟩:=((ha p (A4 ep)).rep.inH a hm).ex
   have h2:H a=none:=h1
   rw [h2] at ho;exact nsE ho
  ·exact (w.st k q e x AR).symm
end
end L3
end
section
namespace L3
open PySem L2
noncomputable def d5:Fl->Fl
 | .u=>.l
 | f=>f
noncomputable def bL (x:It3):It3:={ x with f:=d5 x.f }
noncomputable def gX:Fl->Fl
 | .l=>.u
 | f=>f
noncomputable def wO (x:It3):It3:={ x with f:=gX x.f }
noncomputable def lB (h:Fl->Fl) (i:Nat) (ρ:Sto):Sto:=match (ρ[i]?).join with
 | some (d,f)=>ρ.set i (some (d,h f))
 | none=>ρ
noncomputable def aS (h:Fl->Fl) (is:List Nat) (ρ:Sto):Sto:=is.foldl (fun ρ i=>lB h i ρ) ρ
noncomputable def us (ρ:Sto) (is:List Nat):List Nat:=is.filter fun i=>match (ρ[i]?).join with
 | some (_,.u)=>true
 | _=>false
theorem lentF_z {f:Fl}:d5 f=.z ↔ f=.z:=by cases f <;> simp [d5]
theorem unlF_z {f:Fl}:gX f=.z ↔ f=.z:=by cases f <;> simp [gX]
theorem rQ (f:Fl):d5 f ≠ .u:=by cases f <;> simp [d5]
theorem ze (f:Fl):gX f ≠ .l:=by cases f <;> simp [gX]
section
variable {K:FG} {G G0:Gm} {W W0:D->Sto->Prop} {H H':Hp} {σ:St} {ρ ρ':Sto} {T T':List It3} {g:Nat->Option It3} {x y z:It3} {α β:Type}
theorem qF {h:Fl->Fl} {i j:Nat}:((lB h i ρ)[j]?).join=if j=i then ((ρ[j]?).join).map (fun p=>(p.1,h p.2)) else (ρ[j]?).join:=by
 unfold lB
 cases e:(ρ[i]?).join with
 | none =>
  by_cases q:j=i
  ·subst q;rw [if_pos rfl,e];rfl
  ·rw [if_neg q]
 | some p =>
  obtain ⟨d,f⟩:=p
  dsimp only
  rw [cr (eQ e)]
  by_cases q:j=i
  ·subst q;rw [if_pos rfl,if_pos rfl,e];rfl
  ·rw [if_neg q,if_neg q]
theorem tj {h:Fl->Fl} {i:Nat}:(lB h i ρ).length = ρ.length:=by
 unfold lB
 split
 ·rw [List.length_set]
 ·rfl
theorem iq {h:Fl->Fl} (hh:∀ f,h (h f)=h f):∀ {is:List Nat} {ρ:Sto} {j:Nat},((aS h is ρ)[j]?).join=if j ∈ is then ((ρ[j]?).join).map (fun p=>(p.1,h p.2)) else (ρ[j]?).join
 | [],ρ,j=>by simp [aS]
 | i :: is,ρ,j=>by
  have e:aS h (i :: is) ρ=aS h is (lB h i ρ):=rfl
  rw [e,iq hh,qF]
  by_cases q:j=i
  ·subst q
   by_cases m:j ∈ is
   ·rw [if_pos m,if_pos rfl,if_pos AR]
    cases (ρ[j]?).join with
    | none=>rfl
    | some p=>simp [hh]
   ·rw [if_neg m,if_pos rfl,if_pos AR]
  ·by_cases m:j ∈ is
   ·rw [if_pos m,if_neg q,if_pos (AS _ m)]
   ·rw [if_neg m,if_neg q,if_neg (fun z=>(AX.mp z).elim q m)]
theorem jl {h:Fl->Fl}:∀ {is:List Nat} {ρ:Sto},(aS h is ρ).length = ρ.length
 | [],ρ=>rfl
 | i :: is,ρ=>by
  have e:aS h (i :: is) ρ=aS h is (lB h i ρ):=rfl
  rw [e,jl,tj]
noncomputable def fw (G:Gm) (H:Hp) (g:Nat->Option It3) (is:List Nat):Gm :=
 ⟨H,fun b=>∃ j y,j ∉ is/\g j=some y/\y.f=.u/\y.v=.ref b,G.pr,G.σ0,G.orig,fun c=>G.H0 c=none\/G.src c,fun j=>if j ∈ is then (g j).map (·.v) else G.lv j⟩
structure Fk (x y:It3):Prop where
 d:y.d=x.d
 v:y.v=x.v
 L:y.L=x.L
 z:y.f=.z ↔ x.f=.z
theorem Fk.noRoot {x x' y y':It3} (a:Fk x x') (b:Fk y y') (h:NoRoot x y):NoRoot x' y':=fun hf c e=>by
 rw [b.L]
 exact h (fun q=>hf (a.z.mpr q)) c (by rw [<- a.v];exact e)
theorem Fk.apart {x x' y y':It3} (a:Fk x x') (b:Fk y y') (h:Apart3 x y):Apart3 x' y':=⟨a.noRoot b h.1,b.noRoot a h.2⟩
theorem Fk.refl (x:It3):Fk x x:=⟨rfl,rfl,rfl,Iff.rfl⟩
theorem kU (x:It3):Fk x (bL x):=⟨rfl,rfl,rfl,lentF_z⟩
theorem AC (x:It3):Fk x (wO x):=⟨rfl,rfl,rfl,unlF_z⟩
theorem ph {o:Option It3} {h:Fl->Fl} {p:Option (D × Fl)} (e:o.map (fun x=>(x.d,x.f))=p):(o.map fun x=>{ x with f:=h x.f }).map (fun x:It3=>(x.d,x.f))=p.map fun p=>(p.1,h p.2):=by
 subst e
 cases o <;> rfl
theorem Wf.enter (w:Wf K G H σ ρ T g) (is:List Nat):Wf K (fw G H g is) H σ (aS d5 is ρ) (T.map bL) (fun j=>if j ∈ is then (g j).map bL else g j):=by
 have val:∀ j u,(if j ∈ is then (g j).map bL else g j)=some u->∃ u0,g j=some u0/\Fk u0 u/\((j ∈ is/\u=bL u0)\/(j ∉ is/\u=u0)):=fun j u h=>by
  by_cases q:j ∈ is
  ·rw [if_pos q] at h
   obtain ⟨u0,e1,e2⟩:=AU.mp h
   subst e2
   exact ⟨u0,e1,kU u0,.inl ⟨q,rfl⟩⟩
  ·rw [if_neg q] at h
   exact ⟨u,h,Fk.refl u,.inr ⟨q,rfl⟩⟩
 refine ⟨by rw [jl];exact w.len,fun j=>?_,fun j u h=>?_,fun j u h=>?_,fun u hu=>?_,fun i j a b n ha hb=>?_,fun j a h b hb=>?_,?_,fun b o e _=>e,w.pro,⟨fun u hu hf a ea=>?_,fun j u h hp hf a ea=>?_,fun b hb=>?_,w.fx.ob,fun j u h hl=>?_⟩⟩
 ·rw [iq (by intro f;cases f <;> rfl)]
  by_cases q:j ∈ is
  ·rw [if_pos q,if_pos q];exact ph (w.sl j)
  ·rw [if_neg q,if_neg q];exact w.sl j
 ·obtain ⟨u0,e,k,_⟩:=val j u h
  rw [k.v];exact w.sv j u0 e
 ·obtain ⟨u0,e,k,c⟩:=val j u h
  have ok:=w.okS j u0 e
  refine ⟨by rw [k.d,k.v,k.L];exact ok.rep,fun hf=>?_,fun c hc=>.inr (ok.src c (by rw [<- k.L];exact hc))⟩
  obtain ⟨m,a,L',v1,v2,v3,_⟩:=ok.own (fun q=>hf (k.z.mpr q))
  refine ⟨by rw [k.d];exact m,a,L',by rw [k.v];exact v1,by rw [k.L];exact v2,v3,fun hu=>?_⟩
  rcases c with ⟨_,rfl⟩ | ⟨nj,rfl⟩
  ·exact absurd hu (rQ _)
  ·exact .inr ⟨j,u,nj,e,hu,v1⟩
 ·obtain ⟨u0,h0,rfl⟩:=A6.mp hu
  have ok:=w.okT u0 h0
  refine ⟨ok.rep,fun hf=>?_,fun c hc=>.inr (ok.src c hc)⟩
  obtain ⟨m,a,L',v1,v2,v3,_⟩:=ok.own (fun q=>hf (lentF_z.mpr q))
  exact ⟨m,a,L',v1,v2,v3,fun hu=>absurd hu (rQ _)⟩
 ·obtain ⟨a0,e1,k1,_⟩:=val i a ha
  obtain ⟨b0,e2,k2,_⟩:=val j b hb
  exact k1.noRoot k2 (w.ss i j a0 b0 n e1 e2)
 ·obtain ⟨a0,e1,k1,_⟩:=val j a h
  obtain ⟨b0,h0,rfl⟩:=A6.mp hb
  exact k1.apart (kU b0) (w.st j a0 e1 b0 h0)
 ·rw [List.pairwise_map]
  exact w.tt.imp fun {a b} h=>(kU a).apart (kU b) h
 ·obtain ⟨u0,h0,rfl⟩:=A6.mp hu
  exact w.fx.frT u0 h0 (fun q=>hf (lentF_z.mpr q)) a ea
 ·obtain ⟨u0,e,k,_⟩:=val j u h
  exact w.fx.frS j u0 e hp (fun q=>hf (k.z.mpr q)) a (by rw [<- k.v];exact ea)
 ·obtain ⟨j,y,_,e,hf,hv⟩:=hb
  obtain ⟨_,a,L',v1,v2,_⟩:=(w.okS j y e).own (by rw [hf];intro q;cases q)
  rw [hv] at v1;cases v1
  exact ((w.okS j y e).rep.inH b (by rw [v2];exact AR)).ex
 ·obtain ⟨u0,e,k,c⟩:=val j u h
  show (if j ∈ is then (g j).map (·.v) else G.lv j)=_
  rcases c with ⟨q,rfl⟩ | ⟨q,rfl⟩
  ·rw [if_pos q,e];rfl
  ·rw [if_neg q];exact w.fx.lvS j u e hl
theorem Wf.leave {is:List Nat} {σ':St} {ρ2:Sto} {g2:Nat->Option It3} {R:List It3} (w:Wf K G H σ ρ T g) (his:∀ i ∈ is,∀ y,g i=some y->y.f=.u) (hT:T'.Sublist T) (w2:Wf K (fw G H g is) H' σ' ρ2 (R ++ T'.map bL) g2) :
  Wf K G H' σ' (aS gX is ρ2) (R ++ T') (fun j=>if j ∈ is then (g2 j).map wO else g2 j):=by
 have val:∀ j u,(if j ∈ is then (g2 j).map wO else g2 j)=some u->∃ u0,g2 j=some u0/\Fk u0 u/\((j ∈ is/\u=wO u0)\/(j ∉ is/\u=u0)):=fun j u h=>by
  by_cases q:j ∈ is
  ·rw [if_pos q] at h
   obtain ⟨u0,e1,e2⟩:=AU.mp h
   subst e2
   exact ⟨u0,e1,AC u0,.inl ⟨q,rfl⟩⟩
  ·rw [if_neg q] at h
   exact ⟨u,h,Fk.refl u,.inr ⟨q,rfl⟩⟩
 have may:∀ a,H a=none\/(∃ j y,j ∉ is/\g j=some y/\y.f=.u/\y.v=.ref a)->G.H0 a=none\/G.bw a:=fun a h=>by
  rcases h with h | ⟨j,y,_,e,hf,hv⟩
  ·exact .inl (w.h0none h)
  ·obtain ⟨_,a',L',v1,_,_,v4⟩:=(w.okS j y e).own (by rw [hf];intro q;cases q)
   rw [hv] at v1;cases v1
   exact v4 hf
 have srcs:∀ c,H c=none\/(G.H0 c=none\/G.src c)->G.H0 c=none\/G.src c:=fun c h=>by
  rcases h with h | h
  ·exact .inl (w.h0none h)
  ·exact h
 have tm:∀ x ∈ T',x ∈ T:=fun x hx=>hT.subset hx
 have dom:∀ b o,H b=some o->∃ o',H' b=some o':=fun b o hb=>by
  by_cases q:∃ j y,j ∉ is/\g j=some y/\y.f=.u/\y.v=.ref b
  ·exact w2.fx.bin b q
  ·exact ⟨o,w2.base b o hb q⟩
 refine ⟨by rw [jl];exact w2.len,fun j=>?_,fun j u h=>?_,fun j u h=>?_,fun u hu=>?_,fun i j a b n ha hb=>?_,fun j a h b hb=>?_,?_,fun b o e n=>?_,w2.pro,⟨fun u hu=>?_,fun j u h hp hf a ea=>?_,fun b hb=>?_,w2.fx.ob,fun j u h hl=>?_⟩⟩
 ·rw [iq (by intro f;cases f <;> rfl)]
  by_cases q:j ∈ is
  ·rw [if_pos q,if_pos q];exact ph (w2.sl j)
  ·rw [if_neg q,if_neg q];exact w2.sl j
 ·obtain ⟨u0,e,k,_⟩:=val j u h
  rw [k.v];exact w2.sv j u0 e
 ·obtain ⟨u0,e,k,c⟩:=val j u h
  have ok:=w2.okS j u0 e
  refine ⟨by rw [k.d,k.v,k.L];exact ok.rep,fun hf=>?_,fun c hc=>srcs c (ok.src c (by rw [<- k.L];exact hc))⟩
  obtain ⟨m,a,L',v1,v2,v3,v4⟩:=ok.own (fun q=>hf (k.z.mpr q))
  refine ⟨by rw [k.d];exact m,a,L',by rw [k.v];exact v1,by rw [k.L];exact v2,v3,fun hu=>?_⟩
  rcases c with ⟨q,rfl⟩ | ⟨nj,rfl⟩
  ·cases hf0:u0.f with
   | u=>exact may a (v4 hf0)
   | l =>
    have hl:=w2.fx.lvS j u0 e hf0
    have hl:(if j ∈ is then (g j).map (·.v) else G.lv j)=some u0.v:=hl
    rw [if_pos q] at hl
    obtain ⟨y,ey,ev⟩:=AU.mp hl
    have yu:=his j q y ey
    obtain ⟨_,a',L'',b1,_,_,b4⟩:=(w.okS j y ey).own (by rw [yu];intro q;cases q)
    rw [ev,v1] at b1;cases b1
    exact b4 yu
   | z=>exact absurd (unlF_z.mpr hf0) hf
  ·exact may a (v4 hu)
 ·rcases A0.mp hu with hu | hu
  ·have ok:=w2.okT u (AV _ hu)
   refine ⟨ok.rep,fun hf=>?_,fun c hc=>srcs c (ok.src c hc)⟩
   obtain ⟨m,a,L',v1,v2,v3,v4⟩:=ok.own hf
   exact ⟨m,a,L',v1,v2,v3,fun h=>may a (v4 h)⟩
  ·have ok:=w.okT u (tm u hu)
   exact ⟨(w2.okT (bL u) (AW _ (A6.mpr ⟨u,hu,rfl⟩))).rep,ok.own,ok.src⟩
 ·obtain ⟨a0,e1,k1,_⟩:=val i a ha
  obtain ⟨b0,e2,k2,_⟩:=val j b hb
  exact k1.noRoot k2 (w2.ss i j a0 b0 n e1 e2)
 ·obtain ⟨a0,e1,k1,_⟩:=val j a h
  rcases A0.mp hb with hb | hb
  ·exact k1.apart (Fk.refl b) (w2.st j a0 e1 b (AV _ hb))
  ·have:=w2.st j a0 e1 (bL b) (AW _ (A6.mpr ⟨b,hb,rfl⟩))
   exact k1.apart (y:=bL b) ⟨rfl,rfl,rfl,lentF_z.symm⟩ this
 ·have h:=List.pairwise_append.mp w2.tt
  refine List.pairwise_append.mpr ⟨h.1,w.tt.sublist hT,fun a ha b hb=>?_⟩
  exact (Fk.refl a).apart (y:=bL b) ⟨rfl,rfl,rfl,lentF_z.symm⟩ (h.2.2 a ha (bL b) (A6.mpr ⟨b,hb,rfl⟩))
 ·have hb:=w.base b o e n
  refine w2.base b o hb fun q=>?_
  rcases may b (.inr q) with h | h
  ·rw [e] at h;cases h
  ·exact n h
 ·rcases A0.mp hu with hu | hu
  ·exact w2.fx.frT u (AV _ hu)
  ·exact w.fx.frT u (tm u hu)
 ·obtain ⟨u0,e,k,_⟩:=val j u h
  exact w2.fx.frS j u0 e hp (fun q=>hf (k.z.mpr q)) a (by rw [<- k.v];exact ea)
 ·obtain ⟨o,ho⟩:=w.fx.bin b hb
  exact dom b o ho
 ·obtain ⟨u0,e,k,c⟩:=val j u h
  rcases c with ⟨q,rfl⟩ | ⟨q,rfl⟩
  ·exact absurd hl (ze _)
  ·have:=w2.fx.lvS j u e hl
   have this:(if j ∈ is then (g j).map (·.v) else G.lv j)=some u.v:=this
   rw [if_neg q] at this
   exact this
theorem yh {is:List Nat} (w:Wf K G H σ ρ T g) (his:∀ i ∈ is,∀ y,g i=some y->y.f=.u):∀ (H':Hp) (σ':St) (ρ2:Sto) (T2:List It3) (g2:Nat->Option It3),Wf K (fw G H g is) H' σ' ρ2 T2 g2->∃ g3,Wf K G H' σ' (aS gX is ρ2) [] g3 :=
 fun H' σ' ρ2 T2 g2 w2=>⟨_,by simpa using Wf.leave (T':=[]) (R:=[]) w his (List.nil_sublist T) (by simpa using w2.sub (List.nil_sublist T2))⟩
end
end L3
end
section
namespace L3
open PySem L2
section
variable {K:FG} {G G0:Gm} {W W0:D->Sto->Prop} {H H':Hp} {σ:St} {ρ ρ':Sto} {T T':List It3} {g:Nat->Option It3} {x y z:It3} {α β:Type}
noncomputable def Walk (K:FG) (J:It) (H1:Hp) (ys:List It3) (ds:List D):Prop:=∃ els:List It3,(∀ x ∈ els,x.f=.z/\Rep K H1 x.d x.v x.L/\∀ c ∈ x.L,eB ys c) /\
 ∀ (M:Addr->Prop) (H':Hp),(∀ b,M b->MutAt H1 b)->(∀ b o,H1 b=some o->¬ M b->H' b=some o)->(∀ y ∈ ys,∀ b ∈ y.L,¬ M b) ->
  (∀ (i:Nat) (d:D),ds[i]?=some d->J.go i H'/\∀ x H'',J.yld i H' x H''->∃ w,New K H' H'' (eF els) w/\w.d=d/\w.f=.z/\w.v=x)/\J.stop ds.length H'
noncomputable abbrev IM:=M3 (List R3 × List D)
noncomputable def EndI (K:FG) (G:Gm) (W:D->Sto->Prop) (σ:St) (T:List It3) (ρ':Sto) (R:It->Hp->Prop):Except D (List R3 × List D)->Prop
 | .ok p=>∀ J H1 vs Ts g1 ys,Wf K G H1 σ ρ' (Ts ++ T) g1->Ars σ p.1 vs Ts->(∀ y ∈ ys,(∃ i,i ∈ pls p.1/\g1 i=some y)\/y ∈ Ts)->Walk K J H1 ys p.2->R J H1
 | .error e=>W e ρ'
noncomputable def tI (K:FG) (G0:Gm) (W0:D->Sto->Prop) (m:IM):TI:=fun σ H R=>∃ G W,Le K G W G0 W0/\∃ ρ T g r ρ',Wf K G H σ ρ T g/\m ρ=some (r,ρ')/\EndI K G W σ T ρ' R r
theorem tI.seq {m:IM} {k:List R3 × List D->M3 β} {r:Except D β} {P:It->Hp->Prop} (le:Le K G W G0 W0) (w:Wf K G H σ ρ T g) (e:ag m k ρ=some (r,ρ')) (he:∀ x,r=.error x->W x ρ')
  (h:∀ p ρ1,k p ρ1=some (r,ρ')->EndI K G W σ T ρ1 P (.ok p)):tI K G0 W0 m σ H P:=by
 unfold ag at e
 cases q:m ρ with
 | none=>rw [q] at e;exact nsE e
 | some p =>
  obtain ⟨o,ρ1⟩:=p
  rw [q] at e
  cases o with
  | error x=>cases e;exact ⟨G,W,le,ρ,T,g,.error x,ρ',w,q,he x rfl⟩
  | ok ra=>exact ⟨G,W,le,ρ,T,g,.ok ra,ρ1,w,q,h ra ρ1 e⟩
noncomputable def Bnd (K:FG) (pr:Nat->Bool) (tg:TG) (bnd:D->Sto->Option Sto):Prop:=∀ (G:Gm) (H:Hp) (σ:St) (ρ ρ1:Sto) (T:List It3) (g:Nat->Option It3) (w:It3) (Q:St->Hp->Prop),G.pr=pr->w.f=.z->Wf K G H σ ρ (w :: T) g->bnd w.d ρ=some ρ1 ->
 (∀ σ2 g2,Wf K G H σ2 ρ1 T g2->Q σ2 H)->tg w.v σ H Q
noncomputable def ao (i:Nat) (d:D) (ρ:Sto):Option Sto:=if i < ρ.length then some (ρ.set i (some (d,.z))) else none
set_option tactic.hygienic true in
theorem aU {pr:Nat->Bool} {i:Nat} (hp:pr i=false):Bnd K pr (r0 i) (ao i):=fun G H σ ρ ρ1 T g w Q hpr hz wf e q=>by
 unfold ao at e
 split at e
 ·rename_i hi
  cases e
  exact q _ _ (wf.store (f:=.z) hi (by rw [hpr];exact hp) (.inr rfl) (by intro h;cases h))
 ·exact nsE e
noncomputable def wL (K:FG) (pr:Nat->Bool) (tg:TGs) (bnd:List D->Sto->Option Sto):Prop:=∀ (G:Gm) (H:Hp) (σ:St) (ρ ρ1:Sto) (T:List It3) (g:Nat->Option It3) (ws:List It3) (Q:St->Hp->Prop),G.pr=pr->(∀ w ∈ ws,w.f=.z)->Wf K G H σ ρ (ws ++ T) g->bnd (ws.map (·.d)) ρ=some ρ1 ->
 (∀ σ2 g2,Wf K G H σ2 ρ1 T g2->Q σ2 H)->tg (ws.map (·.v)) σ H Q
noncomputable def mh:List D->Sto->Option Sto
 | [],ρ=>some ρ
 | _,_=>none
noncomputable def cw (b:D->Sto->Option Sto) (bs:List D->Sto->Option Sto):List D->Sto->Option Sto
 | [],_=>none
 | d :: ds,ρ=>match b d ρ with
  | some ρ1=>bs ds ρ1
  | none=>none
theorem pW {pr:Nat->Bool}:wL K pr gNil mh:=fun G H σ ρ ρ1 T g ws Q _ _ wf e q=>by
 cases ws with
 | nil=>cases e;exact ⟨rfl,q _ _ wf⟩
 | cons w ws=>exact nsE e
theorem ke {pr:Nat->Bool} {tg:TG} {tgs:TGs} {b:D->Sto->Option Sto} {bs:List D->Sto->Option Sto} (h1:Bnd K pr tg b) (h2:wL K pr tgs bs):wL K pr (y8 tg tgs) (cw b bs):=fun G H σ ρ ρ1 T g ws Q hpr hz wf e q=>by
 cases ws with
 | nil=>exact nsE e
 | cons w ws =>
  have e:(match b w.d ρ with | some ρ1=>bs (ws.map (·.d)) ρ1 | none=>none)=some ρ1:=e
  cases q1:b w.d ρ with
  | none=>rw [q1] at e;exact nsE e
  | some ρ2 =>
   rw [q1] at e
   exact ⟨w.v,ws.map (·.v),rfl,h1 G H σ ρ ρ2 (ws ++ T) g w _ hpr (hz w AR) wf q1 fun σ2 g2 w2=>h2 G H σ2 ρ2 ρ1 T g2 ws Q hpr (fun x hx=>hz x (AS _ hx)) w2 e q⟩
noncomputable def mf (n:Nat) (bs:List D->Sto->Option Sto):D->Sto->Option Sto
 | .tup ds,ρ=>if ds.length=n then bs ds ρ else none
 | _,_=>none
theorem Reps.split:∀ {ds:List D} {vs:List V} {L:List Addr},Reps (Rep K H) ds vs L->∃ ws:List It3,ws.map (·.d)=ds/\ws.map (·.v)=vs/\(∀ w ∈ ws,w.f=.z/\Rep K H w.d w.v w.L/\∀ c ∈ w.L,c ∈ L)
 | _,_,_,.nil=>⟨[],rfl,rfl,fun _ h=>(by cases h)⟩
 | _,_,_,.cons (d:=d) (v:=v) (L:=L) r rs=>by
  obtain ⟨ws,h1,h2,h3⟩:=Reps.split rs
  refine ⟨⟨d,v,L,.z⟩ :: ws,by simp [h1],by simp [h2],fun w hw=>?_⟩
  rcases AX.mp hw with h | h
  ·subst h;exact ⟨rfl,r,fun c hc=>AV _ hc⟩
  ·exact ⟨(h3 w h).1,(h3 w h).2.1,fun c hc=>AW _ ((h3 w h).2.2 c hc)⟩
theorem Wf.pushAll:∀ {ws:List It3} {T:List It3},Wf K G H σ ρ T g->(∀ w ∈ ws,w.f=.z/\Rep K H w.d w.v w.L/\∀ c ∈ w.L,eS T g c/\(G.H0 c=none\/G.src c))->Wf K G H σ ρ (ws ++ T) g
 | [],T,w,_=>w
 | x :: ws,T,w,h=>by
  have w1:=Wf.pushAll (ws:=ws) w fun y hy=>h y (AS _ hy)
  obtain ⟨hz,hr,hc⟩:=h x AR
  refine w1.push (Ks:=fun c=>c ∈ x.L) ⟨Same.refl _,hr,fun c h=>.inr h,fun q=>absurd hz q⟩ fun c m=>⟨⟨(hc c m).1.1,fun y hy hf=>?_⟩,(hc c m).2⟩
  rcases A0.mp hy with q | q
  ·exact absurd (h y (AS _ q)).1 hf
  ·exact (hc c m).1.2 y q hf
set_option tactic.hygienic true in
theorem sy {pr:Nat->Bool} {n:Nat} {tgs:TGs} {bs:List D->Sto->Option Sto} (h2:wL K pr tgs bs):Bnd K pr (gTup K n tgs) (mf n bs):=fun G H σ ρ ρ1 T g w Q hpr hz wf e q=>by
 have r:=(wf.okT w AR).rep
 obtain ⟨d,v,L,f⟩:=w
 cases r with
 | @tup xs a vs _ hs rs =>
  have e:(if xs.length=n then bs xs ρ else none)=some ρ1:=e
  split at e
  ·rename_i hl
   obtain ⟨ws,h1,h3,h4⟩:=Reps.split rs
   refine ⟨a,vs,rfl,SqT.of hs,?_,?_⟩
   ·rw [<- h3,A2,<- hl,<- h1,A2]
   ·have w1:Wf K G H σ ρ (ws ++ (⟨.tup xs,.ref a,L,f⟩ :: T)) g:=wf.pushAll fun u hu=>⟨(h4 u hu).1,(h4 u hu).2.1,fun c hc=>⟨wf.kid (y:=⟨.tup xs,.ref a,L,f⟩) (.inr AR) ((h4 u hu).2.2 c hc) fun hf=>absurd hz hf,(wf.okT _ AR).src c ((h4 u hu).2.2 c hc)⟩⟩
    have w2:Wf K G H σ ρ (ws ++ T) g:=w1.sub ((List.Sublist.refl ws).append (List.sublist_cons_self _ _))
    rw [<- h3]
    exact h2 G H σ ρ ρ1 T g ws Q hpr (fun u hu=>(h4 u hu).1) w2 (by rw [h1];exact e) q
  ·exact nsE e
 | non=>exact nsE e
 | bl b=>exact nsE e
 | int i=>exact nsE e
 | str s=>exact nsE e
 | lst _ _=>exact nsE e
 | lstF _ _=>exact nsE e
 | dK _ _ _=>exact nsE e
 | dT _ _ _=>exact nsE e
 | exc _ _=>exact nsE e
noncomputable def dA (bnd:D->Sto->Option Sto) (b:SM):List D->SM
 | []=>bI .nx
 | d :: ds=>fun ρ=>match bnd d ρ with
  | none=>none
  | some ρ1=>ag b (fun f=>match f with
   | .nx=>dA bnd b ds
   | .ct=>dA bnd b ds
   | .br=>bI .nx
   | .rt d f=>bI (.rt d f)) ρ1
noncomputable def ci (im:IM) (bnd:D->Sto->Option Sto) (b:SM):SM:=ag im fun p=>fun ρ=>(dA bnd b p.2 (aS d5 (us ρ (pls p.1)) ρ)).map fun r=>(r.1,aS gX (us ρ (pls p.1)) r.2)
theorem us_u {is:List Nat} (w:Wf K G H σ ρ T g):∀ i ∈ us ρ is,∀ y,g i=some y->y.f=.u:=fun i hi y ey=>by
 have h:=(Br.mp hi).2
 have s:=w.sl i
 rw [ey] at s
 have s:some (y.d,y.f)=(ρ[i]?).join:=s
 rw [<- s] at h
 cases hf:y.f with
 | u=>rfl
 | l=>rw [hf] at h;cases h
 | z=>rw [hf] at h;cases h
theorem uq {is:List Nat} {i:Nat} (w:Wf K G H σ ρ T g) (hi:i ∈ is) (ey:g i=some y) (hf:y.f=.u):i ∈ us ρ is:=by
 refine Br.mpr ⟨hi,?_⟩
 have s:=w.sl i
 rw [ey] at s
 have s:some (y.d,y.f)=(ρ[i]?).join:=s
 rw [<- s,hf]
theorem zq {im:IM} {bnd:D->Sto->Option Sto} {b:SM} {tg:TG} {E:Ends} (hb:Bnd K G0.pr tg bnd) (h:tS K G0 W0 (ci im bnd b) E σ H):tFor (tI K G0 W0 im) tg (tS K G0 W0 b) E σ H:=by
 refine h.use fun G W le ρ T g r ρ' w e q=>?_
 refine tI.seq le w e q.err fun p ρ1 e1=>?_
 intro J H1 vs Ts g1 ys w1 a1 hys hw
 have his:=us_u (is:=pls p.1) w1
 have hus:∀ i y,i ∈ pls p.1->g1 i=some y->y.f=.u->i ∈ us ρ1 (pls p.1):=fun i y hi ey hf=>uq w1 hi ey hf
 generalize us ρ1 (pls p.1)=is at e1 his hus
 have w2:=w1.enter is
 obtain ⟨els,hels,walk⟩:=hw
 have hM:∀ b,(∃ j y,j ∉ is/\g1 j=some y/\y.f=.u/\y.v=.ref b)->MutAt H1 b:=fun b ⟨j,y,_,ey,hf,hv⟩=>by
  obtain ⟨_,a,L',v1,v2,_⟩:=(w1.okS j y ey).own (by rw [hf];intro q;cases q)
  rw [hv] at v1;cases v1
  exact (w1.okS j y ey).rep.inH b (by rw [v2];exact AR)
 have hysM:∀ y ∈ ys,∀ b ∈ y.L,¬ ∃ j y,j ∉ is/\g1 j=some y/\y.f=.u/\y.v=.ref b:=fun y hy b hb ⟨j,y',nj,ey',hf,hv⟩=>by
  have hfz:y'.f ≠ .z:=by rw [hf];intro q;cases q
  rcases hys y hy with ⟨i,hi,ei⟩ | hy
  ·by_cases ij:i=j
   ·subst ij
    rw [ei] at ey';cases ey'
    exact nj (hus i y hi ei hf)
   ·exact w1.ss j i y' y (Ne.symm ij) ey' ei hfz b hv hb
  ·exact (w1.st j y' ey' y (AV _ hy)).1 hfz b hv hb
 have hitm:∀ y ∈ ys,Itm (Ts ++ T) g1 y:=fun y hy=>by
  rcases hys y hy with ⟨i,_,ei⟩ | h
  ·exact .inl ⟨i,ei⟩
  ·exact .inr (AV _ h)
 have kid:∀ x ∈ els,∀ c ∈ x.L,eS ((Ts ++ T).map bL) (fun j=>if j ∈ is then (g1 j).map bL else g1 j) c/\(H1 c=none\/(G.H0 c=none\/G.src c)):=fun x hx c hc=>by
  obtain ⟨nr,sr⟩:=w1.kids hitm ((hels x hx).2.2 c hc)
  refine ⟨⟨fun i z ez hf hv=>?_,fun z hz hf hv=>?_⟩,.inr sr⟩
  ·have ez:(if i ∈ is then (g1 i).map bL else g1 i)=some z:=ez
   by_cases q:i ∈ is
   ·rw [if_pos q] at ez
    obtain ⟨z0,e0,e1⟩:=AU.mp ez
    subst e1
    exact nr.1 i z0 e0 (fun q=>hf (lentF_z.mpr q)) hv
   ·rw [if_neg q] at ez
    exact nr.1 i z ez hf hv
  ·obtain ⟨z0,h0,rfl⟩:=A6.mp hz
   exact nr.2 z0 h0 (fun q=>hf (lentF_z.mpr q)) hv
 have w3:Wf K (fw G H1 g1 is) H1 σ (aS d5 is ρ1) (els ++ (Ts ++ T).map bL) (fun j=>if j ∈ is then (g1 j).map bL else g1 j):=w2.pushAll fun x hx=>⟨(hels x hx).1,(hels x hx).2.1,fun c hc=>kid x hx c hc⟩
 cases e2:dA bnd b p.2 (aS d5 is ρ1) with
 | none=>rw [e2] at e1;exact nsE e1
 | some rr =>
  obtain ⟨r2,ρ3⟩:=rr
  rw [e2] at e1
  have er:r2=r/\aS gX is ρ3 = ρ':=by cases e1;exact ⟨rfl,rfl⟩
  obtain ⟨rfl,eρ⟩:=er
  have leave:∀ {σ':St} {H':Hp} {ρ2:Sto} {g2:Nat->Option It3} {R:List It3},Wf K (fw G H1 g1 is) H' σ' ρ2 (R ++ (els ++ (Ts ++ T).map bL)) g2->∃ g3,Wf K G H' σ' (aS gX is ρ2) (R ++ T) g3:=fun {σ' H' ρ2 g2 R} w4 =>
   ⟨_,Wf.leave (T:=Ts ++ T) (T':=T) (R:=R) w1 his (A5 Ts T) (w4.sub ((List.Sublist.refl R).append (by
    rw [List.map_append]
    exact (A5 (Ts.map bL) (T.map bL)).trans (A5 els _))))⟩
  have le1:Le K (fw G H1 g1 is) (fun e ρ2=>W e (aS gX is ρ2)) G W:=⟨rfl,fun H' σ' ρ2 T2 g2 e w4 he=>by
   obtain ⟨g3,w5⟩:=yh w1 his H' σ' ρ2 T2 g2 w4
   exact ⟨_,[],g3,w5,he⟩⟩
  have le':Le K (fw G H1 g1 is) (fun e ρ2=>W e (aS gX is ρ2)) G0 W0:=le1.trans le
  refine ⟨fun k m σ' H'=>k<=p.2.length/\m=p.2.length - k/\∃ ρ2 g2,Wf K (fw G H1 g1 is) H' σ' ρ2 (els ++ (Ts ++ T).map bL) g2/\dA bnd b (p.2.drop k) ρ2=some (r2,ρ3),⟨_,Nat.zero_le _,rfl,_,_,w3,e2⟩,?_⟩
  rintro k m σ' H' ⟨hk,rfl,ρ2,g2,w4,e4⟩
  obtain ⟨wgo,wstop⟩:=walk _ H' hM (fun b o hb hn=>w4.base b o hb hn) hysM
  by_cases hlt:k < p.2.length
  ·obtain ⟨d,hd⟩:∃ d,p.2[k]?=some d:=⟨_,AY hlt⟩
   have hdrop:p.2.drop k=d :: p.2.drop (k+1):=by
    rw [List.drop_eq_getElem_cons hlt]
    rw [AY hlt] at hd
    cases hd;rfl
   rw [hdrop] at e4
   obtain ⟨go,yld⟩:=wgo k d hd
   refine .inr ⟨go,fun σ5 H5=>∃ ρ5 g5,Wf K (fw G H1 g1 is) H5 σ5 ρ5 (els ++ (Ts ++ T).map bL) g5/\dA bnd b (p.2.drop (k+1)) ρ5=some (r2,ρ3),fun σ5 H5 ⟨ρ5,g5,w5,e5⟩=>⟨p.2.length - (k+1),by omega,hlt,rfl,ρ5,g5,w5,e5⟩,fun x H'' hy=>?_⟩
   obtain ⟨u,nu,ud,uf,uv⟩:=yld x H'' hy
   have w5:Wf K (fw G H1 g1 is) H'' σ' ρ2 (u :: (els ++ (Ts ++ T).map bL)) g2:=w4.push nu fun c hc=>w4.alls (ys:=els) (fun y hy=>⟨.inr (AV _ hy),(hels y hy).1⟩) hc
   have e5:(match bnd d ρ2 with
    | none=>none
    | some ρ1=>ag b (fun f=>match f with
     | .nx=>dA bnd b (p.2.drop (k+1))
     | .ct=>dA bnd b (p.2.drop (k+1))
     | .br=>bI .nx
     | .rt d f=>bI (.rt d f)) ρ1)=some (r2,ρ3):=e4
   cases e6:bnd d ρ2 with
   | none=>rw [e6] at e5;exact nsE e5
   | some ρ6 =>
    rw [e6] at e5
    dsimp only at e5
    rw [<- uv]
    refine hb (fw G H1 g1 is) H'' σ' ρ2 ρ6 _ g2 u _ le.pr uf w5 (by rw [ud];exact e6) fun σ6 g6 w6=>?_
    unfold ag at e5
    cases e7:b ρ6 with
    | none=>rw [e7] at e5;exact nsE e5
    | some pr7 =>
     obtain ⟨o7,ρ7⟩:=pr7
     rw [e7] at e5
     cases o7 with
     | error er =>
      cases e5
      refine tS.mk (r:=.error er) le' w6 e7 ?_
      show W er (aS gX is _)
      rw [eρ];exact q
     | ok f =>
      cases f with
      | nx=>exact tS.mk (r:=.ok .nx) le' w6 e7 fun σ8 H8 g8 w8=>⟨ρ7,g8,w8,e5⟩
      | ct=>exact tS.mk (r:=.ok .ct) le' w6 e7 fun σ8 H8 g8 w8=>⟨ρ7,g8,w8,e5⟩
      | br =>
       cases e5
       refine tS.mk (r:=.ok .br) le' w6 e7 fun σ8 H8 g8 w8=>?_
       obtain ⟨g9,w9⟩:=leave (R:=[]) w8
       rw [eρ] at w9
       exact q _ _ _ w9
      | rt d' f' =>
       cases e5
       refine tS.mk (r:=.ok (.rt d' f')) le' w6 e7 fun x8 σ8 H8 g8 w8 x1 x2=>?_
       obtain ⟨g9,w9⟩:=leave (R:=[x8]) w8
       rw [eρ] at w9
       exact q x8 _ _ _ w9 x1 x2
  ·have ek:k=p.2.length:=by omega
   subst ek
   rw [List.drop_length] at e4
   cases e4
   obtain ⟨g9,w9⟩:=leave (R:=[]) w4
   rw [eρ] at w9
   exact .inl ⟨wstop,q _ _ _ w9⟩
end
end L3
end
section
namespace L3
open PySem L2
noncomputable def t5 (ix:List (Option Nat)) (ρ:Sto):Sto:=ix.map fun o=>match o with
 | some i=>(ρ[i]?).join
 | none=>none
noncomputable def uncap:List (Option Nat)->Sto->Sto->Option Sto
 | [],_,ρ=>some ρ
 | none :: ix,τ,ρ=>uncap ix τ.tail ρ
 | some i :: ix,τ,ρ=>match (ρ[i]?).join,τ.head? with
  | some (_,f),some (some (d',f'))=>if f'=f\/f'=.z then uncap ix τ.tail (ρ.set i (some (d',f'))) else none
  | _,_=>none
noncomputable def cn (bnd:D->Sto->Option Sto) (c:M3 Bool) (elt:EM):List D->M3 (List D)
 | []=>bI []
 | d :: ds=>fun τ=>match bnd d τ with
  | none=>none
  | some τ1=>ag c (fun b=>if b then ag elt (fun r=>ag (gP r) fun p=>ag (cn bnd c elt ds) fun l=>bI (p.1 :: l)) else cn bnd c elt ds) τ1
noncomputable def bP (im:IM) (bnd:D->Sto->Option Sto) (c:M3 Bool) (elt:EM) (ix:List (Option Nat)):EM:=ag im fun p=>fun ρ =>
 match cn bnd c elt p.2 (t5 ix (aS d5 (us ρ (pls p.1)) ρ)) with
 | some (.ok ds,τ)=>if p.2.length < 16777216 then (uncap ix τ (aS d5 (us ρ (pls p.1)) ρ)).map fun ρ2=>(.ok (.val (.lst ds) .u),aS gX (us ρ (pls p.1)) ρ2) else none
 | _=>none
section
variable {K:FG} {G G0:Gm} {W W0:D->Sto->Prop} {H H':Hp} {σ τ:St} {ρ ρ':Sto} {T T':List It3} {g:Nat->Option It3} {x y z:It3} {α β:Type} {ix:List (Option Nat)}
noncomputable def Inj (ix:List (Option Nat)):Prop:=∀ (j k i:Nat),ix[j]?=some (some i)->ix[k]?=some (some i)->j=k
noncomputable def yo (ix:List (Option Nat)) (g:Nat->Option It3) (j:Nat):Option It3:=(ix[j]?).join.bind g
noncomputable def qy (ix:List (Option Nat)) (n:Nat) (g:Nat->Option It3):List It3:=(List.range n).filterMap fun i=>if some i ∈ ix then none else g i
noncomputable def wu (G:Gm) (ix:List (Option Nat)) (σ:St):Gm:=⟨G.H0,G.bw,fun j=>((ix[j]?).join).isSome,cap ix σ,fun _=>none,G.src,fun j=>(ix[j]?).join.bind G.lv⟩
theorem eU {j:Nat} (h:yo ix g j=some x):∃ i,ix[j]?=some (some i)/\g i=some x:=by
 unfold yo at h
 cases e:ix[j]? with
 | none=>rw [e] at h;exact nsE h
 | some o =>
  rw [e] at h
  cases o with
  | none=>exact nsE h
  | some i=>exact ⟨i,rfl,h⟩
set_option tactic.hygienic true in
theorem lA {n:Nat} (h:x ∈ qy ix n g):∃ i,some i ∉ ix/\g i=some x:=by
 obtain ⟨i,_,e⟩:=List.mem_filterMap.mp h
 split at e
 ·exact nsE e
 ·rename_i hn;exact ⟨i,hn,e⟩
theorem vq {n i:Nat} (hi:i < n) (hn:some i ∉ ix) (e:g i=some x):x ∈ qy ix n g:=List.mem_filterMap.mpr ⟨i,List.mem_range.mpr hi,by rw [if_neg hn];exact e⟩
theorem Wf.cap (w:Wf K G H σ ρ T g) (hij:Inj ix):Wf K (wu G ix σ) H (cap ix σ) (t5 ix ρ) (qy ix ρ.length g ++ T) (yo ix g):=by
 have ne:∀ {i j:Nat},ix[j]?=some (some i)->∀ k,some k ∉ ix->i ≠ k:=fun e k hk q=>hk (by rw [<- q];exact A4 e)
 refine ⟨by unfold L2.cap t5;rw [A2,A2],fun j=>?_,fun j x h=>?_,fun j x h=>?_,fun x hx=>?_,fun j k x y n hx hy=>?_,fun j x h y hy=>?_,?_,w.base,fun _ _=>rfl,⟨fun _ _ _ _ _=>rfl,fun _ _ _ _ _ _ _=>rfl,w.fx.bin,fun b o e=>(by cases e),fun j x h hl=>?_⟩⟩
 ·unfold yo t5
  rw [A7]
  cases e:ix[j]? with
  | none=>rfl
  | some o =>
   cases o with
   | none=>rfl
   | some i=>exact w.sl i
 ·obtain ⟨i,e1,e2⟩:=eU h
  unfold L2.cap
  rw [A7,e1]
  show some ((σ[i]?).getD none)=_
  rw [w.sv i x e2];rfl
 ·obtain ⟨i,_,e2⟩:=eU h
  have ok:=w.okS i x e2
  exact ⟨ok.rep,ok.own,ok.src⟩
 ·rcases A0.mp hx with h | h
  ·obtain ⟨i,_,e⟩:=lA h
   have ok:=w.okS i x e
   exact ⟨ok.rep,ok.own,ok.src⟩
  ·have ok:=w.okT x h
   exact ⟨ok.rep,ok.own,ok.src⟩
 ·obtain ⟨i,e1,e2⟩:=eU hx
  obtain ⟨i',e3,e4⟩:=eU hy
  exact w.ss i i' x y (fun q=>n (hij j k i e1 (q ▸ e3))) e2 e4
 ·obtain ⟨i,e1,e2⟩:=eU h
  rcases A0.mp hy with q | q
  ·obtain ⟨k,hk,e⟩:=lA q
   have:=ne e1 k hk
   exact ⟨w.ss i k x y this e2 e,w.ss k i y x (Ne.symm this) e e2⟩
  ·exact w.st i x e2 y q
 ·refine List.pairwise_append.mpr ⟨?_,w.tt,fun a ha b hb=>?_⟩
  ·unfold qy
   rw [List.pairwise_filterMap]
   refine List.pairwise_lt_range.imp fun {i k} lt a ha b hb=>?_
   have ha':(if some i ∈ ix then none else g i)=some a:=ha
   have hb':(if some k ∈ ix then none else g k)=some b:=hb
   split at ha'
   ·cases ha'
   ·split at hb'
    ·cases hb'
    ·exact ⟨w.ss i k a b (Ba lt) ha' hb',w.ss k i b a (Nat.ne_of_gt lt) hb' ha'⟩
  ·obtain ⟨k,hk,e⟩:=lA ha
   exact w.st k a e b hb
 ·obtain ⟨i,e1,e2⟩:=eU h
  show (ix[j]?).join.bind G.lv=_
  rw [e1]
  exact w.fx.lvS i x e2 hl
theorem Wf.perm {T T':List It3} (w:Wf K G H σ ρ T g) (p:T.Perm T'):Wf K G H σ ρ T' g :=
 ⟨w.len,w.sl,w.sv,w.okS,fun x hx=>w.okT x (p.mem_iff.mpr hx),w.ss,fun i x e y hy=>w.st i x e y (p.mem_iff.mpr hy),(p.pairwise_iff fun h=>Apart3.symm h).mp w.tt,w.base,w.pro,w.fx.sub fun x hx=>p.mem_iff.mpr hx⟩
set_option tactic.hygienic true in
theorem jd:∀ {ix:List (Option Nat)} {τ ρ ρ2:Sto},uncap ix τ ρ=some ρ2->Inj ix->ρ2.length = ρ.length/\(∀ i,some i ∉ ix->(ρ2[i]?).join=(ρ[i]?).join) /\
  ∀ (j i:Nat),ix[j]?=some (some i)->∃ p q,(ρ[i]?).join=some p/\(τ[j]?).join=some q/\(ρ2[i]?).join=some q/\(q.2=p.2\/q.2=.z)
 | [],τ,ρ,ρ2,e,_=>by cases e;exact ⟨rfl,fun _ _=>rfl,fun j i h=>by simp at h⟩
 | none :: ix,τ,ρ,ρ2,e,hij=>by
  unfold uncap at e
  obtain ⟨h1,h2,h3⟩:=jd e fun j k i a b=>by
   have:=hij (j+1) (k+1) i (by simpa using a) (by simpa using b)
   omega
  refine ⟨h1,fun i hi=>h2 i fun q=>hi (AS _ q),fun j i h=>?_⟩
  cases j with
  | zero=>simp at h
  | succ j =>
   obtain ⟨p,q,a,b,c⟩:=h3 j i (by simpa using h)
   exact ⟨p,q,a,by rw [List.getElem?_tail] at b;exact b,c⟩
 | some i0 :: ix,τ,ρ,ρ2,e,hij=>by
  unfold uncap at e
  cases e1:(ρ[i0]?).join with
  | none=>rw [e1] at e;exact nsE e
  | some p =>
   obtain ⟨d,f⟩:=p
   cases e2:τ.head? with
   | none=>rw [e1,e2] at e;exact nsE e
   | some o =>
    cases o with
    | none=>rw [e1,e2] at e;exact nsE e
    | some q =>
     obtain ⟨d',f'⟩:=q
     rw [e1,e2] at e
     dsimp only at e
     split at e
     ·rename_i hf
      have hi0:=eQ e1
      have no0:some i0 ∉ ix:=fun m=>by
       obtain ⟨k,hk,ek⟩:=List.mem_iff_getElem.mp m
       have:=hij 0 (k+1) i0 rfl (by simp [hk,ek])
       omega
      obtain ⟨h1,h2,h3⟩:=jd e fun j k i a b=>by
       have:=hij (j+1) (k+1) i (by simpa using a) (by simpa using b)
       omega
      refine ⟨by rw [h1,List.length_set],fun i hi=>?_,fun j i h=>?_⟩
      ·rw [h2 i fun q=>hi (AS _ q),cr hi0,if_neg (fun q=>hi (by rw [q];exact AR))]
      ·cases j with
       | zero =>
        simp at h
        subst h
        refine ⟨(d,f),(d',f'),e1,?_,?_,hf⟩
        ·rw [List.head?_eq_getElem?] at e2;rw [e2];rfl
        ·rw [h2 i0 no0,cr hi0,if_pos rfl]
       | succ j =>
        have hji:ix[j]?=some (some i):=by simpa using h
        obtain ⟨p,q,a,b,c⟩:=h3 j i hji
        have ii:i ≠ i0:=fun z=>no0 (by rw [<- z];exact A4 hji)
        rw [cr hi0,if_neg ii] at a
        exact ⟨p,q,a,by rw [List.getElem?_tail] at b;exact b,c⟩
     ·exact nsE e
theorem Wf.uncap {τ':St} {τρ ρ2:Sto} {gC:Nat->Option It3} {R:List It3} (w:Wf K G H σ ρ T g) (hH:∀ b o,H b=some o->G.H0 b=some o) (hij:Inj ix) (e:L3.uncap ix τρ ρ=some ρ2) (hR:∀ x ∈ R,x.f=.z) (w2:Wf K (wu G ix σ) H' τ' τρ (R ++ (qy ix ρ.length g ++ T)) gC) :
  ∃ g2,Wf K G H' σ ρ2 (R ++ T) g2:=by
 obtain ⟨hl,h2,h3⟩:=jd e hij
 let inv (i:Nat):Option Nat:=(List.range ix.length).find? fun j=>decide (ix[j]?=some (some i))
 have inv_some:∀ i j,inv i=some j->ix[j]?=some (some i):=fun i j h=>by simpa using List.find?_some h
 have inv_none:∀ i,inv i=none->some i ∉ ix:=fun i h m=>by
  obtain ⟨k,hk,ek⟩:=List.mem_iff_getElem.mp m
  have:=List.find?_eq_none.mp h k (List.mem_range.mpr hk)
  simp [hk,ek] at this
 let g2 (i:Nat):Option It3:=match inv i with | some j=>gC j | none=>g i
 have val:∀ i u,g2 i=some u->(∃ j p q,ix[j]?=some (some i)/\gC j=some u/\(ρ[i]?).join=some p/\(τρ[j]?).join=some q/\(q.2=p.2\/q.2=.z))\/(some i ∉ ix/\g i=some u):=fun i u h=>by
  have h':(match inv i with | some j=>gC j | none=>g i)=some u:=h
  cases ei:inv i with
  | none=>rw [ei] at h';exact .inr ⟨inv_none i ei,h'⟩
  | some j =>
   rw [ei] at h'
   obtain ⟨p,q,a,b,_,c⟩:=h3 j i (inv_some i j ei)
   exact .inl ⟨j,p,q,inv_some i j ei,h',a,b,c⟩
 have out:∀ i u,some i ∉ ix->g i=some u->u ∈ qy ix ρ.length g:=fun i u hn e=>by
  have s:=w.sl i
  rw [e] at s
  exact vq (eQ s.symm) hn e
 have back:∀ i j u,ix[j]?=some (some i)->gC j=some u->σ[i]?=some (some u.v):=fun i j u ej eu=>by
  have a:=w2.sv j u eu
  have b:=w2.pro j (by show ((ix[j]?).join).isSome=true;rw [ej];rfl)
  rw [a] at b
  have b:some (some u.v)=(L2.cap ix σ)[j]?:=b
  unfold L2.cap at b
  rw [A7,ej] at b
  have b:some (some u.v)=some ((σ[i]?).getD none):=b
  cases q:σ[i]? with
  | none=>rw [q] at b;cases b
  | some o=>rw [q] at b;cases b;rfl
 have was:∀ i j u p q,ix[j]?=some (some i)->gC j=some u->(ρ[i]?).join=some p->(τρ[j]?).join=some q->(q.2=p.2\/q.2=.z)->∃ y,g i=some y/\y.v=u.v/\(u.f=y.f\/u.f=.z):=fun i j u p q ej eu ep eq hf=>by
  obtain ⟨y,y1,y2,y3,y4⟩:=w.slot (d:=p.1) (f:=p.2) ep
  have b:=back i j u ej eu
  rw [y4] at b
  have s:=w2.sl j
  rw [eu,eq] at s
  have s:some (u.d,u.f)=some q:=s
  refine ⟨y,y1,by injection b with b;injection b,?_⟩
  rw [y3,show u.f=q.2 by injection s with s;rw [<- s]]
  exact hf
 refine ⟨g2,⟨by rw [hl];exact w.len,fun i=>?_,fun i u h=>?_,fun i u h=>?_,fun u hu=>?_,fun i k a b n ha hb=>?_,fun i a h b hb=>?_,w2.tt.sublist ((List.Sublist.refl R).append (A5 _ T)),w2.base,w.pro,⟨fun u hu hf=>?_,fun i u h hp hf a ea=>?_,w2.fx.bin,fun b o hb=>?_,fun i u h hl=>?_⟩⟩⟩
 ·show (match inv i with | some j=>gC j | none=>g i).map _=_
  cases ei:inv i with
  | none=>rw [h2 i (inv_none i ei)];exact w.sl i
  | some j =>
   obtain ⟨p,q,a,b,c,_⟩:=h3 j i (inv_some i j ei)
   rw [c,<- b];exact w2.sl j
 ·rcases val i u h with ⟨j,p,q,ej,eu,_⟩ | ⟨hn,e⟩
  ·exact back i j u ej eu
  ·exact w.sv i u e
 ·rcases val i u h with ⟨j,p,q,ej,eu,_⟩ | ⟨hn,e⟩
  ·have ok:=w2.okS j u eu
   exact ⟨ok.rep,ok.own,ok.src⟩
  ·have ok:=w2.okT u (AW _ (AV _ (out i u hn e)))
   exact ⟨ok.rep,ok.own,ok.src⟩
 ·have ok:=w2.okT u (by
   rcases A0.mp hu with q | q
   ·exact AV _ q
   ·exact AW _ (AW _ q))
  exact ⟨ok.rep,ok.own,ok.src⟩
 ·rcases val i a ha with ⟨j,p,q,ej,eu,_⟩ | ⟨hn,e⟩
  ·rcases val k b hb with ⟨j',p',q',ej',eu',_⟩ | ⟨hn',e'⟩
   ·exact w2.ss j j' a b (fun z=>n (by subst z;rw [ej] at ej';injection ej' with z;injection z)) eu eu'
   ·exact (w2.st j a eu b (AW _ (AV _ (out k b hn' e')))).1
  ·rcases val k b hb with ⟨j',p',q',ej',eu',_⟩ | ⟨hn',e'⟩
   ·exact (w2.st j' b eu' a (AW _ (AV _ (out i a hn e)))).2
   ·exact w.ss i k a b n e e'
 ·have hb':b ∈ R ++ (qy ix ρ.length g ++ T):=by
   rcases A0.mp hb with q | q
   ·exact AV _ q
   ·exact AW _ (AW _ q)
  rcases val i a h with ⟨j,p,q,ej,eu,_⟩ | ⟨hn,e⟩
  ·exact w2.st j a eu b hb'
  ·rcases A0.mp hb with q | q
   ·exact ((List.pairwise_append.mp w2.tt).2.2 b q a (AV _ (out i a hn e))).symm
   ·exact w.st i a e b q
 ·rcases A0.mp hu with q | q
  ·exact absurd (hR u q) hf
  ·exact w.fx.frT u q hf
 ·rcases val i u h with ⟨j,p,q,ej,eu,ep,eq,hc⟩ | ⟨hn,e⟩
  ·obtain ⟨y,y1,y2,y3⟩:=was i j u p q ej eu ep eq hc
   refine w.fx.frS i y y1 hp (fun z=>hf ?_) a (by rw [y2];exact ea)
   rcases y3 with h | h
   ·rw [h];exact z
   ·exact h
  ·exact w.fx.frS i u e hp hf a ea
 ·obtain ⟨o',ho⟩:=w.fx.ob b o hb
  have h0:=hH b o' ho
  by_cases q:G.bw b
  ·exact w2.fx.bin b q
  ·exact ⟨o',w2.base b o' h0 q⟩
 ·rcases val i u h with ⟨j,p,q,ej,eu,ep,eq,hc⟩ | ⟨hn,e⟩
  ·obtain ⟨y,y1,y2,y3⟩:=was i j u p q ej eu ep eq hc
   rw [<- y2]
   refine w.fx.lvS i y y1 ?_
   rcases y3 with h | h
   ·rw [<- h];exact hl
   ·rw [h] at hl;cases hl
  ·exact w.fx.lvS i u e hl
theorem tY {J:It} {H1:Hp} {ys els:List It3} {ds:List D} {bnd:D->Sto->Option Sto} {c:M3 Bool} {elt:EM} {tg:TG} {tc:TT} {te:TE} {Gc:Gm} {Rst:List It3} {ds':List D} {τρ τρ':Sto} {gC:Nat->Option It3} {Z:List V->Hp->Prop} {M:Addr->Prop}
  (hz:(16777216:Nat)=sizeLine) (hel:∀ x ∈ els,x ∈ Rst/\x.f=.z)
  (hgo:∀ H',(∀ b o,H1 b=some o->¬ Gc.bw b->H' b=some o)->(∀ (i:Nat) (d:D),ds[i]?=some d->J.go i H'/\∀ x H'',J.yld i H' x H''->∃ w,New K H' H'' (eF els) w/\w.d=d/\w.f=.z/\w.v=x)/\J.stop ds.length H')
  (h0:Gc.H0=H1) (hb:Bnd K Gc.pr tg bnd) (htc:∀ σ H Q,tT K Gc (fun _ _=>False) c σ H Q->tc σ H Q) (hte:∀ σ H Q,tE K Gc (fun _ _=>False) elt σ H Q->te σ H Q)
  (hlen:ds.length < 16777216) (w:Wf K Gc H1 τ τρ Rst gC) (e:cn bnd c elt ds τρ=some (.ok ds',τρ'))
  (hZ:∀ (us:List It3) (τ':St) (H':Hp) (g':Nat->Option It3),(∀ x ∈ us,x.f=.z)->us.map (·.d)=ds'->Wf K Gc H' τ' τρ' (us ++ Rst) g'->Z (us.map (·.v)) H'):p9 J tg tc te Z τ H1:=by
 refine ⟨fun i m vs τ' H'=>i<=ds.length/\m=ds.length - i/\vs.length<=i/\∃ (us:List It3) (ρ2:Sto) (g2:Nat->Option It3) (r:List D),(∀ x ∈ us,x.f=.z)/\us.map (·.v)=vs/\Wf K Gc H' τ' ρ2 (us ++ Rst) g2/\cn bnd c elt (ds.drop i) ρ2=some (.ok r,τρ')/\us.map (·.d) ++ r=ds',⟨_,Nat.zero_le _,rfl,A8 _,[],τρ,gC,ds',fun _ h=>(by cases h),rfl,w,e,rfl⟩,?_⟩
 rintro i m vs τ1 H2 ⟨hi,rfl,hvl,us,ρ2,g2,r,huz,huv,w2,e2,hds⟩
 refine ⟨by omega,?_⟩
 obtain ⟨wgo,wstop⟩:=hgo H2 fun b o hb' hn=>w2.base b o (by rw [h0];exact hb') hn
 by_cases hlt:i < ds.length
 ·obtain ⟨d,hd⟩:∃ d,ds[i]?=some d:=⟨_,AY hlt⟩
  have hdrop:ds.drop i=d :: ds.drop (i+1):=by
   rw [List.drop_eq_getElem_cons hlt]
   rw [AY hlt] at hd
   cases hd;rfl
  rw [hdrop] at e2
  obtain ⟨go,yld⟩:=wgo i d hd
  refine .inr ⟨go,fun vs5 τ5 H5=>vs5.length<=i+1/\∃ (us:List It3) (ρ5:Sto) (g5:Nat->Option It3) (r:List D),(∀ x ∈ us,x.f=.z)/\us.map (·.v)=vs5/\Wf K Gc H5 τ5 ρ5 (us ++ Rst) g5/\cn bnd c elt (ds.drop (i+1)) ρ5=some (.ok r,τρ')/\us.map (·.d) ++ r=ds',
   fun vs5 τ5 H5 ⟨hl5,h5⟩=>⟨ds.length - (i+1),by omega,hlt,rfl,hl5,h5⟩,fun x H'' hy=>?_⟩
  obtain ⟨u,nu,ud,uf,uv⟩:=yld x H'' hy
  have w3:Wf K Gc H'' τ1 ρ2 (u :: (us ++ Rst)) g2:=w2.push nu fun c hc=>w2.alls (ys:=els) (fun y hy=>⟨.inr (AW _ (hel y hy).1),(hel y hy).2⟩) hc
  have e3:(match bnd d ρ2 with
   | none=>none
   | some τ1=>ag c (fun b=>if b then ag elt (fun r=>ag (gP r) fun p=>ag (cn bnd c elt (ds.drop (i+1))) fun l=>bI (p.1 :: l)) else cn bnd c elt (ds.drop (i+1))) τ1)=some (.ok r,τρ'):=e2
  cases e4:bnd d ρ2 with
  | none=>rw [e4] at e3;exact nsE e3
  | some ρ3 =>
   rw [e4] at e3
   dsimp only at e3
   rw [<- uv]
   refine hb Gc H'' τ1 ρ2 ρ3 _ g2 u _ rfl uf w3 (by rw [ud];exact e4) fun τ4 g4 w4=>?_
   refine htc _ _ _ (tT.seq (Le.refl K Gc _) w4 e3 (fun x hx=>by cases hx) fun b ρ5 e5 H5 g5 w5=>?_)
   cases b with
   | false =>
    simp only [Bq,if_false] at e5 ⊢
    exact ⟨by omega,us,ρ5,g5,r,huz,huv,w5,e5,hds⟩
   | true =>
    simp only [if_true] at e5 ⊢
    refine hte _ _ _ (tE.seq (Le.refl K Gc _) w5 e5 (fun x hx=>by cases hx) fun ra ρ6 e6 v H6 ⟨Ts,g6,w6,a6⟩=>?_)
    obtain ⟨p,ρ7,g7,x7,e7,w7,f1,f2,_,f3⟩:=a6.take w6 e6
    have w8:=Wf.lowT (Ts:=[x7]) w7
    unfold ag at e7
    cases e8:cn bnd c elt (ds.drop (i+1)) ρ7 with
    | none=>rw [e8] at e7;exact nsE e7
    | some pr =>
     obtain ⟨o,ρ8⟩:=pr
     rw [e8] at e7
     cases o with
     | error x=>cases e7
     | ok l =>
      cases e7
      refine ⟨by rw [Bi];simp;omega,us ++ [eA x7],ρ7,g7,l,fun y hy=>?_,by rw [List.map_append,huv,<- f3];rfl,?_,e8,?_⟩
      ·rcases A0.mp hy with h | h
       ·exact huz y h
       ·rw [Bp.mp h];rfl
      ·exact w8.perm (by
        show ([eA x7] ++ (us ++ Rst)).Perm (us ++ [eA x7] ++ Rst)
        rw [<- List.append_assoc]
        exact (List.perm_append_comm).append_right Rst)
      ·rw [List.map_append,List.append_assoc]
       show us.map (·.d) ++ ((eA x7).d :: l)=ds'
       rw [show (eA x7).d=p.1 from f1]
       exact hds
 ·have ei:i=ds.length:=by omega
  subst ei
  rw [List.drop_length] at e2
  cases e2
  rw [List.append_nil] at hds
  subst huv
  exact .inl ⟨wstop,hZ us τ1 H2 g2 huz hds w2⟩
end
end L3
end
section
namespace L3
open PySem L2
section
variable {K:FG} {G G0:Gm} {W W0:D->Sto->Prop} {H H':Hp} {σ τ:St} {ρ ρ':Sto} {T T':List It3} {g:Nat->Option It3} {x y z:It3} {α β:Type} {ix:List (Option Nat)}
noncomputable def cj (ix:List (Option Nat)):Gm:=⟨fun _=>none,fun _=>False,fun j=>((ix[j]?).join).isSome,[],fun _=>none,fun _=>False,fun _=>none⟩
noncomputable abbrev noX:D->Sto->Prop:=fun _ _=>False
theorem rR {G1:Gm} (h:G1.pr=(cj ix).pr) (le:Le K G W G1 noX):Le K G W (cj ix) noX:=⟨le.pr.trans h,fun H σ ρ T g e w q=>by
 obtain ⟨_,_,_,_,f⟩:=le.ex H σ ρ T g e w q
 exact f.elim⟩
theorem wU {G1:Gm} {m:EM} {Q:VK} (h:G1.pr=(cj ix).pr) (q:tE K G1 noX m σ H Q):tE K (cj ix) noX m σ H Q:=by
 obtain ⟨G,W,le,r⟩:=q
 exact ⟨G,W,rR h le,r⟩
theorem wP {G1:Gm} {m:M3 Bool} {Q:Bool->Hp->Prop} (h:G1.pr=(cj ix).pr) (q:tT K G1 noX m σ H Q):tT K (cj ix) noX m σ H Q:=by
 obtain ⟨G,W,le,r⟩:=q
 exact ⟨G,W,rR h le,r⟩
noncomputable def dD:M3 Bool:=bI true
theorem zg {Q:Bool->Hp->Prop} (h:tT K G0 W0 dD σ H Q):tYes σ H Q:=by
 refine h.use fun G W le ρ T g o ρ' w e q=>?_
 cases e
 exact q _ _ w
set_option tactic.hygienic true in
theorem j8 {bnd:D->Sto->Option Sto} {c:M3 Bool} {elt:EM}:∀ {ds ds':List D} {τρ τρ':Sto},cn bnd c elt ds τρ=some (.ok ds',τρ')->ds'.length<=ds.length
 | [],ds',τρ,τρ',e=>by cases e;exact A8 _
 | d :: ds,ds',τρ,τρ',e=>by
  unfold cn at e
  split at e
  ·exact nsE e
  ·rename_i τ1 _
   unfold ag at e
   split at e
   ·exact nsE e
   ·cases e
   ·rename_i b τ2 _
    cases b with
    | false =>
     simp only [Bq,if_false] at e
     have:=j8 e
     simp;omega
    | true =>
     simp only [if_true] at e
     split at e
     ·exact nsE e
     ·cases e
     ·split at e
      ·exact nsE e
      ·cases e
      ·split at e
       ·exact nsE e
       ·cases e
       ·rename_i l τ5 h5
        cases e
        have:=j8 h5
        simp;omega
set_option tactic.hygienic true in
theorem pM {im:IM} {bnd:D->Sto->Option Sto} {c:M3 Bool} {elt:EM} {tg:TG} {o:Except D R3} {Z:List V->Hp->Prop} (hz:(16777216:Nat)=sizeLine) (hij:Inj ix) (hb:Bnd K (cj ix).pr tg bnd) (le:Le K G W G0 W0) (w:Wf K G H σ ρ T g) (e:bP im bnd c elt ix ρ=some (o,ρ')) (he:∀ x,o=.error x->W x ρ')
  (hZ:∀ (us:List It3) (H':Hp) (g':Nat->Option It3) (Ts:List It3) (ds:List D),o=.ok (.val (.lst ds) .u)->(∀ x ∈ us,x.f=.z)->us.map (·.d)=ds->us.length<=16777216->Wf K G H' σ ρ' (us ++ T) g'->Z (us.map (·.v)) H') :
  tI K G0 W0 im σ H fun J H1=>p9 J tg (tT K (cj ix) noX c) (tE K (cj ix) noX elt) Z (cap ix σ) H1:=by
 refine tI.seq le w e he fun p ρ1 e1=>?_
 intro J H1 vs Ts g1 ys w1 a1 hys hw
 have his:=us_u (is:=pls p.1) w1
 have hus:∀ i y,i ∈ pls p.1->g1 i=some y->y.f=.u->i ∈ us ρ1 (pls p.1):=fun i y hi ey hf=>uq w1 hi ey hf
 generalize us ρ1 (pls p.1)=is at e1 his hus
 have w2:=w1.enter is
 obtain ⟨els,hels,walk⟩:=hw
 have hM:∀ b,(∃ j y,j ∉ is/\g1 j=some y/\y.f=.u/\y.v=.ref b)->MutAt H1 b:=fun b ⟨j,y,_,ey,hf,hv⟩=>by
  obtain ⟨_,a,L',v1,v2,_⟩:=(w1.okS j y ey).own (by rw [hf];intro q;cases q)
  rw [hv] at v1;cases v1
  exact (w1.okS j y ey).rep.inH b (by rw [v2];exact AR)
 have hysM:∀ y ∈ ys,∀ b ∈ y.L,¬ ∃ j y,j ∉ is/\g1 j=some y/\y.f=.u/\y.v=.ref b:=fun y hy b hb ⟨j,y',nj,ey',hf,hv⟩=>by
  have hfz:y'.f ≠ .z:=by rw [hf];intro q;cases q
  rcases hys y hy with ⟨i,hi,ei⟩ | hy
  ·by_cases ij:i=j
   ·subst ij
    rw [ei] at ey';cases ey'
    exact nj (hus i y hi ei hf)
   ·exact w1.ss j i y' y (Ne.symm ij) ey' ei hfz b hv hb
  ·exact (w1.st j y' ey' y (AV _ hy)).1 hfz b hv hb
 have hitm:∀ y ∈ ys,Itm (Ts ++ T) g1 y:=fun y hy=>by
  rcases hys y hy with ⟨i,_,ei⟩ | h
  ·exact .inl ⟨i,ei⟩
  ·exact .inr (AV _ h)
 have kid:∀ x ∈ els,∀ c ∈ x.L,eS ((Ts ++ T).map bL) (fun j=>if j ∈ is then (g1 j).map bL else g1 j) c/\(H1 c=none\/(G.H0 c=none\/G.src c)):=fun x hx c hc=>by
  obtain ⟨nr,sr⟩:=w1.kids hitm ((hels x hx).2.2 c hc)
  refine ⟨⟨fun i z ez hf hv=>?_,fun z hz hf hv=>?_⟩,.inr sr⟩
  ·have ez:(if i ∈ is then (g1 i).map bL else g1 i)=some z:=ez
   by_cases q:i ∈ is
   ·rw [if_pos q] at ez
    obtain ⟨z0,e0,e1⟩:=AU.mp ez
    subst e1
    exact nr.1 i z0 e0 (fun q=>hf (lentF_z.mpr q)) hv
   ·rw [if_neg q] at ez
    exact nr.1 i z ez hf hv
  ·obtain ⟨z0,h0,rfl⟩:=A6.mp hz
   exact nr.2 z0 h0 (fun q=>hf (lentF_z.mpr q)) hv
 have w3:Wf K (fw G H1 g1 is) H1 σ (aS d5 is ρ1) (els ++ (Ts ++ T).map bL) (fun j=>if j ∈ is then (g1 j).map bL else g1 j):=w2.pushAll fun x hx=>⟨(hels x hx).1,(hels x hx).2.1,fun c hc=>kid x hx c hc⟩
 have w4:=w3.cap hij
 cases e2:cn bnd c elt p.2 (t5 ix (aS d5 is ρ1)) with
 | none=>rw [e2] at e1;exact nsE e1
 | some rr =>
  obtain ⟨o2,τρ⟩:=rr
  rw [e2] at e1
  cases o2 with
  | error x=>exact nsE e1
  | ok ds =>
   dsimp only at e1
   split at e1
   ·rename_i hlen
    cases e3:uncap ix τρ (aS d5 is ρ1) with
    | none=>rw [e3] at e1;exact nsE e1
    | some ρ3 =>
     rw [e3] at e1
     have eo:o=.ok (.val (.lst ds) .u)/\ρ'=aS gX is ρ3:=by cases e1;exact ⟨rfl,rfl⟩
     obtain ⟨eo,eρ⟩:=eo
     refine tY (K:=K) (Gc:=wu (fw G H1 g1 is) ix σ) (els:=els) (M:=fun _=>False) (ys:=ys) hz (fun x hx=>⟨AW _ (AV _ hx),(hels x hx).1⟩) (fun H' hk=>walk _ H' hM hk hysM) rfl hb (fun σ' H Q q=>wP (G1:=wu (fw G H1 g1 is) ix σ) rfl q) (fun σ' H Q q=>wU (G1:=wu (fw G H1 g1 is) ix σ) rfl q) hlen w4 e2 fun us τ' H' g' huz hud w5=>?_
     obtain ⟨g6,w6⟩:=Wf.uncap w3 (fun b o h=>h) hij e3 huz w5
     have w7:=Wf.leave (T:=Ts ++ T) (T':=T) (R:=us) w1 his (A5 Ts T) (w6.sub ((List.Sublist.refl us).append (by
      rw [List.map_append]
      exact (A5 (Ts.map bL) (T.map bL)).trans (A5 els _))))
     have hle:us.length<=16777216:=by
      have h1:us.length=ds.length:=by rw [<- hud,A2]
      have h2:=j8 e2
      omega
     rw [<- eρ] at w7
     exact hZ us H' _ Ts ds eo huz hud hle w7
   ·exact nsE e1
theorem mV {us:List It3} {p:Addr} (w:Wf K G H σ ρ (us ++ T) g) (huz:∀ x ∈ us,x.f=.z) (hp:H p=none) :
  Wf K G (upd H p (.lst (us.map (·.v)))) σ ρ (⟨.lst (us.map (·.d)),.ref p,p :: (us.map (·.L)).flatten,.u⟩ :: T) g:=by
 have hi:∀ y ∈ us,Itm (us ++ T) g y/\y.f=.z:=fun y hy=>⟨.inr (AV _ hy),huz y hy⟩
 have np:p ∉ (us.map (·.L)).flatten:=fun hc=>by
  obtain ⟨y,hm,hc⟩:=gi hc
  obtain ⟨o,ho⟩:=((w.itm (hi y hm).1).rep.inH p hc).ex
  rw [hp] at ho;exact nsE ho
 have n:New K H (upd H p (.lst (us.map (·.v)))) (eF us) ⟨.lst (us.map (·.d)),.ref p,p :: (us.map (·.L)).flatten,.u⟩:=⟨bT hp,.lst bd ((kQ fun y hy=>(w.itm (hi y hy).1).rep).same (bT hp)),fun c hc=>by
  rcases AX.mp hc with e | hc
  ·rw [e];exact .inl hp
  ·exact .inr (gi hc),fun _=>⟨rfl,p,_,rfl,rfl,np,hp⟩⟩
 exact (w.push n fun c h=>w.alls hi h).sub (List.Sublist.cons_cons _ (A5 us T))
theorem wX {im:IM} {bnd:D->Sto->Option Sto} {c:M3 Bool} {elt:EM} {tg:TG} {Q:VK} (hz:(16777216:Nat)=sizeLine) (hij:Inj ix) (hb:Bnd K (cj ix).pr tg bnd) (h:tE K G0 W0 (bP im bnd c elt ix) σ H Q) :
  yN (tI K G0 W0 im) tg (tT K (cj ix) noX c) (tE K (cj ix) noX elt) ix σ H Q:=by
 refine h.use fun G W le ρ T g o ρ' w e q=>?_
 refine pM hz hij hb le w e q.err fun us H' g' Ts ds eo huz hud hl w1=>?_
 subst eo hud
 intro p hp
 have w2:=mV w1 huz hp
 exact q (.ref p) _ ⟨[_],g',w2,Ar.val (⟨.lst (us.map (·.d)),.ref p,p :: (us.map (·.L)).flatten,.u⟩:It3)⟩
set_option tactic.hygienic true in
theorem qe {i:Nat} {im:IM} {bnd:D->Sto->Option Sto} {c:M3 Bool} {elt:EM} {tg:TG} {E:Ends} (hz:(16777216:Nat)=sizeLine) (hij:Inj ix) (hb:Bnd K (cj ix).pr tg bnd) (hp:G0.pr i=false) (h:tS K G0 W0 (aW i (bP im bnd c elt ix)) E σ H) :
  yQ i (tI K G0 W0 im) tg (tT K (cj ix) noX c) (tE K (cj ix) noX elt) ix E σ H:=by
 refine h.use fun G W le ρ T g r ρ' w e q=>?_
 unfold aW ag at e
 cases e1:bP im bnd c elt ix ρ with
 | none=>rw [e1] at e;exact nsE e
 | some pr =>
  obtain ⟨o,ρ1⟩:=pr
  rw [e1] at e
  have herr:∀ x,o=.error x->W x ρ1:=fun x hx=>by subst hx;cases e;exact q
  refine pM hz hij hb le w e1 herr fun us H' g' Ts ds eo huz hud hl w1=>?_
  subst eo hud
  intro p hp'
  have w2:=mV w1 huz hp'
  have e:(if i < ρ1.length then some ((.ok .nx,ρ1.set i (some (D.lst (us.map (·.d)),Fl.u))):Except D Flw × Sto) else none)=some (r,ρ'):=e
  split at e
  ·rename_i hi
   cases e
   exact q _ _ _ (w2.store (f:=.u) hi (by rw [le.pr];exact hp) (.inl rfl) (by intro h;cases h))
  ·exact nsE e
end
end L3
end
section
namespace L3
open PySem L2
section
variable {K:FG} {G G0:Gm} {W W0:D->Sto->Prop} {H H':Hp} {σ:St} {ρ ρ':Sto} {T T':List It3} {g:Nat->Option It3} {x y z:It3} {α β:Type}
theorem Wf.mutate {i:Nat} {a:Addr} {o':HO} {d':D} {L0:List Addr} (w:Wf K G H σ ρ T g) (ey:g i=some y) (hu:y.f=.u) (ev:y.v=.ref a) (hm:jJ d'=true) (rep:Rep K (upd H a o') d' (.ref a) (a :: L0)) (na:a ∉ L0)
  (hk:∀ c ∈ L0,eS T g c/\(G.H0 c=none\/G.src c)):Wf K G (upd H a o') σ (ρ.set i (some (d',.u))) T (fun j=>if j=i then some ⟨d',.ref a,a :: L0,.u⟩ else g j):=by
 have hfz:y.f ≠ .z:=by rw [hu];intro q;cases q
 have oy:=w.okS i y ey
 obtain ⟨_,a',L',v1,v2,v3,v4⟩:=oy.own hfz
 rw [ev] at v1;cases v1
 have hi:i < ρ.length:=by
  have:=w.sl i
  rw [ey] at this
  exact eQ this.symm
 have ma:MutAt H a:=oy.rep.inH a (by rw [v2];exact AR)
 have val:∀ j u,(if j=i then some (⟨d',.ref a,a :: L0,.u⟩:It3) else g j)=some u->(j=i/\u=⟨d',.ref a,a :: L0,.u⟩)\/(j ≠ i/\g j=some u):=fun j u h=>by
  by_cases q:j=i
  ·rw [if_pos q] at h;cases h;exact .inl ⟨q,rfl⟩
  ·rw [if_neg q] at h;exact .inr ⟨q,h⟩
 have keep:∀ u,ItOk K G H u->a ∉ u.L->ItOk K G (upd H a o') u:=fun u ou hn=>ou.keep (M:=fun b=>b=a) (fun b o hb n=>by rw [aN n];exact hb) (fun b e=>by rw [e];exact ma) fun b hb e=>hn (by rw [<- e];exact hb)
 have nS:∀ j u,j ≠ i->g j=some u->a ∉ u.L:=fun j u n e=>w.ss i j y u (Ne.symm n) ey e hfz a ev
 have nT:∀ u ∈ T,a ∉ u.L:=fun u hu'=>(w.st i y ey u hu').1 hfz a ev
 have dom:∀ b o,H b=some o->∃ o'',upd H a o' b=some o'':=fun b o hb=>by
  by_cases q:b=a
  ·rw [q,bd];exact ⟨_,rfl⟩
  ·rw [aN q];exact ⟨o,hb⟩
 refine ⟨by rw [List.length_set];exact w.len,fun j=>?_,fun j u h=>?_,fun j u h=>?_,fun u hu'=>keep u (w.okT u hu') (nT u hu'),fun j k p q n hp hq=>?_,fun j u h t ht=>?_,w.tt,fun b o e n=>?_,w.pro,⟨w.fx.frT,fun j u h hp hf b eb=>?_,fun b hb=>?_,fun b o hb=>?_,fun j u h hl=>?_⟩⟩
 ·rw [cr hi]
  by_cases q:j=i
  ·rw [if_pos q,if_pos q];rfl
  ·rw [if_neg q,if_neg q];exact w.sl j
 ·rcases val j u h with ⟨rfl,rfl⟩ | ⟨n,h⟩
  ·rw [w.sv j y ey,ev]
  ·exact w.sv j u h
 ·rcases val j u h with ⟨rfl,rfl⟩ | ⟨n,h⟩
  ·refine ⟨rep,fun _=>⟨hm,a,L0,rfl,rfl,na,fun _=>v4 hu⟩,fun c hc=>?_⟩
   rcases AX.mp hc with e | hc
   ·rw [e];exact oy.src a (by rw [v2];exact AR)
   ·exact (hk c hc).2
  ·exact keep u (w.okS j u h) (nS j u n h)
 ·rcases val j p hp with ⟨ej,ep⟩ | ⟨n1,hp'⟩
  ·rcases val k q hq with ⟨ek,eq⟩ | ⟨n2,hq'⟩
   ·exact absurd (ej.trans ek.symm) n
   ·rw [ep]
    intro _ c ec
    cases ec
    exact nS k q n2 hq'
  ·rcases val k q hq with ⟨ek,eq⟩ | ⟨n2,hq'⟩
   ·rw [eq]
    intro hf c ec hc
    rcases AX.mp hc with e | hc
    ·obtain ⟨_,b,L2,u1,u2,_⟩:=(w.okS j p hp').own hf
     rw [ec] at u1;cases u1
     exact nS j p n1 hp' (by rw [<- e,u2];exact AR)
    ·exact (hk c hc).1.1 j p hp' hf ec
   ·exact w.ss j k p q n hp' hq'
 ·rcases val j u h with ⟨ej,eu⟩ | ⟨n,h'⟩
  ·rw [eu]
   refine ⟨fun _ c ec=>by cases ec;exact nT t ht,fun hf c ec hc=>?_⟩
   rcases AX.mp hc with e | hc
   ·obtain ⟨_,b,L2,u1,u2,_⟩:=(w.okT t ht).own hf
    rw [ec] at u1;cases u1
    exact nT t ht (by rw [<- e,u2];exact AR)
   ·exact (hk c hc).1.2 t ht hf ec
  ·exact w.st j u h' t ht
 ·have:b ≠ a:=fun z=>by
   subst z
   rcases v4 hu with h | h
   ·rw [e] at h;cases h
   ·exact n h
  rw [aN this];exact w.base b o e n
 ·rcases val j u h with ⟨ej,eu⟩ | ⟨n,h'⟩
  ·subst ej
   rw [eu] at eb
   cases eb
   exact w.fx.frS j y ey hp hfz a ev
  ·exact w.fx.frS j u h' hp hf b eb
 ·obtain ⟨o,ho⟩:=w.fx.bin b hb
  exact dom b o ho
 ·obtain ⟨o2,ho⟩:=w.fx.ob b o hb
  exact dom b o2 ho
 ·rcases val j u h with ⟨ej,eu⟩ | ⟨n,h'⟩
  ·rw [eu] at hl;cases hl
  ·exact w.fx.lvS j u h' hl
noncomputable def MutD (K:FG) (r:V->List V->Hp->VK->Prop) (f:D->List D->Option (D × D)):Prop:=∀ (a:Addr) (d:D) (L0:List Addr) (as:List It3) (H:Hp) (Q:VK) (p:D × D),Rep K H d (.ref a) (a :: L0)->jJ d=true->a ∉ L0->(∀ x ∈ as,Rep K H x.d x.v x.L)->(∀ x ∈ as,a ∉ x.L)->f d (as.map (·.d))=some p ->
 (∀ (o':HO) (L1:List Addr) (w:It3),Rep K (upd H a o') p.1 (.ref a) (a :: L1)->jJ p.1=true->(∀ c ∈ L1,c ∈ L0\/eF as c)->w.f=.z->w.d=p.2->Rep K (upd H a o') w.d w.v w.L->(∀ c ∈ w.L,c ∈ L0\/eF as c)->Q w.v (upd H a o'))->r (.ref a) (as.map (·.v)) H Q
noncomputable def chk (ok:D->Bool) (i:Nat):M3 Unit:=fun ρ=>match (ρ[i]?).join with
 | some (d,_)=>if ok d then some (.ok (),ρ) else none
 | none=>none
theorem oB {i:Nat} {k:R3->M3 β} {r:Except D β} (e:ag (ac i) k ρ=some (r,ρ')):∃ p,(ρ[i]?).join=some p/\k (.pl i) ρ=some (r,ρ'):=by
 unfold ag ac at e
 cases q:(ρ[i]?).join with
 | none=>rw [q] at e;exact nsE e
 | some p=>rw [q] at e;exact ⟨p,rfl,e⟩
theorem wr {ok:D->Bool} {i:Nat} {k:Unit->M3 β} {r:Except D β} (e:ag (chk ok i) k ρ=some (r,ρ')):(∀ p,(ρ[i]?).join=some p->ok p.1=true)/\k () ρ=some (r,ρ'):=by
 unfold ag chk at e
 cases q:(ρ[i]?).join with
 | none=>rw [q] at e;exact nsE e
 | some p =>
  rw [q] at e
  dsimp only at e
  cases h:ok p.1 with
  | false=>rw [h] at e;exact nsE e
  | true=>rw [h] at e;exact ⟨fun p' e'=>by cases e';exact h,e⟩
noncomputable def nJ (ok:D->Bool) (f:D->List D->Option (D × D)) (i:Nat) (ms:M3 (List R3)):EM:=ag (ac i) fun _=>ag (chk ok i) fun _=>ag ms fun rs=>ag (gives rs) fun ds=>fun ρ=>match (ρ[i]?).join with
 | some (d,.u)=>match f d ds with
  | some p=>some (.ok (.val p.2 .z),ρ.set i (some (p.1,.u)))
  | none=>none
 | _=>none
theorem Wf.changed {i:Nat} {d:D} {as us:List It3} {r:V->List V->Hp->VK->Prop} {f:D->List D->Option (D × D)} {p:D × D} {v:V} {Q:VK} (hr:MutD K r f) (w:Wf K G H σ ρ (us ++ T) g) (e:(ρ[i]?).join=some (d,.u)) (hv:σ[i]?=some (some v)) (ha:∀ y ∈ as,Itm (us ++ T) g y/\y.f=.z)
  (ef:f d (as.map (·.d))=some p) (q:∀ v H',Got K G σ (ρ.set i (some (p.1,.u))) T (.val p.2 .z) v H'->Q v H'):r v (as.map (·.v)) H Q:=by
 obtain ⟨y,y1,y2,y3,y4⟩:=w.slot e
 rw [hv] at y4
 injection y4 with y4
 injection y4 with y4
 have hfz:y.f ≠ .z:=by rw [y3];intro q;cases q
 have oy:=w.okS i y y1
 obtain ⟨m,a,L0,v1,v2,v3,_⟩:=oy.own hfz
 have ra:=oy.rep
 rw [v1,v2,y2] at ra
 rw [y2] at m
 rw [y4,v1]
 have na:∀ x ∈ as,a ∉ x.L:=fun x hx hc=>by
  have:=(w.kid (ha x hx).1 hc fun hf=>absurd (ha x hx).2 hf).1 i y y1 hfz
  exact this v1
 refine hr a d L0 as H Q p ra m v3 (fun x hx=>(w.itm (ha x hx).1).rep) na ef fun o' L1 u r1 m1 s1 uf ud ur us1=>?_
 have hsrc:∀ c,(c ∈ L0\/eF as c)->eS (us ++ T) g c/\(G.H0 c=none\/G.src c):=fun c hc=>by
  rcases hc with hc | hc
  ·have hc':c ∈ y.L:=by rw [v2];exact AS _ hc
   exact ⟨w.kid (.inl ⟨i,y1⟩) hc' fun _ ez=>by rw [v1] at ez;cases ez;exact v3 hc,oy.src c hc'⟩
  ·exact w.alls ha hc
 have nL:∀ c,(c ∈ L0\/eF as c)->c ≠ a:=fun c hc z=>(hsrc c hc).1.1 i y y1 hfz (by rw [z];exact v1)
 have w1:=w.mutate (o':=o') y1 y3 v1 m1 r1 (fun h=>nL a (s1 a h) rfl) fun c hc=>hsrc c (s1 c hc)
 have w2:=w1.pushAll (ws:=[u]) fun x hx=>by
  rw [Bp.mp hx]
  refine ⟨uf,ur,fun c hc=>?_⟩
  have s:=hsrc c (us1 c hc)
  refine ⟨⟨fun j z ez hf hz=>?_,s.1.2⟩,s.2⟩
  have ez:(if j=i then some (⟨p.1,.ref a,a :: L1,.u⟩:It3) else g j)=some z:=ez
  by_cases q:j=i
  ·rw [if_pos q] at ez
   cases ez
   cases hz
   exact nL a (us1 a hc) rfl
  ·rw [if_neg q] at ez
   exact s.1.1 j z ez hf hz
 rw [<- ud,<- uf] at q
 exact q u.v _ ⟨[u],_,w2.sub ((List.Sublist.refl [u]).append (A5 us T)),.val u⟩
theorem zz {i:Nat} {Ty:String} {ok:D->Bool} {ms:M3 (List R3)} {r:V->List V->Hp->VK->Prop} {f:D->List D->Option (D × D)} {Q:VK} (hr:MutD K r f) (hok:∀ d v L H,ok d=true->Rep K H d v L->tyV K Ty v H) (h:tE K G0 W0 (nJ ok f i ms) σ H Q):tBM K Ty r (sI i) (tA K G0 W0 ms) σ H Q:=by
 refine h.use fun G W le ρ T g o ρ' w e q=>?_
 obtain ⟨p0,e0,e⟩:=oB e
 obtain ⟨hk,e⟩:=wr e
 obtain ⟨d0,f0⟩:=p0
 obtain ⟨y,y1,y2,y3,y4⟩:=w.slot e0
 refine ⟨y.v,y4,hok d0 y.v y.L H (hk _ e0) (by rw [<- y2];exact (w.okS i y y1).rep),?_⟩
 refine tA.seq le w e q.err fun rs ρ1 e1 vs H1 Ts g1 w1 a1=>?_
 obtain ⟨ds,ρ2,g2,e2,_,w2,_,ys,hy,f1,f2⟩:=a1.gives w1 e1
 subst f1 f2
 cases e3:(ρ2[i]?).join with
 | none=>rw [e3] at e2;exact nsE e2
 | some p3 =>
  obtain ⟨d3,f3⟩:=p3
  rw [e3] at e2
  cases f3 with
  | u =>
   dsimp only at e2
   cases e4:f d3 (ys.map (·.d)) with
   | none=>rw [e4] at e2;exact nsE e2
   | some p =>
    rw [e4] at e2
    cases e2
    exact w2.changed hr e3 y4 hy e4 q
  | l=>exact nsE e2
  | z=>exact nsE e2
noncomputable def lr (t:V->V->V->Hp->(Hp->Prop)->Prop):V->List V->Hp->VK->Prop:=fun x vs H Q=>∃ k v,vs=[k,v]/\t x k v H fun H'=>Q .non H'
noncomputable def uL (f:D->List D->Option (D × D)) (i:Nat) (mk mv:EM):SM:=ag mv fun rv=>ag (ac i) fun _=>ag mk fun rk=>ag (gives [rk,rv]) fun ds=>fun ρ=>match (ρ[i]?).join with
 | some (d,.u)=>match f d ds with
  | some p=>some (.ok .nx,ρ.set i (some (p.1,.u)))
  | none=>none
 | _=>none
theorem zk {i:Nat} {mk mv:EM} {t:ui} {f:D->List D->Option (D × D)} {E:Ends} (hr:MutD K (lr t) f) (h:tS K G0 W0 (uL f i mk mv) E σ H):uz (tE K G0 W0 mv) (gSub (sI i) (tE K G0 W0 mk) t) E σ H:=by
 refine h.use fun G W le ρ T g r ρ' w e q=>?_
 refine tE.seq le w e q.err fun rv ρ1 e1 v H1 ⟨Ts,g1,w1,a1⟩=>?_
 obtain ⟨p0,e0,e1⟩:=oB e1
 obtain ⟨d0,f0⟩:=p0
 obtain ⟨y,y1,y2,y3,y4⟩:=w1.slot e0
 refine ⟨y.v,y4,?_⟩
 ·refine tE.seq le w1 e1 q.err fun rk ρ2 e2 vk H2 ⟨Us,g2,w2,a2⟩=>?_
  have a3:Ars σ [rk,rv] [vk,v] (([] ++ Ts) ++ Us):=.cons a2 (.cons a1 .nil)
  have w3:Wf K G H2 σ ρ2 ((([] ++ Ts) ++ Us) ++ T) g2:=w2.perm (by
   rw [List.nil_append,<- List.append_assoc]
   exact (List.perm_append_comm).append_right T)
  obtain ⟨ds,ρ3,g3,e3,_,w4,_,ys,hy,f1,f2⟩:=a3.gives w3 e2
  subst f1
  cases e4:(ρ3[i]?).join with
  | none=>rw [e4] at e3;exact nsE e3
  | some p3 =>
   obtain ⟨d3,f3⟩:=p3
   rw [e4] at e3
   cases f3 with
   | u =>
    dsimp only at e3
    cases e5:f d3 (ys.map (·.d)) with
    | none=>rw [e5] at e3;exact nsE e3
    | some p =>
     rw [e5] at e3
     cases e3
     have:=w4.changed (Q:=fun _ H'=>E.nx σ H') hr e4 y4 hy e5 fun v' H' ⟨Vs,g5,w5,a5⟩=>q _ _ _ (w5.sub (A5 Vs T))
     rw [f2] at this
     obtain ⟨k',v',ekv,ht⟩:=this
     cases ekv
     exact ht
   | l=>exact nsE e3
   | z=>exact nsE e3
end
end L3
end
section
namespace L3
open PySem L2
structure RE (X:Cx) (G0:Gm) (W0:D->Sto->Prop) (e:Expr) (m:EM):Prop where
 h:PE X e (tE X.K G0 W0 m)
structure RT (X:Cx) (G0:Gm) (W0:D->Sto->Prop) (e:Expr) (m:M3 Bool):Prop where
 h:PT X e (tT X.K G0 W0 m)
structure RW (X:Cx) (G0:Gm) (W0:D->Sto->Prop) (e:Expr) (m:M3 Bool):Prop where
 h:PW X e (tT X.K G0 W0 m)
structure RA (X:Cx) (G0:Gm) (W0:D->Sto->Prop) (es:List Expr) (m:M3 (List R3)):Prop where
 h:PA X es (tA X.K G0 W0 m)
structure RS (X:Cx) (G0:Gm) (W0:D->Sto->Prop) (s:Stmt) (m:SM):Prop where
 h:PS X s (tS X.K G0 W0 m)
structure RSs (X:Cx) (G0:Gm) (W0:D->Sto->Prop) (s:List Stmt) (m:SM):Prop where
 h:PSs X s (tS X.K G0 W0 m)
structure RI (X:Cx) (G0:Gm) (W0:D->Sto->Prop) (tg iter:Expr) (m:IM):Prop where
 h:PI X tg iter (tI X.K G0 W0 m)
structure RG (X:Cx) (pr:Nat->Bool) (target:Expr) (bnd:D->Sto->Option Sto):Prop where
 h:∃ tg,PG X target tg/\Bnd X.K pr tg bnd
structure RGs (X:Cx) (pr:Nat->Bool) (targets:List Expr) (bnd:List D->Sto->Option Sto):Prop where
 h:∃ tg,PGs X targets tg/\wL X.K pr tg bnd
theorem PE.imp {X:Cx} {e:Expr} {t t':TE} (h:PE X e t) (f:∀ σ H Q,t' σ H Q->t σ H Q):PE X e t':=fun pins s σ H Q I q=>h pins s σ H Q I (f σ H Q q)
theorem PT.imp {X:Cx} {e:Expr} {t t':TT} (h:PT X e t) (f:∀ σ H Q,t' σ H Q->t σ H Q):PT X e t':=fun pins s σ H Q I q=>h pins s σ H Q I (f σ H Q q)
theorem PW.imp {X:Cx} {e:Expr} {t t':TT} (h:PW X e t) (f:∀ σ H Q,t' σ H Q->t σ H Q):PW X e t':=fun wh pins s σ H Q I q=>h wh pins s σ H Q I (f σ H Q q)
theorem PA.imp {X:Cx} {e:List Expr} {t t':TA} (h:PA X e t) (f:∀ σ H Q,t' σ H Q->t σ H Q):PA X e t':=fun pos pins s σ H Q I q=>h pos pins s σ H Q I (f σ H Q q)
theorem PS.imp {X:Cx} {e:Stmt} {t t':TS} (h:PS X e t) (f:∀ D σ H,t' D σ H->t D σ H):PS X e t':=fun pins s σ H D I q=>h pins s σ H D I (f D σ H q)
theorem PSs.imp {X:Cx} {e:List Stmt} {t t':TS} (h:PSs X e t) (f:∀ D σ H,t' D σ H->t D σ H):PSs X e t':=fun pins s σ H D I q=>h pins s σ H D I (f D σ H q)
theorem PI.imp {X:Cx} {tg e:Expr} {t t':TI} (h:PI X tg e t) (f:∀ σ H R,t' σ H R->t σ H R):PI X tg e t':=fun pins s σ H R I q=>h pins s σ H R I (f σ H R q)
theorem szl:(16777216:Nat)=sizeLine:=by rw [sizeLine_eq]
section
variable {X:Cx} {G0:Gm} {W0:D->Sto->Prop} {a b c e:Expr} {es:List Expr} {pos:Pos} {ma mb mc m:EM} {ms:M3 (List R3)} {t u:M3 Bool} {ig:List Expr}
theorem uU (i:Nat) {x:Str} (hN:X.N[i]?=some x) (hv:Vis X.env.scope x) (hd:(x == ("__debug__":Str))=false) (hcd:(x == ("__classdict__":Str))=false):RE X G0 W0 (.Name x pos) (ac i):=⟨PE.imp (jj hN hv hd hcd) fun _ _ _ h=>zw h⟩
theorem af {i j}:RE X G0 W0 (.Constant (.int i) j pos) (mC (.int i)):=⟨PE.imp vn fun _ _ _ h=>gZ (fun _=>.int i) h⟩
theorem c8 {i j}:RE X G0 W0 (.Constant (.bool i) j pos) (mC (.bl i)):=⟨PE.imp pe_bl fun _ _ _ h=>gZ (fun _=>.bl i) h⟩
theorem zM {j}:RE X G0 W0 (.Constant .none j pos) (mC .non):=⟨PE.imp z5 fun _ _ _ h=>gZ (fun _=>.non) h⟩
theorem uV {i j}:RE X G0 W0 (.Constant (.str i) j pos) (mC (.str i)):=⟨PE.imp vj fun _ _ _ h=>gZ (fun _=>.str i) h⟩
theorem gf {x:Str} {i:Int} {tk:Tok} (hg:Gl X x) (hm:X.mg x=some (.int i tk)) (hd:(x == ("__debug__":Str))=false):RE X G0 W0 (.Name x pos) (mC (.int i)):=⟨PE.imp (xJ (v:=V.int i) hg hm ⟨_,rfl⟩ hd) fun _ _ _ h=>gZ (fun _=>.int i) h⟩
theorem au {op:Operator} {r:R2} {f:D->D->Option (D × Fl)} (ho:OpR X (binaryOp op) r) (hd:OpD X.K r f) (ha:RE X G0 W0 a ma) (hb:RE X G0 W0 b mb):RE X G0 W0 (.BinOp a op b pos) (aj f ma mb):=⟨PE.imp (pe_op ho ha.h hb.h) fun _ _ _ h=>nc hd h⟩
theorem ik {op:UnaryOp} {r:V->Hp->VK->Prop} {f:D->Option (D × Fl)} (ho:UnR X (unaryOp op) r) (hd:UnD X.K r f) (ha:RE X G0 W0 a ma):RE X G0 W0 (.UnaryOp op a pos) (mUn f ma):=⟨PE.imp (pe_un ho ha.h) fun _ _ _ h=>yI hd h⟩
theorem ji {op:CmpOp} {r:R2} {f:D->D->Option (D × Fl)} (ho:OpR X (compareOp op) r) (hd:OpD X.K r f) (ha:RE X G0 W0 a ma) (hb:RE X G0 W0 b mb) (hm:behindInMarks op b=false):RE X G0 W0 (.Compare a [op] [b] pos) (aj f ma mb):=⟨PE.imp (xM ho ha.h hb.h hm) fun _ _ _ h=>nc hd h⟩
theorem aM {r:R2} {f:D->D->Option (D × Fl)} (ho:IxR X r) (hd:OpD X.K r f) (ha:RE X G0 W0 a ma) (hb:RE X G0 W0 b mb) (hs:sE b):RE X G0 W0 (.Subscript a b pos) (aj f ma mb):=⟨PE.imp (pe_ix ho ha.h hb.h hs) fun _ _ _ h=>nc hd h⟩
theorem lq (ha:RE X G0 W0 a ma) (hb:RE X G0 W0 (.BoolOp .And (b :: ig) pos) mb):RE X G0 W0 (.BoolOp .And (a :: b :: ig) pos) (nK ma mb):=⟨PE.imp (z8 ha.h hb.h) fun _ _ _ h=>zB h⟩
theorem re_or (ha:RE X G0 W0 a ma) (hb:RE X G0 W0 (.BoolOp .Or (b :: ig) pos) mb):RE X G0 W0 (.BoolOp .Or (a :: b :: ig) pos) (mOr ma mb):=⟨PE.imp (pe_or ha.h hb.h) fun _ _ _ h=>tE_or h⟩
theorem jU {op} (h:RE X G0 W0 a ma):RE X G0 W0 (.BoolOp op [a] pos) ma:=⟨zZ h.h⟩
theorem uW (ha:RE X G0 W0 a ma):RE X G0 W0 (.UnaryOp .Not a pos) (yg ma):=⟨PE.imp (z4 ha.h) fun _ _ _ h=>zy h⟩
noncomputable def jn (f f':D->D->Option (D × Fl)) (ma mb mc:EM):EM:=ag ma fun ra=>ag mb fun rb=>ag (der ra) fun da=>ag (der rb) fun db=>ag (bB ((f da db).bind fun p=>asB p.1)) fun k=>if k then ag mc fun rc=>ag (der rb) fun db=>ag (der rc) fun dc=>bB ((f' db dc).map fun p=>R3.val p.1 p.2) else bI (.val (.bl false) .z)
theorem cP (ha:RE X G0 W0 a ma) (he:∀ whole,isTrue a X.env whole=(do let v <- whole;standAt a.pos;holding [v] (truthy v))):RT X G0 W0 a (cB ma):=⟨PT.imp (zR ha.h he) fun _ _ _ h=>zj h⟩
theorem oP (h:RW X G0 W0 a t):RT X G0 W0 a t:=⟨h.h.pt⟩
theorem ic (ha:RT X G0 W0 a t):RW X G0 W0 (.BoolOp .Or [a] pos) t:=⟨zQ ha.h⟩
theorem iZ (ha:RT X G0 W0 a t) (hb:RW X G0 W0 (.BoolOp .Or (b :: ig) pos) u):RW X G0 W0 (.BoolOp .Or (a :: b :: ig) pos) (cOr t u):=⟨PW.imp (pw_or ha.h hb.h) fun _ _ _ h=>tT_or h⟩
theorem cQ (ha:RT X G0 W0 a t):RT X G0 W0 (.UnaryOp .Not a pos) (gK t):=⟨PT.imp (zS ha.h) fun _ _ _ h=>zh h⟩
theorem ae:RA X G0 W0 [] ah:=⟨PA.imp qx fun _ _ _ h=>zC h⟩
theorem aa (ha:RE X G0 W0 e m) (hr:RA X G0 W0 es ms) (hs:starEach (e :: es) X.env=(false,eval e X.env) :: starEach es X.env):RA X G0 W0 (e :: es) (ab m ms):=⟨PA.imp (kR ha.h hr.h hs) fun _ _ _ h=>wY h⟩
theorem aQ {x1} (h:RA X G0 W0 es ms):RE X G0 W0 (.Tuple es x1 pos) (bc ms):=⟨PE.imp (zY h.h) fun _ _ _ h=>zx szl h⟩
theorem bV (h:RA X G0 W0 es ms):RE X G0 W0 (.List es pos) (cU ms):=⟨PE.imp (z6 h.h) fun _ _ _ h=>zA szl h⟩
theorem aJ {x:Str} {p:Pos} {id:String} {r:List V->Hp->VK->Prop} {f:List D->Option (D × Fl)} (hc:dJ X (.builtin id) r) (hd:gU X.K r f) (hg:Gl X x) (hm:X.mg x=none) (hv:bootBuiltins x=some (.builtin id)) (ha:RA X G0 W0 (e :: es) ms) (hn:x ≠ "__name__") (hdb:(x == ("__debug__":Str))=false)
  (he:starEach (e :: es) X.env=(false,eval e X.env) :: starEach es X.env) (hpl:(backTo pos (starEach es X.env)).any (·.1)=false):RE X G0 W0 (.Call (.Name x p) (e :: es) [] pos) (aG f ms):=⟨PE.imp (lw hc hg hm hv ha.h hn hdb he hpl) fun _ _ _ h=>ju hd h⟩
theorem dL {x:Str} {p:Pos} {T:String} {r:List V->Hp->VK->Prop} {f:List D->Option (D × Fl)} (hc:dJ X (.type T) r) (hd:gU X.K r f) (hg:Gl X x) (hm:X.mg x=none) (hv:bootBuiltins x=some (.type T)) (ha:RA X G0 W0 (e :: es) ms) (hn:x ≠ "__name__") (hdb:(x == ("__debug__":Str))=false)
  (he:starEach (e :: es) X.env=(false,eval e X.env) :: starEach es X.env) (hpl:(backTo pos (starEach es X.env)).any (·.1)=false):RE X G0 W0 (.Call (.Name x p) (e :: es) [] pos) (aG f ms):=⟨PE.imp (mG hc hg hm hv ha.h hn hdb he hpl) fun _ _ _ h=>ju hd h⟩
variable {st:Stmt} {sts:List Stmt} {sm sn:SM}
theorem bE:RSs X G0 W0 [] fF:=⟨PSs.imp xE fun _ _ _ h=>zp h⟩
theorem ai (h1:RS X G0 W0 st sm) (h2:RSs X G0 W0 sts sn):RSs X G0 W0 (st :: sts) (aK sm sn):=⟨PSs.imp (u9 h1.h h2.h) fun _ _ _ h=>zn h⟩
theorem am (h1:RS X G0 W0 st sm):RSs X G0 W0 [st] sm:=⟨xD h1.h⟩
theorem gz (he:RE X G0 W0 e m) (hs:swapsWith e none pos.line X.env=pure false):RS X G0 W0 (.Expr e pos) (ib m):=⟨PS.imp (xF he.h hs) fun _ _ _ h=>wQ h⟩
theorem aL (np:Nat) (hnp:∀ i,np<=i->G0.pr i=false) (he:RE X G0 W0 e m):RS X G0 W0 (.Return (some e) pos) (bv np m):=⟨PS.imp (zU he.h) fun _ _ _ h=>zo hnp h⟩
theorem dG {x y:List Stmt} (hc:RT X G0 W0 c t) (ha:RSs X G0 W0 x sm) (hb:RSs X G0 W0 y sn):RS X G0 W0 (.If c x y pos) (sIf t sm sn):=⟨PS.imp (ps_if hc.h ha.h hb.h) fun _ _ _ h=>tS_if h⟩
theorem aF (i:Nat) {x:Str} {pos':Pos} (hN:X.N.Nodup) (hi:X.N[i]?=some x) (hx:Loc X.env.scope x) (he:RE X G0 W0 e m) (hs:swapsWith e (some (.Name x pos')) pos.line X.env=pure false) (hf:X.fn x=true\/X.env.scope.names.lookup x=some .local) (hp:G0.pr i=false):RS X G0 W0 (.Assign [.Name x pos'] e pos) (aW i m):=⟨PS.imp (zT hN hi hx he.h hs hf) fun _ _ _ h=>zm hp h⟩
theorem lg {body:List Stmt} (hp:PassesOwn (model X.prog X.w) X.A X.env X.xe) (hc:RT X G0 W0 c t) (hb:RSs X G0 W0 body sm):RS X G0 W0 (.While c body [] pos) (fc t sm):=⟨PS.imp (vd hp hc.h hb.h) fun _ _ _ h=>ux h⟩
theorem cp {tg iter:Expr} {body:List Stmt} {im:IM} {bnd:D->Sto->Option Sto} (hp:PassesOwn (model X.prog X.w) X.A X.env X.xe) (hc:X.calm=true) (hi:RI X G0 W0 tg iter im) (hg:RG X G0.pr tg bnd) (hb:RSs X G0 W0 body sm) (hs:∀ x,foldedSetIterable iter X.env x=pure x):RS X G0 W0 (.For tg iter body [] pos) (ci im bnd sm):=by
 obtain ⟨g,h1,h2⟩:=hg.h
 exact ⟨PS.imp (zV hp hc hi.h h1 hb.h hs) fun _ _ _ h=>zq h2 h⟩
theorem a9 (i:Nat) {x:Str} {pr:Nat->Bool} (hN:X.N.Nodup) (hi:X.N[i]?=some x) (hx:Loc X.env.scope x) (hf:X.fn x=true\/X.env.scope.names.lookup x=some .local) (hp:pr i=false):RG X pr (.Name x pos) (ao i):=⟨_,bj hN hi hx hf,aU hp⟩
theorem nw {pr:Nat->Bool}:RGs X pr [] mh:=⟨_,rL,pW⟩
theorem dY {pr:Nat->Bool} {bn:D->Sto->Option Sto} {bs:List D->Sto->Option Sto} (h1:RG X pr e bn) (h2:RGs X pr es bs) (hs:(assignEach (e :: es) X.env).map (·.2)=assign e X.env :: (assignEach es X.env).map (·.2)):RGs X pr (e :: es) (cw bn bs):=by
 obtain ⟨g,a1,a2⟩:=h1.h
 obtain ⟨gs,b1,b2⟩:=h2.h
 exact ⟨_,lu a1 b1 hs,ke a2 b2⟩
theorem qp {pr:Nat->Bool} {k n:Nat} {bs:List D->Sto->Option Sto} (hc:X.calm=true) (h:RGs X pr es bs) (hn:(assignEach es X.env).length=n) (hst:(assignEach es X.env).findIdx? (·.1)=none):RG X pr (.Tuple es k pos) (mf n bs):=by
 obtain ⟨gs,b1,b2⟩:=h.h
 exact ⟨_,vi hc b1 hn hst,sy b2⟩
theorem bF {elt tg iter:Expr} {ifs:List Expr} {scope:Scope} {im:IM} {bnd:D->Sto->Option Sto} {cm:M3 Bool} {em:EM} (NY:List Str) (ix:List (Option Nat)) (hc:X.calm=true) (hi:RI X G0 W0 tg iter im)
  (ht:∀ s H C fp,PTs (bu X NY scope s H C fp) ifs (tT X.K (cj ix) noX cm)) (he:∀ s H C fp,RE (bu X NY scope s H C fp) (cj ix) noX elt em)
  (ck:j7 scope X.N X.env.scope NY ix=true) (hij:Inj ix) (hs:∀ x,foldedSetIterable iter X.env x=pure x) (hgu:∃ tg',Bnd X.K (cj ix).pr tg' bnd/\∀ s H C fp,PG (bu X NY scope s H C fp) tg tg'):RE X G0 W0 (.ListComp elt [⟨tg,iter,ifs,0⟩] scope pos) (bP im bnd cm em ix):=by
 obtain ⟨tg',b1,b2⟩:=hgu
 exact ⟨PE.imp (xL NY ix hc hi.h b2 ht (fun s H C fp=>(he s H C fp).h) ck hs) fun _ _ _ h=>wX szl hij b1 h⟩
end
end L3
end
section
namespace L3
open PySem L2
noncomputable def aA (F:Fn) (ms:M3 (List R3)):EM:=ag ms fun rs=>fun ρ=>match prs (frz (pH rs) ρ) rs with
 | none=>none
 | some ps=>match F ps with
  | none=>none
  | some (.ok p,qs)=>if qs.length=ps.length then some (.ok (.val p.1 p.2),back rs ps qs (frz (pH rs) ρ)) else none
  | some (.error _,_)=>none
noncomputable def sJ (K:FG) (F:Fn):Sp:=fun vs H Q _=>∃ (ps:List It3) (p:D × Fl) (fs:List (D × Fl)),vs=ps.map (·.v)/\(∀ p ∈ ps,Arg K H p)/\ps.Pairwise Apart3/\F (ps.map fun p=>(p.d,p.f))=some (.ok p,fs) /\
 ∀ x qs H',Behind K H H' ps qs x->x.d=p.1->x.f=p.2->qs.map (fun q=>(q.d,q.f))=fs->Q x.v H'
section
variable {K:FG} {G G0:Gm} {W W0:D->Sto->Prop} {H H':Hp} {σ:St} {ρ ρ':Sto} {T T':List It3} {g:Nat->Option It3} {x y z:It3} {α β:Type}
theorem uy {F:Fn} {ms:M3 (List R3)} {Q:VK} (h:tE K G0 W0 (aA F ms) σ H Q):tA K G0 W0 ms σ H fun vs H1=>sJ K F vs H1 Q E0:=by
 refine h.use fun G W le ρ T g o ρ' w e q=>?_
 refine tA.seq le w e q.err fun rs ρ1 e1 vs H1 Ts g1 w1 a1=>?_
 obtain ⟨g2,w2,z2⟩:=Wf.frz (is:=pH rs) w1
 cases e2:prs (L3.frz (pH rs) ρ1) rs with
 | none=>rw [e2] at e1;exact nsE e1
 | some pfs =>
  rw [e2] at e1
  dsimp only at e1
  have hd:∀ i,2<=(pls rs).count i->∀ y,g2 i=some y->y.f=.z:=fun i hc y ey=>by
   have hm:i ∈ pH rs:=Br.mpr ⟨List.count_pos_iff.mp (by omega),by simpa using hc⟩
   have s1:=w2.sl i
   rw [ey] at s1
   have hy:∃ y0,g1 i=some y0:=by
    cases q1:g1 i with
    | some y0=>exact ⟨y0,rfl⟩
    | none =>
     exfalso
     have s2:=w1.sl i
     rw [q1] at s2
     have:=pE (is:=pH rs) s2.symm
     rw [this] at s1
     cases s1
   obtain ⟨y0,ey0⟩:=hy
   obtain ⟨y',e3,_,e5⟩:=z2 i y0 ey0
   rw [ey] at e3
   cases e3
   exact e5 hm
  obtain ⟨ps,f1,f2,f3,f4,f5⟩:=Ars.args a1 w2 hd e2
  have hit:∀ p ∈ ps,Itm (Ts ++ T) g2 p:=fun p hp=>by
   rcases f4 p hp with ⟨i,_,ei⟩ | h
   ·exact .inl ⟨i,ei⟩
   ·exact .inr (AV _ h)
  have harg:∀ p ∈ ps,Arg K H1 p:=fun p hp=>⟨(w2.itm (hit p hp)).rep,fun hf=>by
   obtain ⟨m,a,L',v1,v2,v3,_⟩:=(w2.itm (hit p hp)).own hf
   exact ⟨m,a,L',v1,v2,v3⟩⟩
  subst f2
  cases e3:F pfs with
  | none=>rw [e3] at e1;exact nsE e1
  | some r =>
   obtain ⟨out,fs⟩:=r
   rw [e3] at e1
   cases out with
   | ok p =>
    dsimp only at e1
    split at e1
    ·cases e1
     refine ⟨ps,p,fs,rfl,harg,f3,by rw [f1];exact e3,?_⟩
     intro x qs H' B x1 x2 hq
     obtain ⟨g',w3,px⟩:=Wf.after w2 e2 f1 f4 f5 B.toBehindX
     have w4:=px x B.rep B.own B.src B.apx
     rw [hq] at w4
     rw [<- x1,<- x2] at q
     exact q x.v H' ⟨[x],g',w4,.val x⟩
    ·exact nsE e1
   | error er=>exact nsE e1
noncomputable def fv (b:Bool) (p:It3):It3:=if b then eA p else p
theorem mM:∀ {mask:List Bool} {ps:List It3},(List.zipWith fv mask ps).map (fun p=>(p.d,p.f))=List.zipWith tz mask (ps.map fun p=>(p.d,p.f))
 | [],_=>rfl
 | _ :: _,[]=>rfl
 | b :: mask,p :: ps=>by
  simp only [List.zipWith_cons_cons,Bc,mM]
  cases b <;> rfl
theorem tw {mask:List Bool} {ps:List It3} {i:Nat} {q:It3} (h:(List.zipWith fv mask ps)[i]?=some q):∃ b p,mask[i]?=some b/\ps[i]?=some p/\q=fv b p:=by
 rw [List.getElem?_zipWith] at h
 cases e1:mask[i]? with
 | none=>rw [e1] at h;exact nsE h
 | some b =>
  cases e2:ps[i]? with
  | none=>rw [e1,e2] at h;exact nsE h
  | some p=>rw [e1,e2] at h;cases h;exact ⟨b,p,rfl,rfl,rfl⟩
theorem pw {mask:List Bool} {ps:List It3} {i:Nat} {p:It3} (hl:ps.length=mask.length) (h:ps[i]?=some p):∃ b,mask[i]?=some b/\(List.zipWith fv mask ps)[i]?=some (fv b p):=by
 have hi:i < mask.length:=by have:=(A3.mp h).1;omega
 refine ⟨mask[i],AY hi,?_⟩
 rw [List.getElem?_zipWith,AY hi,h]
theorem fu (b:Bool) (p:It3):(fv b p).d=p.d/\(fv b p).v=p.v/\(fv b p).L=p.L/\((fv b p).f=p.f\/(fv b p).f=.z):=by
 cases b
 ·exact ⟨rfl,rfl,rfl,.inl rfl⟩
 ·exact ⟨rfl,rfl,rfl,.inr rfl⟩
theorem NoRoot.low {a b a' b':It3} (h:NoRoot a b) (hv:a'.v=a.v) (hf:a'.f=a.f\/a'.f=.z) (hL:b'.L=b.L):NoRoot a' b':=fun q c e=>by
 rw [hL]
 rcases hf with f | f
 ·exact h (by rw [<- f];exact q) c (by rw [<- hv];exact e)
 ·exact absurd f q
noncomputable def prM (mask:List Bool) (i:Nat):Bool:=match mask[i]? with
 | some b=>!b
 | none=>false
theorem x4 {α β:Type} {f:α->β} {l:List α} {i:Nat} {a:α} (h:l[i]?=some a):(l.map f)[i]?=some (f a):=by rw [A7,h];rfl
set_option tactic.hygienic true in
theorem r6 {mask:List Bool} {m:SM} {n:Nat} {vs:List V} {Q:VK} {E:XK} (hn:mask.length<=n) (h:sJ K (fnM mask n m) vs H Q E) :
  ∃ G:Gm,G.pr=prM mask/\tS K G noX m { nx:=fun _ H'=>Q .non H',rt:=Q } (vs.map some ++ List.replicate (n - vs.length) none) H:=by
 obtain ⟨ps,p,fs,rfl,ha,hp,hF,q⟩:=h
 unfold fnM at hF
 rw [A2] at hF
 split at hF
 ·rename_i hl
  rw [<- mM] at hF
  generalize hps:List.zipWith fv mask ps=ps' at hF
  have hl':ps'.length=ps.length:=by rw [<- hps,List.length_zipWith];omega
  have hv:ps'.map (·.v)=ps.map (·.v):=by
   refine List.ext_getElem? fun i=>?_
   rw [A7,A7]
   cases e:ps[i]? with
   | none=>rw [List.getElem?_eq_none (by have:=List.getElem?_eq_none_iff.mp e;omega)]
   | some u =>
    obtain ⟨b,_,e2⟩:=pw (mask:=mask) hl e
    rw [hps] at e2
    rw [e2]
    show some (fv b u).v=some u.v
    rw [(fu b u).2.1]
  have up:∀ (i:Nat) (u:It3),ps'[i]?=some u->∃ b u0,mask[i]?=some b/\ps[i]?=some u0/\u=fv b u0:=fun i u e=>by rw [<- hps] at e;exact tw e
  have upm:∀ u ∈ ps',∃ b u0,u0 ∈ ps/\u=fv b u0:=fun u hu=>by
   obtain ⟨i,hi,e⟩:=List.mem_iff_getElem.mp hu
   obtain ⟨b,u0,_,e2,e3⟩:=up i u (by rw [AY hi,e])
   exact ⟨b,u0,A4 e2,e3⟩
  have ha':∀ u ∈ ps',Arg K H u:=fun u hu=>by
   obtain ⟨b,u0,h0,rfl⟩:=upm u hu
   obtain ⟨e1,e2,e3,e4⟩:=fu b u0
   refine ⟨by rw [e1,e2,e3];exact (ha u0 h0).rep,fun hf=>?_⟩
   rw [e1,e2,e3]
   refine (ha u0 h0).own fun z=>hf ?_
   rcases e4 with f | f
   ·rw [f];exact z
   ·exact f
  have hp':ps'.Pairwise Apart3:=by
   rw [List.pairwise_iff_getElem]
   intro i j hi hj lt
   obtain ⟨b,u0,_,e2,e3⟩:=up i _ (AY hi)
   obtain ⟨b',u0',_,e2',e3'⟩:=up j _ (AY hj)
   have ap:=dZ hp (fun _ _=>Apart3.symm) (Ba lt) e2 e2'
   rw [e3,e3']
   obtain ⟨_,a2,a3,a4⟩:=fu b u0
   obtain ⟨_,b2,b3,b4⟩:=fu b' u0'
   exact ⟨ap.1.low a2 a4 b3,ap.2.low b2 b4 a3⟩
  have hpr:∀ (i:Nat) (u:It3),ps'[i]?=some u->u.f ≠ .z->prM mask i=true:=fun i u e hf=>by
   obtain ⟨b,u0,e1,e2,e3⟩:=up i u e
   unfold prM
   rw [e1]
   cases b with
   | false=>rfl
   | true=>rw [e3] at hf;exact absurd rfl hf
  have alls:∀ c,eF ps' c->eF ps c:=fun c ⟨u,hu,hc⟩=>by
   obtain ⟨b,u0,h0,rfl⟩:=upm u hu
   exact ⟨u0,h0,by rw [<- (fu b u0).2.2.1];exact hc⟩
  have lift:∀ {H':Hp} {qs:List It3},BehindX K H H' ps' qs->BehindX K H H' ps qs:=fun {H' qs} B=>by
   refine ⟨fun b o hb hn=>B.frame b o hb fun u hu hf hv=>?_,Paired.ofGet ?_ fun k u v eu ev=>?_,B.apart⟩
   ·obtain ⟨b',u0,h0,rfl⟩:=upm u hu
    obtain ⟨_,e2,_,e4⟩:=fu b' u0
    rcases e4 with f | f
    ·exact hn u0 h0 (by rw [<- f];exact hf) (by rw [<- e2];exact hv)
    ·rw [f] at hf;cases hf
   ·rw [<- hl'];exact Paired.length B.back
   ·obtain ⟨b,_,e2⟩:=pw (mask:=mask) hl eu
    rw [hps] at e2
    have b1:=Paired.at B.back e2 ev
    obtain ⟨a1,a2,a3,a4⟩:=fu b u
    refine ⟨fun hz=>?_,by rw [b1.v,a2],?_,b1.arg,fun c hc=>(b1.src c hc).imp id (alls c),fun hf b' hb'=>?_⟩
    ·have:fv b u=u:=by
      cases b
      ·rfl
      ·obtain ⟨d,v,L,f⟩:=u
       have hz:f=.z:=hz
       subst hz;rfl
     rw [<- this]
     exact b1.z (by rw [this];exact hz)
    ·rcases b1.f with h | h
     ·rcases a4 with f | f
      ·exact .inl (h.trans f)
      ·exact .inr (h.trans f)
     ·exact .inr h
    ·rcases a4 with f | f
     ·exact b1.there (by rw [f];exact hf) b' (by rw [a2];exact hb')
     ·-- lowered: as it was
      obtain ⟨_,a,L',v1,v2,_⟩:=(ha u (A4 eu)).own (by rw [hf];intro q;cases q)
      rw [hb'] at v1;cases v1
      have hq:=b1.z f
      have r:=b1.arg.rep
      rw [hq,a1,a2,a3] at r
      exact (r.inH b' (by rw [v2];exact AR)).ex
  have hnn:ps'.length<=n:=by omega
  have wf:=uo (K:=K) (H:=H) (n:=n) (pr:=prM mask) hnn ha' hp' hpr
  rw [hv] at wf
  refine ⟨gOf H (prM mask) ((ps.map (·.v)).map some ++ List.replicate (n - (ps.map (·.v)).length) none) ps',rfl,?_⟩
  have h0:∀ (i:Nat) (u:It3),ps'[i]?=some u->((ps.map (·.v)).map some ++ List.replicate (n - (ps.map (·.v)).length) none)[i]?=some (some u.v):=fun i u e=>my (by rw [<- hv];exact x4 e)
  unfold fn0 at hF
  cases e:m (kA n (ps'.map fun p=>(p.d,p.f))) with
  | none=>rw [e] at hF;exact nsE hF
  | some rr =>
   obtain ⟨r,ρ2⟩:=rr
   rw [e] at hF
   refine tS.mk (r:=r) (Le.refl K _ _) wf e ?_
   have fin:∀ {x:It3} {σ':St} {H':Hp} {g':Nat->Option It3} {d:D} {f:Fl},Wf K (gOf H (prM mask) ((ps.map (·.v)).map some ++ List.replicate (n - (ps.map (·.v)).length) none) ps') H' σ' ρ2 [x] g'->x.d=d->x.f=f ->
     ((iY ρ2 0 (ps'.map fun p=>(p.d,p.f))).map fun fs=>((.ok (d,f),fs):Except D (D × Fl) × List (D × Fl)))=some (.ok p,fs)->Q x.v H':=fun {x σ' H' g' d f} w1 xd xf hF=>by
    cases e5:iY ρ2 0 (ps'.map fun p=>(p.d,p.f)) with
    | none=>rw [e5] at hF;exact nsE hF
    | some fs' =>
     rw [e5] at hF
     cases hF
     obtain ⟨qs,B,hq⟩:=qZ (n:=n) ha' hp' hpr h0 w1 e5
     have BX:=lift B.toBehindX
     exact q x qs H' ⟨BX,B.rep,B.own,fun c hc=>(B.src c hc).imp id (alls c),B.apx⟩ xd xf hq
   cases r with
   | error er=>
    dsimp only at hF
    cases e5:iY ρ2 0 (ps'.map fun p=>(p.d,p.f)) with
    | none=>rw [e5] at hF;exact nsE hF
    | some fs'=>rw [e5] at hF;cases hF
   | ok fl =>
    cases fl with
    | nx =>
     intro σ' H' g' w1
     obtain ⟨Ts,g2,w2,a2⟩:=w1.const .non
     obtain ⟨x,rfl,x1,x2,x3⟩:=a2.val_inv
     have:=fin w2 x1 x2 hF
     rw [x3] at this
     exact this
    | br=>exact nsE hF
    | ct=>exact nsE hF
    | rt d f =>
     intro x σ' H' g' w1 x1 x2
     exact fin w1 x1 x2 hF
 ·exact nsE hF
end
noncomputable abbrev aP (P:Program) (w:World) (K:FG) (mg:Str->Option Value) (base:Heap) (x:Str) (k:Nat) (ps:List Str) (F:Fn):Prop:=Callee P w K mg base x k ps (sJ K F)
set_option tactic.hygienic true in
theorem ba {P:Program} {w:World} {K:FG} {mg:Str->Option Value} {base:Heap} {x:Str} {st:Stmt} {k:Nat} {N ps:List Str} {mask:List Bool} {m:SM} {nn:Nat} (D:Def K mg x st) (S:FnScope N ps (ak st)) (hml:mask.length=ps.length) (hnn:N.length=nn)
  (hb:∀ (kV doc pm:Value) (an:Option Addr) (cdv ct:Value) (us:List Value),us.length=ps.length->bindArgs (PySem.W.fnOf x x (bG st) (bo st) (ak st) .none kV doc pm an cdv ct) ⟨us,[]⟩=pure (ps.zip us))
  (body:∀ (cdv:Value) (A:Around) (outer:List Env) (s:Shared) (H:Hp) (E:XK) (f:Addr) (G:Gm),Room k (A.deeper (PyProof.Rows.envOfC x (ak st) s.heap.objs.size f cdv))->G.pr=prM mask->RSs (pJ CX0 P w K mg base N x (ak st) f cdv A outer s H E).nox G noX (bo st) m) :
  aP P w K mg base x (k+1) ps (fnM mask nn m):=by
 refine D.callee hb fun f fd F=>F.ok S (fun vs H Q E h=>?_) fun cdv A outer s H vs Q E hr h=>?_
 ·obtain ⟨ps',p,fs,rfl,_,_,hF,_⟩:=h
  unfold fnM at hF
  rw [A2] at hF ⊢
  split at hF
  ·rename_i e;rw [e,hml]
  ·exact nsE hF
 ·have hle:mask.length<=nn:=by
   rw [hml,<- hnn]
   have:=congrArg List.length S.pre
   rw [Bk] at this
   omega
  obtain ⟨G,hG,ht⟩:=r6 hle h
  subst hnn
  exact ⟨_,(body cdv A outer s H E f G hr hG).h,ht⟩
theorem av {X:Cx} {G0:Gm} {W0:D->Sto->Prop} {x:Str} {p pos:Pos} {e:Expr} {es:List Expr} {ms:M3 (List R3)} {k:Nat} {ps:List Str} {F:Fn} (c:aP X.prog X.w X.K X.mg X.base x k ps F) (hr:Room k X.A) (ha:RA X G0 W0 (e :: es) ms) (hg:Gl X x) (hdb:(x == ("__debug__":Str))=false)
  (he:starEach (e :: es) X.env=(false,eval e X.env) :: starEach es X.env) (hpl:(backTo pos (starEach es X.env)).any (·.1)=false):RE X G0 W0 (.Call (.Name x p) (e :: es) [] pos) (aA F ms) :=
 ⟨PE.imp (pe_fn c hr ha.h hg hdb he hpl) fun _ _ _ h=>uy h⟩
end L3
end
section
namespace L3
open PySem L2
noncomputable def orD (f g:D->D->Option (D × Fl)) (a b:D):Option (D × Fl):=match f a b with
 | some p=>some p
 | none=>g a b
section
variable {K:FG} {H:Hp} {Ks:Addr->Prop} {d:D} {v:V} {L:List Addr} {X:Cx}
theorem ip (r:Rep K H d v []):New K H H Ks ⟨d,v,[],.z⟩:=⟨Same.refl _,r,fun _ h=>(by cases h),fun h=>absurd rfl h⟩
theorem o9 (r:Rep K H d v L) (h:∀ c ∈ L,Ks c):New K H H Ks ⟨d,v,L,.z⟩:=⟨Same.refl _,r,fun c hc=>.inr (h c hc),fun h=>absurd rfl h⟩
theorem tf {p:Addr} {ds:List D} {vs:List V} (hp:H p=none) (r:Reps (Rep K H) ds vs L) (h:∀ c ∈ L,Ks c):New K H (upd H p (.lst vs)) Ks ⟨.lst ds,.ref p,p :: L,.u⟩:=by
 have np:p ∉ L:=fun hc=>by obtain ⟨o,ho⟩:=(r.inH p hc).ex;rw [hp] at ho;exact nsE ho
 refine ⟨bT hp,.lst bd (r.same (bT hp)),fun c hc=>?_,fun _=>⟨rfl,p,L,rfl,rfl,np,hp⟩⟩
 rcases AX.mp hc with e | hc
 ·rw [e];exact .inl hp
 ·exact .inr (h c hc)
theorem xU {p:Addr} {ds:List D} {vs:List V} (hp:H p=none) (r:Reps (Rep K H) ds vs L) (h:∀ c ∈ L,Ks c):New K H (upd H p (.tup vs)) Ks ⟨.tup ds,.ref p,L,.z⟩ :=
 ⟨bT hp,.tup bd (r.same (bT hp)),fun c hc=>.inr (h c hc),fun h=>absurd rfl h⟩
theorem jI {y:It3} {ys:List It3} (hy:y ∈ ys) (h:Arg K H y) (hm:jJ y.d=false):∀ c ∈ y.L,eB ys c:=fun c hc=>⟨y,hy,hc,fun hf=>by
 have:=(h.own hf).1
 rw [hm] at this;cases this⟩
theorem pA {y:It3} {ys:List It3} {a:Addr} {L:List Addr} (hy:y ∈ ys) (h:Arg K H y) (hv:y.v=.ref a) (hL:y.L=a :: L):∀ c ∈ L,eB ys c:=fun c hc=>⟨y,hy,by rw [hL];exact AS _ hc,fun hf e=>by
 obtain ⟨_,a',L',v1,v2,v3⟩:=h.own hf
 rw [hv] at v1;cases v1
 rw [hL] at v2;cases v2
 rw [hv] at e;cases e
 exact v3 hc⟩
theorem OpD.or {r r':R2} {f g:D->D->Option (D × Fl)} (h:OpD K r f) (h':OpD K r' g):OpD K (fun x y H Q=>r x y H Q\/r' x y H Q) (orD f g):=fun a b H Q p ra rb e q=>by
 unfold orD at e
 cases ef:f a.d b.d with
 | some p'=>rw [ef] at e;cases e;exact .inl (h a b H Q _ ra rb ef q)
 | none=>rw [ef] at e;exact .inr (h' a b H Q p ra rb e q)
noncomputable def cV (C:Int->Int->Bool) (g:Int->Int->D):D->D->Option (D × Fl)
 | .int i,.int j=>if C i j then some (g i j,.z) else none
 | _,_=>none
set_option tactic.hygienic true in
theorem gI {C:Int->Int->Prop} {Cb:Int->Int->Bool} {g:Int->Int->V} {gd:Int->Int->D} (hC:∀ i j,Cb i j=true->C i j) (hg:∀ i j H,Rep K H (gd i j) (g i j) []):OpD K (rI C g) (cV Cb gd):=fun a b H Q p ra rb e q=>by
 obtain ⟨da,va,La,fa⟩:=a
 obtain ⟨db,vb,Lb,fb⟩:=b
 obtain ⟨ra,oa⟩:=ra
 obtain ⟨rb,ob⟩:=rb
 dsimp only at ra rb
 cases da <;> try (exact nsE e)
 rename_i i
 obtain ⟨rfl,rfl⟩:=ra.view
 cases db <;> try (exact nsE e)
 rename_i j
 obtain ⟨rfl,rfl⟩:=rb.view
 have e:(if Cb i j then some (gd i j,Fl.z) else none)=some p:=e
 split at e
 ·rename_i hc
  cases e
  exact ⟨i,j,rfl,rfl,hC i j hc,q ⟨gd i j,g i j,[],.z⟩ H (ip (hg i j H)) rfl rfl⟩
 ·exact nsE e
theorem rI_of {g:Int->Int->V}:rI0 g=rI (fun _ _=>True) g:=by
 funext x y H Q
 unfold rI0 rI
 apply propext
 constructor
 ·rintro ⟨i,j,a,b,c⟩;exact ⟨i,j,a,b,trivial,c⟩
 ·rintro ⟨i,j,a,b,_,c⟩;exact ⟨i,j,a,b,c⟩
theorem fy {g:Int->Int->V} {gd:Int->Int->D} (hg:∀ i j H,Rep K H (gd i j) (g i j) []):OpD K (rI0 g) (cV (fun _ _=>true) gd):=by
 rw [rI_of]
 exact gI (fun _ _ _=>trivial) hg
noncomputable abbrev m7:Int->Int->Bool:=fun _ _=>true
noncomputable abbrev addI:=cV m7 fun i j=>.int (i+j)
noncomputable abbrev jv:=cV m7 fun i j=>.int (i - j)
noncomputable abbrev gD:=cV (fun i j=>decide ((-(2 ^ 64) < i/\i < 2 ^ 64)\/(-(2 ^ 64) < j/\j < 2 ^ 64))) fun i j=>.int (i * j)
noncomputable abbrev pc:=cV (fun _ j=>decide (0 < j)) fun i j=>.int (i % j)
noncomputable abbrev qu:=cV (fun i j=>decide (0<=j/\j<=1000000/\i.natAbs < 2 ^ 64)) fun i j=>.int (i ^ j.toNat)
noncomputable abbrev ltI:=cV m7 fun i j=>.bl (decide (i < j))
noncomputable abbrev leI:=cV m7 fun i j=>.bl (decide (i<=j))
noncomputable abbrev gtI:=cV m7 fun i j=>.bl (decide (j < i))
noncomputable abbrev geI:=cV m7 fun i j=>.bl (decide (j<=i))
theorem od_addI:OpD K (rI0 fun i j=>.int (i+j)) addI:=fy fun i j _=>.int _
theorem cC:OpD K (rI0 fun i j=>.int (i - j)) jv:=fy fun i j _=>.int _
theorem b6:OpD K (rI CMul fun i j=>.int (i * j)) gD:=gI (fun i j h=>by simpa [CMul,uj,qa] using h) fun i j _=>.int _
theorem iQ:OpD K (rI (fun _ j=>0 < j) fun i j=>.int (i % j)) pc:=gI (fun i j h=>by simpa [CMul,uj,qa] using h) fun i j _=>.int _
theorem nE:OpD K (rI qa fun i j=>.int (i ^ j.toNat)) qu:=gI (fun i j h=>by simpa [CMul,uj,qa] using h) fun i j _=>.int _
theorem lx:OpD K (rI0 fun i j=>.bl (decide (i < j))) ltI:=fy fun i j _=>.bl _
theorem rM:OpD K (rI0 fun i j=>.bl (decide (i<=j))) leI:=fy fun i j _=>.bl _
theorem yT:OpD K (rI0 fun i j=>.bl (decide (j < i))) gtI:=fy fun i j _=>.bl _
theorem od_ge:OpD K (rI0 fun i j=>.bl (decide (j<=i))) geI:=fy fun i j _=>.bl _
noncomputable def yz:D->D->Option (D × Fl)
 | .tup xs,.tup ys=>if xs.length+ys.length<=16777216 then some (.tup (xs ++ ys),.z) else none
 | _,_=>none
noncomputable def yB:D->D->Option (D × Fl)
 | .lst xs,.lst ys=>if xs.length+ys.length<=16777216 then some (.lst (xs ++ ys),.u) else none
 | _,_=>none
noncomputable def yA:D->D->Option (D × Fl)
 | .str xs,.str ys=>if xs.length+ys.length<=16777216 then some (.str (xs ++ ys),.z) else none
 | _,_=>none
theorem Reps.len {ds:List D} {vs:List V} (r:Reps (Rep K H) ds vs L):ds.length=vs.length:=by
 induction r with
 | nil=>rfl
 | cons _ _ ih=>simp [ih]
theorem Reps.append {ds ds':List D} {vs vs':List V} {L L':List Addr} (r:Reps (Rep K H) ds vs L) (r':Reps (Rep K H) ds' vs' L'):Reps (Rep K H) (ds ++ ds') (vs ++ vs') (L ++ L'):=by
 induction r with
 | nil=>exact r'
 | cons a _ ih=>rw [List.append_assoc];exact .cons a ih
theorem Reps.nil_iff {ds:List D} {vs:List V} (r:Reps (Rep K H) ds vs L):ds=[] ↔ vs=[]:=by cases r <;> simp
noncomputable def nB (K:FG):R2:=fun x y H Q=>∃ a b ys,x=.ref a/\y=.ref b/\SqT K H a []/\SqT K H b ys/\Q (.ref b) H
theorem vv:OpR X (binaryOp .Add) (nB X.K):=by
 intro pins s σ H x y v u Q I rx ry h
 obtain ⟨a,b,ys,rfl,rfl,ha,hb,q⟩:=h
 cases rx
 cases ry
 obtain ⟨its,r1,p1,_⟩:=I.tuple ha
 obtain ⟨its2,r2,p2,_⟩:=I.tuple hb
 have e:its=[]:=r1.nil_iff.mpr rfl
 subst e
 obtain ⟨⟨cls,dd,data,sl⟩,ho,hc,n,hd⟩:=id p1
 obtain ⟨⟨cls2,dd2,data2,sl2⟩,ho2,hc2,n2,hd2⟩:=id p2
 simp only at hc hd hc2 hd2
 subst hc hd hc2 hd2
 exact concat_meets ⟨_,ho,rfl⟩ ⟨_,ho2,rfl⟩ noFill_tuple_add seq_tuple_add PySem.F.slot_tuple_add PySem.F.entry_tuple_add (PySem.F.args_tuple_add_2 _ _)
   (PyProof.Rows.tuple_addW0 a b _ _ n n2 dd dd2 sl sl2 (by simp)) ⟨ho,ho2,⟨.ref b,H,I,rfl,q⟩⟩
set_option tactic.hygienic true in
theorem od_catT:OpD K (fun x y H Q=>rH K x y H Q\/nB K x y H Q) yz:=fun a b H Q p ra rb e q=>by
 obtain ⟨da,va,La,fa⟩:=a
 obtain ⟨db,vb,Lb,fb⟩:=b
 obtain ⟨ra,oa⟩:=ra
 obtain ⟨rb,ob⟩:=rb
 dsimp only at ra rb
 cases da <;> try (exact nsE e)
 rename_i xs
 obtain ⟨pa,vs,rfl,ha,rs⟩:=ra.view
 cases db <;> try (exact nsE e)
 rename_i ys
 obtain ⟨pb,ws,rfl,hb,rs'⟩:=rb.view
 have e:(if xs.length+ys.length<=16777216 then some (D.tup (xs ++ ys),Fl.z) else none)=some p:=e
 split at e
 ·rename_i hl
  cases e
  by_cases hx:vs=[]
  ·have hx0:=rs.nil_iff.mpr hx
   subst hx hx0
   refine .inr ⟨pa,pb,ws,rfl,rfl,SqT.of ha,SqT.of hb,?_⟩
   exact q ⟨.tup ys,.ref pb,Lb,.z⟩ H (o9 (.tup hb rs') (jI (y:=⟨.tup ys,.ref pb,Lb,fb⟩) (AS _ (Bp.mpr rfl)) ⟨.tup hb rs',ob⟩ rfl)) rfl rfl
  ·refine .inl ⟨pa,pb,vs,ws,rfl,rfl,SqT.of ha,SqT.of hb,hx,by rw [<- rs.len,<- rs'.len,<- szl];exact hl,fun hw=>?_,fun hw p hp=>?_⟩
   ·have hy0:=rs'.nil_iff.mpr hw
    subst hy0
    refine q ⟨.tup (xs ++ []),.ref pa,La,.z⟩ H (o9 (by rw [List.append_nil];exact .tup ha rs) (jI (y:=⟨.tup xs,.ref pa,La,fa⟩) AR ⟨.tup ha rs,oa⟩ rfl)) rfl rfl
   ·refine q ⟨.tup (xs ++ ys),.ref p,La ++ Lb,.z⟩ _ (xU hp (rs.append rs') fun c hc=>?_) rfl rfl
    rcases A0.mp hc with h | h
    ·exact jI (y:=⟨.tup xs,.ref pa,La,fa⟩) AR ⟨.tup ha rs,oa⟩ rfl c h
    ·exact jI (y:=⟨.tup ys,.ref pb,Lb,fb⟩) (AS _ (Bp.mpr rfl)) ⟨.tup hb rs',ob⟩ rfl c h
 ·exact nsE e
set_option tactic.hygienic true in
theorem xS:OpD K xz yB:=fun a b H Q p ra rb e q=>by
 obtain ⟨da,va,La,fa⟩:=a
 obtain ⟨db,vb,Lb,fb⟩:=b
 obtain ⟨ra,oa⟩:=ra
 obtain ⟨rb,ob⟩:=rb
 dsimp only at ra rb
 cases da <;> try (exact nsE e)
 rename_i xs
 obtain ⟨pa,vs,La,rfl,rfl,ha,rs⟩:=ra.view
 cases db <;> try (exact nsE e)
 rename_i ys
 obtain ⟨pb,ws,Lb,rfl,rfl,hb,rs'⟩:=rb.view
 have e:(if xs.length+ys.length<=16777216 then some (D.lst (xs ++ ys),Fl.u) else none)=some p:=e
 split at e
 ·rename_i hl
  cases e
  refine ⟨pa,pb,vs,ws,rfl,rfl,ha,hb,by rw [<- rs.len,<- rs'.len,<- szl];exact hl,fun p hp=>?_⟩
  refine q ⟨.lst (xs ++ ys),.ref p,p :: (La ++ Lb),.u⟩ _ (tf hp (rs.append rs') fun c hc=>?_) rfl rfl
  rcases A0.mp hc with h | h
  ·exact pA (y:=⟨.lst xs,.ref pa,pa :: La,fa⟩) AR ⟨.lst ha rs,oa⟩ rfl rfl c h
  ·exact pA (y:=⟨.lst ys,.ref pb,pb :: Lb,fb⟩) (AS _ (Bp.mpr rfl)) ⟨.lst hb rs',ob⟩ rfl rfl c h
 ·exact nsE e
set_option tactic.hygienic true in
theorem od_catS:OpD K (fun x y H Q=>∃ i j,x=.str i/\y=.str j/\i.length+j.length<=sizeLine/\Q (.str (i ++ j)) H) yA:=fun a b H Q p ra rb e q=>by
 obtain ⟨da,va,La,fa⟩:=a
 obtain ⟨db,vb,Lb,fb⟩:=b
 obtain ⟨ra,oa⟩:=ra
 obtain ⟨rb,ob⟩:=rb
 dsimp only at ra rb
 cases da <;> try (exact nsE e)
 rename_i i
 obtain ⟨rfl,rfl⟩:=ra.view
 cases db <;> try (exact nsE e)
 rename_i j
 obtain ⟨rfl,rfl⟩:=rb.view
 have e:(if i.length+j.length<=16777216 then some (D.str (i ++ j),Fl.z) else none)=some p:=e
 split at e
 ·rename_i hl
  cases e
  exact ⟨i,j,rfl,rfl,by rw [<- szl];exact hl,q ⟨.str (i ++ j),.str (i ++ j),[],.z⟩ H (ip (.str _)) rfl rfl⟩
 ·exact nsE e
noncomputable abbrev bC:=orD addI (orD yA (orD yz yB))
theorem aR:OpD K (fun x y H Q=>rI0 (fun i j=>.int (i+j)) x y H Q\/((∃ i j,x=.str i/\y=.str j/\i.length+j.length<=sizeLine/\Q (.str (i ++ j)) H)\/((rH K x y H Q\/nB K x y H Q)\/xz x y H Q))) bC:=od_addI.or (od_catS.or (od_catT.or xS))
theorem aI:OpR X (binaryOp .Add) (fun x y H Q=>rI0 (fun i j=>.int (i+j)) x y H Q\/((∃ i j,x=.str i/\y=.str j/\i.length+j.length<=sizeLine/\Q (.str (i ++ j)) H)\/((rH X.K x y H Q\/nB X.K x y H Q)\/xz x y H Q))):=op_add.or (op_add_str.or ((op_catT.or vv).or Ac))
noncomputable def eqS:D->D->Option Bool
 | .non,.non=>some true | .non,.int _=>some false | .int _,.non=>some false | .non,.bl _=>some false | .bl _,.non=>some false | .non,.str _=>some false | .str _,.non=>some false
 | .int i,.int j=>some (decide (i=j)) | .bl i,.bl j=>some (decide (i=j)) | .str i,.str j=>some (decide (i=j))
 | .int _,.str _=>some false | .str _,.int _=>some false | .bl _,.str _=>some false | .str _,.bl _=>some false
 | _,_=>none
theorem wa {a b:D} {u v:V} {L L':List Addr} {k:Bool} (ra:Rep K H a u L) (rb:Rep K H b v L') (e:eqS a b=some k):zF u v=true/\k=decide (u=v):=by
 cases a <;> cases b <;> first | exact nsE e | (obtain ⟨rfl,rfl⟩:=ra.view;obtain ⟨rfl,rfl⟩:=rb.view;cases e;exact ⟨rfl,by simp⟩)
noncomputable def jD:D->Option (D × Fl)
 | .int i=>some (.int (-i),.z)
 | _=>none
theorem eY:UnD K (rU fun i=>.int (-i)) jD:=fun a H Q p ra e q=>by
 obtain ⟨da,va,La,fa⟩:=a
 obtain ⟨ra,oa⟩:=ra
 dsimp only at ra
 cases da <;> try (exact nsE e)
 obtain ⟨rfl,rfl⟩:=ra.view
 cases e
 exact ⟨_,rfl,q ⟨_,_,[],.z⟩ H (ip (.int _)) rfl rfl⟩
theorem Reps.at:∀ {ds:List D} {vs:List V} {L:List Addr} {i:Nat} {d:D},Reps (Rep K H) ds vs L->ds[i]?=some d->∃ v L',vs[i]?=some v/\Rep K H d v L'/\∀ c ∈ L',c ∈ L
 | _,_,_,_,_,.nil,h=>by simp at h
 | _,_,_,0,_,.cons r _,h=>by simp at h;subst h;exact ⟨_,_,rfl,r,fun c hc=>AV _ hc⟩
 | _,_,_,i+1,_,.cons _ t,h=>by
  obtain ⟨v,L',h1,h2,h3⟩:=Reps.at (i:=i) t (by simpa using h)
  exact ⟨v,L',by simpa using h1,h2,fun c hc=>AW _ (h3 c hc)⟩
theorem Reps.atI {ds:List D} {vs:List V} {i:Int} {d:D} (r:Reps (Rep K H) ds vs L) (h:atI ds i=some d):∃ v L',atI vs i=some v/\Rep K H d v L'/\∀ c ∈ L',c ∈ L:=by
 unfold L2.atI at h ⊢
 rw [<- r.len]
 cases e:ixN ds.length i with
 | none=>rw [e] at h;exact nsE h
 | some j=>rw [e] at h;exact r.at h
noncomputable def ixD:D->D->Option (D × Fl)
 | .lst xs,.int i=>(atI xs i).map fun d=>(d,.z)
 | .fls xs,.int i=>(atI xs i).map fun d=>(d,.z)
 | .tup xs,.int i=>(atI xs i).map fun d=>(d,.z)
 | _,_=>none
set_option tactic.hygienic true in
theorem od_ix:OpD K (fun x y H Q=>u5 K x y H Q\/u3 K x y H Q) ixD:=fun a b H Q p ra rb e q=>by
 obtain ⟨da,va,La,fa⟩:=a
 obtain ⟨db,vb,Lb,fb⟩:=b
 obtain ⟨rb,ob⟩:=rb
 have ra0:=ra
 obtain ⟨ra,oa⟩:=ra
 dsimp only at ra rb
 cases da <;> try (exact nsE e)
 all_goals (cases db <;> try (exact nsE e))
 all_goals (rename_i xs i;obtain ⟨rfl,rfl⟩:=rb.view)
 ·obtain ⟨pa,vs,rfl,ha,rs⟩:=ra.view
  obtain ⟨d,h1,h2⟩:=AU.mp (show (atI xs i).map (fun d=>(d,Fl.z))=some p from e)
  subst h2
  obtain ⟨v,L',g1,g2,g3⟩:=rs.atI h1
  refine .inr ⟨pa,vs,i,v,rfl,rfl,SqT.of ha,g1,q ⟨d,v,L',.z⟩ H (o9 g2 fun c hc=>?_) rfl rfl⟩
  exact jI (y:=⟨.tup xs,.ref pa,La,fa⟩) AR ra0 rfl c (g3 c hc)
 ·obtain ⟨pa,vs,La,rfl,rfl,ha,rs⟩:=ra.view
  obtain ⟨d,h1,h2⟩:=AU.mp (show (atI xs i).map (fun d=>(d,Fl.z))=some p from e)
  subst h2
  obtain ⟨v,L',g1,g2,g3⟩:=rs.atI h1
  refine .inl ⟨pa,vs,i,v,rfl,rfl,SqL.of ha,g1,q ⟨d,v,L',.z⟩ H (o9 g2 fun c hc=>?_) rfl rfl⟩
  exact pA (y:=⟨.lst xs,.ref pa,pa :: La,fa⟩) AR ra0 rfl rfl c (g3 c hc)
 ·obtain ⟨pa,vs,rfl,ha,rs⟩:=ra.view
  obtain ⟨d,h1,h2⟩:=AU.mp (show (atI xs i).map (fun d=>(d,Fl.z))=some p from e)
  subst h2
  obtain ⟨v,L',g1,g2,g3⟩:=rs.atI h1
  refine .inl ⟨pa,vs,i,v,rfl,rfl,ha.sq,g1,q ⟨d,v,L',.z⟩ H (o9 g2 fun c hc=>?_) rfl rfl⟩
  exact jI (y:=⟨.fls xs,.ref pa,La,fa⟩) AR ra0 rfl c (g3 c hc)
theorem ix_ok:IxR X (fun x y H Q=>u5 X.K x y H Q\/u3 X.K x y H Q):=ix_list.or Ax
end
end L3
end
section
namespace L3
open PySem L2
section
variable {K:FG} {H:Hp} {Ks:Addr->Prop} {d:D} {v:V} {L:List Addr} {X:Cx}
noncomputable def c1 (f:D->Option (D × Fl)):List D->Option (D × Fl)
 | [d]=>f d
 | _=>none
noncomputable def c2 (f:D->D->Option (D × Fl)):List D->Option (D × Fl)
 | [d,d']=>f d d'
 | _=>none
theorem kc {ys:List It3} {f:D->Option (D × Fl)} {p:D × Fl} (e:c1 f (ys.map (·.d))=some p):∃ y,ys=[y]/\f y.d=some p:=by
 match ys,e with
 | [],e=>exact nsE e
 | [y],e=>exact ⟨y,rfl,e⟩
 | _ :: _ :: _,e=>exact nsE e
theorem oi {ys:List It3} {f:D->D->Option (D × Fl)} {p:D × Fl} (e:c2 f (ys.map (·.d))=some p):∃ y z,ys=[y,z]/\f y.d z.d=some p:=by
 match ys,e with
 | [],e=>exact nsE e
 | [_],e=>exact nsE e
 | [y,z],e=>exact ⟨y,z,rfl,e⟩
 | _ :: _ :: _ :: _,e=>exact nsE e
noncomputable def vM:D->Option (D × Fl)
 | .lst xs=>some (.int xs.length,.z)
 | .fls xs=>some (.int xs.length,.z)
 | .tup xs=>some (.int xs.length,.z)
 | _=>none
noncomputable abbrev d6:=c1 vM
set_option tactic.hygienic true in
theorem cv:gU K (fun xs H Q=>∃ p ys,xs=[.ref p]/\(SqL K H p ys\/SqT K H p ys)/\Q (.int ys.length) H) d6:=fun ys H Q p ra e q=>by
 obtain ⟨y,rfl,e2⟩:=kc e
 clear e
 have e:=e2
 clear e2
 have rr:=(ra y AR).rep
 obtain ⟨da,va,La,fa⟩:=y
 dsimp only at rr e
 cases da <;> try (exact nsE e)
 ·rename_i xs
  obtain ⟨pa,vs,rfl,ha,rs⟩:=rr.view
  cases e
  exact ⟨pa,vs,rfl,.inr (SqT.of ha),by rw [<- rs.len];exact q ⟨_,_,[],.z⟩ H (ip (.int _)) rfl rfl⟩
 ·rename_i xs
  obtain ⟨pa,vs,La,rfl,rfl,ha,rs⟩:=rr.view
  cases e
  exact ⟨pa,vs,rfl,.inl (SqL.of ha),by rw [<- rs.len];exact q ⟨_,_,[],.z⟩ H (ip (.int _)) rfl rfl⟩
 ·rename_i xs
  obtain ⟨pa,vs,rfl,ha,rs⟩:=rr.view
  cases e
  exact ⟨pa,vs,rfl,.inl ha.sq,by rw [<- rs.len];exact q ⟨_,_,[],.z⟩ H (ip (.int _)) rfl rfl⟩
noncomputable def tupQ:D->Option (D × Fl)
 | .lst xs=>some (.tup xs,.z)
 | .tup xs=>some (.tup xs,.z)
 | _=>none
noncomputable abbrev m9:=c1 tupQ
set_option tactic.hygienic true in
theorem lO:gU K (fun xs H Q=>∃ p ys,xs=[.ref p]/\((SqL K H p ys/\∀ l,H l=none->Q (.ref l) (upd H l (.tup ys)))\/(SqT K H p ys/\Q (.ref p) H))) m9:=fun ys H Q p ra e q=>by
 obtain ⟨y,rfl,e2⟩:=kc e
 clear e
 have e:=e2
 clear e2
 have ry:=ra y AR
 have rr:=ry.rep
 obtain ⟨da,va,La,fa⟩:=y
 dsimp only at rr e
 cases da <;> try (exact nsE e)
 ·rename_i xs
  obtain ⟨pa,vs,rfl,ha,rs⟩:=rr.view
  cases e
  exact ⟨pa,vs,rfl,.inr ⟨SqT.of ha,q ⟨.tup xs,.ref pa,La,.z⟩ H (o9 (.tup ha rs) (jI (y:=⟨.tup xs,.ref pa,La,fa⟩) AR ry rfl)) rfl rfl⟩⟩
 ·rename_i xs
  obtain ⟨pa,vs,La,rfl,rfl,ha,rs⟩:=rr.view
  cases e
  exact ⟨pa,vs,rfl,.inl ⟨SqL.of ha,fun l hl=>q ⟨.tup xs,.ref l,La,.z⟩ _ (xU hl rs (pA (y:=⟨.lst xs,.ref pa,pa :: La,fa⟩) AR ry rfl rfl)) rfl rfl⟩⟩
noncomputable def lstQ:D->Option (D × Fl)
 | .lst xs=>some (.lst xs,.u)
 | .tup xs=>some (.lst xs,.u)
 | _=>none
noncomputable abbrev Ao:=c1 lstQ
set_option tactic.hygienic true in
theorem AG:gU K (fun xs H Q=>∃ p ys,xs=[.ref p]/\(SqL K H p ys\/SqT K H p ys)/\∀ l,H l=none->Q (.ref l) (upd H l (.lst ys))) Ao:=fun ys H Q p ra e q=>by
 obtain ⟨y,rfl,e2⟩:=kc e
 clear e
 have e:=e2
 clear e2
 have ry:=ra y AR
 have rr:=ry.rep
 obtain ⟨da,va,La,fa⟩:=y
 dsimp only at rr e
 cases da <;> try (exact nsE e)
 ·rename_i xs
  obtain ⟨pa,vs,rfl,ha,rs⟩:=rr.view
  cases e
  exact ⟨pa,vs,rfl,.inr (SqT.of ha),fun l hl=>q ⟨.lst xs,.ref l,l :: La,.u⟩ _ (tf hl rs (jI (y:=⟨.tup xs,.ref pa,La,fa⟩) AR ry rfl)) rfl rfl⟩
 ·rename_i xs
  obtain ⟨pa,vs,La,rfl,rfl,ha,rs⟩:=rr.view
  cases e
  exact ⟨pa,vs,rfl,.inl (SqL.of ha),fun l hl=>q ⟨.lst xs,.ref l,l :: La,.u⟩ _ (tf hl rs (pA (y:=⟨.lst xs,.ref pa,pa :: La,fa⟩) AR ry rfl rfl)) rfl rfl⟩
noncomputable def absQ:D->Option (D × Fl)
 | .int i=>some (.int (if i < 0 then -i else i),.z)
 | _=>none
theorem Rep.int_inv {i:Int} (r:Rep K H (.int i) v L):v=.int i:=by cases r;rfl
noncomputable def pC (C:Int->Int->Bool) (g:Int->Int->D):D->D->Option (D × Fl)
 | .int i,.int j=>if C i j then some (g i j,.z) else none
 | _,_=>none
set_option tactic.hygienic true in
theorem j4 {a b:D} {C:Int->Int->Bool} {g:Int->Int->D} {p:D × Fl} (e:pC C g a b=some p):∃ i j,a=.int i/\b=.int j/\C i j=true/\p=(g i j,.z):=by
 cases a <;> cases b <;> try (exact nsE e)
 rename_i i j
 have e:(if C i j then some (g i j,Fl.z) else none)=some p:=e
 split at e
 ·rename_i h;cases e;exact ⟨i,j,rfl,rfl,h,rfl⟩
 ·exact nsE e
noncomputable abbrev yV:=c2 (pC m7 fun i j=>.int (if j > i then j else i))
noncomputable abbrev yU:=c2 (pC m7 fun i j=>.int (if j < i then j else i))
noncomputable abbrev wj:=c2 (pC (fun _ j=>decide (0 < j/\j < 1073741824)) fun i j=>.tup [.int (i / j),.int (i % j)])
theorem yx:gU K (fun xs H Q=>∃ i j,xs=[.int i,.int j]/\Q (.int (if j > i then j else i)) H) yV:=fun ys H Q p ra e q=>by
 obtain ⟨y,z,rfl,e2⟩:=oi e
 clear e
 have e:=e2
 clear e2
 obtain ⟨i,j,ei,ej,_,rfl⟩:=j4 e
 have r1:=(ra y AR).rep
 have r2:=(ra z (AS _ AR)).rep
 rw [ei] at r1
 rw [ej] at r2
 refine ⟨i,j,?_,q ⟨_,_,[],.z⟩ H (ip (.int _)) rfl rfl⟩
 show [y.v,z.v]=_
 rw [r1.int_inv,r2.int_inv]
theorem yw:gU K (fun xs H Q=>∃ i j,xs=[.int i,.int j]/\Q (.int (if j < i then j else i)) H) yU:=fun ys H Q p ra e q=>by
 obtain ⟨y,z,rfl,e2⟩:=oi e
 clear e
 have e:=e2
 clear e2
 obtain ⟨i,j,ei,ej,_,rfl⟩:=j4 e
 have r1:=(ra y AR).rep
 have r2:=(ra z (AS _ AR)).rep
 rw [ei] at r1
 rw [ej] at r2
 refine ⟨i,j,?_,q ⟨_,_,[],.z⟩ H (ip (.int _)) rfl rfl⟩
 show [y.v,z.v]=_
 rw [r1.int_inv,r2.int_inv]
theorem tZ:gU K (fun xs H Q=>∃ i j,xs=[.int i,.int j]/\uj i j/\∀ p,H p=none->Q (.ref p) (upd H p (.tup [.int (i / j),.int (i % j)]))) wj:=fun ys H Q p ra e q=>by
 obtain ⟨y,z,rfl,e2⟩:=oi e
 clear e
 have e:=e2
 clear e2
 obtain ⟨i,j,ei,ej,hc,rfl⟩:=j4 e
 have r1:=(ra y AR).rep
 have r2:=(ra z (AS _ AR)).rep
 rw [ei] at r1
 rw [ej] at r2
 refine ⟨i,j,?_,by simpa [uj] using hc,fun p hp=>q ⟨_,.ref p,[],.z⟩ _ (xU hp (L:=[]) (.cons (L:=[]) (.int _) (.cons (L:=[]) (.int _) .nil)) fun c hc=>by cases hc) rfl rfl⟩
 show [y.v,z.v]=_
 rw [r1.int_inv,r2.int_inv]
noncomputable def jb:List D->Option (List Bool)
 | []=>some []
 | .bl b :: ds=>(jb ds).map (b :: ·)
 | _=>none
set_option tactic.hygienic true in
theorem pX:∀ {ds:List D} {bs:List Bool},jb ds=some bs->ds=bs.map D.bl
 | [],bs,e=>by cases e;rfl
 | d :: ds,bs,e=>by
  cases d <;> try (exact nsE e)
  rename_i b
  obtain ⟨r,h1,h2⟩:=AU.mp (show (jb ds).map (b :: ·)=some bs from e)
  subst h2
  rw [pX h1];rfl
theorem Reps.bls:∀ {bs:List Bool} {vs:List V} {L:List Addr},Reps (Rep K H) (bs.map D.bl) vs L->vs=bs.map V.bl
 | [],_,_,.nil=>rfl
 | b :: bs,_,_,.cons r rs=>by
  rw [Reps.bls rs]
  cases r;rfl
noncomputable def AM:D->Option (D × Fl)
 | .lst xs=>(jb xs).map fun bs=>(.bl (bs.all id),.z)
 | _=>none
noncomputable abbrev lU:=c1 AM
set_option tactic.hygienic true in
theorem iJ:gU K (fun xs H Q=>∃ (a:Addr) (bs:List Bool),xs=[.ref a]/\SqL K H a (bs.map V.bl)/\Q (.bl (bs.all id)) H) lU:=fun ys H Q p ra e q=>by
 obtain ⟨y,rfl,e2⟩:=kc e
 clear e
 have e:=e2
 clear e2
 have rr:=(ra y AR).rep
 obtain ⟨da,va,La,fa⟩:=y
 dsimp only at rr e
 cases da <;> try (exact nsE e)
 rename_i xs
 obtain ⟨pa,vs,La,rfl,rfl,ha,rs⟩:=rr.view
 obtain ⟨bs,h1,h2⟩:=AU.mp (show (jb xs).map (fun bs=>(D.bl (bs.all id),Fl.z))=some p from e)
 subst h2
 have:=pX h1
 subst this
 have:=rs.bls
 subst this
 exact ⟨pa,bs,rfl,SqL.of ha,q ⟨_,_,[],.z⟩ H (ip (.bl _)) rfl rfl⟩
noncomputable def fG (xs:List D) (lo hi:Option Int):List D:=(xs.drop (HT.sIx xs.length 0 lo)).take (HT.sIx xs.length xs.length hi - HT.sIx xs.length 0 lo)
end
end L3
end
section
namespace L3
open PySem L2
noncomputable def yP:D->Option (List D)
 | .lst xs=>some xs
 | .fls xs=>some xs
 | .tup xs=>some xs
 | _=>none
noncomputable def cu (m:EM):IM:=ag m fun r=>ag (der r) fun d=>bB ((yP d).map fun ds=>([r],ds))
noncomputable def iSeq (K:FG) (tl:TE):TI:=fun σ H R=>tl σ H fun x H1=>(∃ a,x=.ref a/\(∃ xs,SqL K H1 a xs)/\R (Itl K a) H1)\/∃ a,x=.ref a/\(∃ xs,SqT K H1 a xs)/\R (Itt K a) H1
theorem zW {X:Cx} {tg l:Expr} {tl:TE} (hl:PE X l tl):PI X tg l (iSeq X.K tl):=by
 intro pins s σ H R I h
 exact thn (hl pins s σ H _ I h) fun v s1 ⟨x,H1,I1,r1,q1⟩=>by
   rcases q1 with ⟨a,e,⟨xs,hq⟩,q⟩ | ⟨a,e,⟨xs,hq⟩,q⟩
   ·subst e
    cases r1
    obtain ⟨its,rv,p,hz⟩:=I1.list hq
    refine wpAny_pyIter_list p.isList ?_
    refine ⟨s1.heap.objs.size,[s1.heap.objs.size],_,_,H1,rfl,I1.kept (t':=s1.toks) fun b o e=>AT _ e,sH a _,⟨_,A1 _ rfl,rfl,rfl⟩,fun b hb=>?_,q⟩
    have e:b=s1.heap.objs.size:=by simpa using hb
    subst e
    exact I1.fpOk (A8 _) (I1.hok.fresh (A8 _))
   ·subst e
    cases r1
    obtain ⟨its,rv,p,hz⟩:=I1.tuple hq
    refine wpAny_pyIter_tuple (show s1.heap.IsTuple a its.toArray from p) ?_
    refine ⟨s1.heap.objs.size,[s1.heap.objs.size],_,_,H1,rfl,I1.kept (t':=s1.toks) fun b o e=>AT _ e,qc a _,⟨_,A1 _ rfl,rfl,rfl⟩,fun b hb=>?_,q⟩
    have e:b=s1.heap.objs.size:=by simpa using hb
    subst e
    exact I1.fpOk (A8 _) (I1.hok.fresh (A8 _))
section
variable {K:FG} {G G0:Gm} {W W0:D->Sto->Prop} {H H':Hp} {σ:St} {ρ ρ':Sto} {T T':List It3} {g:Nat->Option It3} {x y z:It3} {α β:Type} {X:Cx}
theorem Ar.item2 {r:R3} {v:V} {Ts:List It3} {d:D} (w:Wf K G H σ ρ (Ts ++ T) g) (a:Ar σ r v Ts) (e:der r ρ=some (.ok d,ρ)):∃ y,y.d=d/\y.v=v/\((∃ i,i ∈ pls [r]/\g i=some y)\/y ∈ Ts):=by
 cases a with
 | @pl i v h =>
  have er:der (.pl i) ρ=((ρ[i]?).join).map fun p=>(.ok p.1,ρ):=rfl
  rw [er] at e
  cases q:(ρ[i]?).join with
  | none=>rw [q] at e;exact nsE e
  | some p =>
   rw [q] at e
   obtain ⟨y,e1,e2,e3,e4⟩:=w.slot (d:=p.1) (f:=p.2) q
   have e5:p.1=d:=by cases e;rfl
   rw [h] at e4
   injection e4 with e4
   injection e4 with e4
   exact ⟨y,e2.trans e5,e4.symm,.inl ⟨i,AR,e1⟩⟩
 | val x=>cases e;exact ⟨x,rfl,rfl,.inr (by simp)⟩
theorem m8 {J:It} {H1:Hp} {y:It3} {ds:List D} {vs:List V} {L0:List Addr} (hr:Reps (Rep K H1) ds vs L0) (hk:∀ c ∈ L0,eB [y] c) (hL:∀ c ∈ L0,c ∈ y.L)
  (hgo:∀ (M:Addr->Prop) (H':Hp),(∀ b,M b->MutAt H1 b)->(∀ b o,H1 b=some o->¬ M b->H' b=some o)->(∀ b ∈ y.L,¬ M b)->(∀ (i:Nat) (v:V),vs[i]?=some v->J.go i H'/\∀ x H'',J.yld i H' x H''->H''=H'/\x=v)/\J.stop vs.length H'):Walk K J H1 [y] ds:=by
 obtain ⟨ws,h1,h2,h3⟩:=Reps.split hr
 refine ⟨ws,fun x hx=>⟨(h3 x hx).1,(h3 x hx).2.1,fun c hc=>hk c ((h3 x hx).2.2 c hc)⟩,fun M H' hm hkp hM=>?_⟩
 obtain ⟨go,stop⟩:=hgo M H' hm hkp (hM y AR)
 refine ⟨fun i d hd=>?_,by rw [hr.len];exact stop⟩
 have hi:∃ u,ws[i]?=some u/\u.d=d:=by
  rw [<- h1,A7] at hd
  obtain ⟨u,a,b⟩:=AU.mp hd
  exact ⟨u,a,b⟩
 obtain ⟨u,eu,ud⟩:=hi
 have hv:vs[i]?=some u.v:=by rw [<- h2,A7,eu];rfl
 obtain ⟨g1,g2⟩:=go i u.v hv
 refine ⟨g1,fun x H'' hy=>?_⟩
 obtain ⟨e1,e2⟩:=g2 x H'' hy
 subst e1 e2
 have hu:=A4 eu
 refine ⟨u,⟨Same.refl _,(h3 u hu).2.1.keep hkp hm fun b hb=>hM y AR b (hL b ((h3 u hu).2.2 b hb)),fun c hc=>.inr ⟨u,hu,hc⟩,fun hf=>absurd (h3 u hu).1 hf⟩,ud,(h3 u hu).1,rfl⟩
theorem mi {y:It3} {a:Addr} {ds:List D} {vs:List V} (hq:∀ H',SqL K H' a vs->True) (hs:∀ (M:Addr->Prop) (H':Hp),(∀ b,M b->MutAt H b)->(∀ b o,H b=some o->¬ M b->H' b=some o)->(∀ b ∈ y.L,¬ M b)->SqL K H' a vs) :
  ∀ (M:Addr->Prop) (H':Hp),(∀ b,M b->MutAt H b)->(∀ b o,H b=some o->¬ M b->H' b=some o)->(∀ b ∈ y.L,¬ M b)->(∀ (i:Nat) (v:V),vs[i]?=some v->(Itl K a).go i H'/\∀ x H'',(Itl K a).yld i H' x H''->H''=H'/\x=v)/\(Itl K a).stop vs.length H':=fun M H' hm hk hM=>by
 have sq:SqL K H' a vs:=hs M H' hm hk hM
 refine ⟨fun i v hv=>⟨⟨vs,v,sq,hv⟩,fun x H'' ⟨e1,e2⟩=>⟨e1,?_⟩⟩,⟨vs,sq,A8 _⟩⟩
 have:=e2 vs sq
 rw [hv] at this
 injection this with this
 exact this.symm
theorem zv {m:EM} {R:It->Hp->Prop} (h:tI K G0 W0 (cu m) σ H R):iSeq K (tE K G0 W0 m) σ H R:=by
 obtain ⟨G,W,le,ρ,T,g,o,ρ',w,e,q⟩:=h
 have herr:∀ x,o=.error x->W x ρ':=fun x hx=>by subst hx;exact q
 refine tE.seq le w e herr fun ra ρ1 e1 v H1 ⟨Ts,g1,w1,a1⟩=>?_
 obtain ⟨d,d1,e2⟩:=bq e1
 obtain ⟨p,e3,rfl,rfl⟩:=cN e2
 obtain ⟨ds,e4,e5⟩:=AU.mp e3
 subst e5
 obtain ⟨y,y1,y2,y3⟩:=a1.item2 w1 d1
 have hy:Itm (Ts ++ T) g1 y:=by
  rcases y3 with ⟨i,_,ei⟩ | h
  ·exact .inl ⟨i,ei⟩
  ·exact .inr (AV _ h)
 have ar:=(w1.itm hy).arg
 have qq:∀ J,Walk K J H1 [y] ds->R J H1:=fun J hw=>q J H1 [v] Ts g1 [y] w1 (by simpa using Ars.cons a1 .nil) (fun z hz=>by rw [Bp.mp hz];exact y3) hw
 clear e1 e2 e3 q
 subst y1 y2
 have ar0:=ar
 obtain ⟨da,va,La,fa⟩:=y
 obtain ⟨rr,oo⟩:=ar
 dsimp only at rr e4
 cases da with
 | tup xs =>
  obtain ⟨pa,vs,rfl,ha,rs⟩:=rr.view
  cases e4
  refine .inr ⟨pa,rfl,⟨_,SqT.of ha⟩,qq _ (m8 rs (jI (y:=⟨.tup ds,.ref pa,La,fa⟩) AR ar0 rfl) (fun c hc=>hc) fun M H' hm hk hM=>?_)⟩
  have sq:SqT K H' pa vs:=SqT.of (hk pa _ ha fun z=>(hm pa z).notup ha)
  refine ⟨fun i v hv=>⟨⟨vs,v,sq,hv⟩,fun x H'' ⟨e1,e2⟩=>⟨e1,?_⟩⟩,⟨vs,sq,A8 _⟩⟩
  have:=e2 vs sq
  rw [hv] at this
  injection this with this
  exact this.symm
 | lst xs =>
  obtain ⟨pa,vs,La,rfl,rfl,ha,rs⟩:=rr.view
  cases e4
  refine .inl ⟨pa,rfl,⟨_,SqL.of ha⟩,qq _ (m8 rs (pA (y:=⟨.lst ds,.ref pa,pa :: La,fa⟩) AR ar0 rfl rfl) (fun c hc=>AS _ hc) (mi (ds:=ds) (fun _ _=>trivial) fun M H' hm hk hM=>SqL.of (hk pa _ ha (hM pa AR))))⟩
 | fls xs =>
  obtain ⟨pa,vs,rfl,ha,rs⟩:=rr.view
  cases e4
  refine .inl ⟨pa,rfl,⟨_,ha.sq⟩,qq _ (m8 rs (jI (y:=⟨.fls ds,.ref pa,La,fa⟩) AR ar0 rfl) (fun c hc=>hc) (mi (ds:=ds) (fun _ _=>trivial) fun M H' hm hk hM=>(ha.keep hk hm).sq))⟩
 | _=>exact nsE e4
theorem cR {tg l:Expr} {m:EM} (h:RE X G0 W0 l m):RI X G0 W0 tg l (cu m):=⟨PI.imp (zW h.h) fun _ _ _ h=>zv h⟩
noncomputable def bx (lo:Int) (n:Nat):List D:=(List.range n).map fun (k:Nat)=>D.int (lo+(k:Int))
theorem oA {H1:Hp} {ys:List It3} {lo:Int} {n:Nat}:Walk K (Itr lo n) H1 ys (bx lo n):=by
 refine ⟨[],fun x hx=>(by cases hx),fun M H' _ _ _=>⟨fun i d hd=>?_,?_⟩⟩
 ·unfold bx at hd
  rw [A7] at hd
  obtain ⟨k,a,b⟩:=AU.mp hd
  obtain ⟨hk,e⟩:=A3.mp a
  rw [List.getElem_range] at e
  subst e
  rw [List.length_range] at hk
  refine ⟨hk,fun x H'' ⟨e1,e2⟩=>?_⟩
  subst e1
  exact ⟨⟨d,x,[],.z⟩,ip (by rw [<- b,e2];exact .int _),rfl,rfl,rfl⟩
 ·show n<=(bx lo n).length
  unfold bx
  simp
noncomputable def gS (j:Int):Bool:=decide (-(2 ^ 62)<=j/\j < 2 ^ 62)
noncomputable def bQ:List D->Option (List D)
 | [.int j]=>if gS j then some (bx 0 j.toNat) else none
 | _=>none
noncomputable def ie:List D->Option (List D)
 | [.int i,.int j]=>if gS i && gS j then some (bx i (j - i).toNat) else none
 | _=>none
noncomputable def aT (f:List D->Option (List D)) (ms:M3 (List R3)):IM:=ag ms fun rs=>ag (gJ rs) fun ds=>bB ((f ds).map fun xs=>([],xs))
set_option tactic.hygienic true in
theorem wT {ms:M3 (List R3)} {R:It->Hp->Prop} (h:tI K G0 W0 (aT bQ ms) σ H R):y7 (tA K G0 W0 ms) σ H R:=by
 obtain ⟨G,W,le,ρ,T,g,o,ρ',w,e,q⟩:=h
 have herr:∀ x,o=.error x->W x ρ':=fun x hx=>by subst hx;exact q
 refine tA.seq le w e herr fun rs ρ1 e1 vs H1 Ts g1 w1 a1=>?_
 obtain ⟨ds,d1,e2⟩:=eV e1
 obtain ⟨p,e3,rfl,rfl⟩:=cN e2
 obtain ⟨xs,e4,e5⟩:=AU.mp e3
 subst e5
 obtain ⟨ys,i1,f1,f2⟩:=a1.items w1 (fun x hx=>AV _ hx) d1
 subst f1 f2
 match ys,e4,i1,a1 with
 | [],e4,_,_=>exact nsE e4
 | y :: z :: r,e4,_,_=>cases hd:y.d <;> (rw [Bc,Bc,hd] at e4;exact nsE e4)
 | [y],e4,i1,a1 =>
  have rr:=(w1.itm (i1 y AR)).rep
  cases hd:y.d <;> (rw [Bc,hd] at e4;try (exact nsE e4))
  rename_i j
  rw [hd] at rr
  have e4:(if gS j then some (bx 0 j.toNat) else none)=some xs:=e4
  split at e4
  ·rename_i hj
   cases e4
   have hj:=of_decide_eq_true hj
   refine ⟨j,by show [y.v]=_;rw [rr.int_inv],hj.1,hj.2,?_⟩
   exact q _ H1 [] [] g1 [] (w1.sub (A5 Ts T)) .nil (fun _ h=>by cases h) oA
  ·exact nsE e4
set_option tactic.hygienic true in
theorem wS {ms:M3 (List R3)} {R:It->Hp->Prop} (h:tI K G0 W0 (aT ie ms) σ H R):y6 (tA K G0 W0 ms) σ H R:=by
 obtain ⟨G,W,le,ρ,T,g,o,ρ',w,e,q⟩:=h
 have herr:∀ x,o=.error x->W x ρ':=fun x hx=>by subst hx;exact q
 refine tA.seq le w e herr fun rs ρ1 e1 vs H1 Ts g1 w1 a1=>?_
 obtain ⟨ds,d1,e2⟩:=eV e1
 obtain ⟨p,e3,rfl,rfl⟩:=cN e2
 obtain ⟨xs,e4,e5⟩:=AU.mp e3
 subst e5
 obtain ⟨ys,i1,f1,f2⟩:=a1.items w1 (fun x hx=>AV _ hx) d1
 subst f1 f2
 have inv:∀ {ds:List D},ie ds=some xs->∃ i j,ds=[.int i,.int j]/\gS i=true/\gS j=true/\xs=bx i (j - i).toNat:=fun {ds} h=>by
  unfold ie at h
  split at h
  ·rename_i i j
   split at h
   ·rename_i hh
    cases h
    simp only [Bool.and_eq_true] at hh
    exact ⟨i,j,rfl,hh.1,hh.2,rfl⟩
   ·exact nsE h
  ·exact nsE h
 obtain ⟨i,j,eds,hi,hj,rfl⟩:=inv e4
 match ys,eds,i1,a1 with
 | [],eds,_,_=>cases eds
 | [y],eds,_,_=>exact absurd (congrArg List.length eds) (by simp)
 | y :: z :: u :: r,eds,_,_=>exact absurd (congrArg List.length eds) (by simp)
 | [y,z],eds,i1,a1 =>
  have r1:=(w1.itm (i1 y AR)).rep
  have r2:=(w1.itm (i1 z (AS _ AR))).rep
  have h1:y.d=.int i:=by injection eds
  have h2:z.d=.int j:=by injection eds with _ h;injection h
  rw [h1] at r1
  rw [h2] at r2
  have hi:=of_decide_eq_true hi
  have hj:=of_decide_eq_true hj
  refine ⟨i,j,by show [y.v,z.v]=_;rw [r1.int_inv,r2.int_inv],⟨hi.1,hi.2,hj.1,hj.2⟩,?_⟩
  exact q _ H1 [] [] g1 [] (w1.sub (A5 Ts T)) .nil (fun _ h=>by cases h) oA
theorem b5 {tg a:Expr} {p pos:Pos} {ms:M3 (List R3)} (hg:Gl X "range") (hm:X.mg "range"=none) (ha:RA X G0 W0 [a] ms) (hs:starEach [a] X.env=[(false,eval a X.env)]):RI X G0 W0 tg (.Call (.Name "range" p) [a] [] pos) (aT bQ ms):=⟨PI.imp (sY hg hm ha.h hs) fun _ _ _ h=>wT h⟩
theorem iP {tg a b:Expr} {p pos:Pos} {ms:M3 (List R3)} (hg:Gl X "range") (hm:X.mg "range"=none) (ha:RA X G0 W0 [a,b] ms) (hs:starEach [a,b] X.env=[(false,eval a X.env),(false,eval b X.env)]) (hs2:starEach [b] X.env=[(false,eval b X.env)]):RI X G0 W0 tg (.Call (.Name "range" p) [a,b] [] pos) (aT ie ms):=⟨PI.imp (sX hg hm ha.h hs hs2) fun _ _ _ h=>wS h⟩
end
end L3
end
section
namespace L3
open PySem L2
section
variable {K:FG} {G G0:Gm} {W W0:D->Sto->Prop} {H H':Hp} {σ:St} {ρ ρ':Sto} {T T':List It3} {g:Nat->Option It3} {x y z:It3} {α β:Type} {X:Cx} {L:List Addr}
noncomputable def uM (bnd:D->Sto->Option Sto) (m:EM):SM:=ag m fun r=>ag (gP r) fun p=>fun ρ=>(bnd p.1 ρ).map fun ρ1=>(.ok .nx,ρ1)
theorem zr {bnd:D->Sto->Option Sto} {tg:TG} {m:EM} {E:Ends} (hb:Bnd K G0.pr tg bnd) (h:tS K G0 W0 (uM bnd m) E σ H):uz (tE K G0 W0 m) tg E σ H:=by
 refine h.use fun G W le ρ T g r ρ' w e q=>?_
 refine tE.seq le w e q.err fun ra ρ1 e1 v H1 ⟨Ts,g1,w1,a1⟩=>?_
 obtain ⟨p,ρ2,g2,x,e2,w2,f1,_,_,f3⟩:=a1.take w1 e1
 have w3:=Wf.lowT (Ts:=[x]) w2
 obtain ⟨ρ3,e3,e4⟩:=AU.mp e2
 cases e4
 rw [<- f3]
 exact hb G H1 σ ρ2 _ T g2 (eA x) _ le.pr rfl w3 (by show bnd x.d ρ2=_;rw [f1];exact e3) fun σ2 g3 w4=>q _ _ _ w4
theorem zL {tg e:Expr} {pos:Pos} {bnd:D->Sto->Option Sto} {m:EM} (hg:RG X G0.pr tg bnd) (he:RE X G0 W0 e m) (hs:swapsWithSole [tg] e pos.line X.env=pure false) (hw:swappedStores [tg] e X.env=pure none) (h1:(assignEach [tg] X.env).map (·.2)=[assign tg X.env]):RS X G0 W0 (.Assign [tg] e pos) (uM bnd m):=by
 obtain ⟨g,a,b⟩:=hg.h
 exact ⟨PS.imp (vf he.h a hs hw h1) fun _ _ _ h=>zr b h⟩
theorem ql {i:Nat} {y:Str} {py spos:Pos} {elt tg iter:Expr} {ifs:List Expr} {scope:Scope} {pos:Pos} {im:IM} {bnd:D->Sto->Option Sto} {cm:M3 Bool} {em:EM} (hN:X.N.Nodup) (hy:X.N[i]?=some y) (hx:Loc X.env.scope y) (NY:List Str) (ix:List (Option Nat)) (hc:X.calm=true) (hi:RI X G0 W0 tg iter im)
  (ht:∀ s H C fp,PTs (bu X NY scope s H C fp) ifs (tT X.K (cj ix) noX cm)) (he:∀ s H C fp,RE (bu X NY scope s H C fp) (cj ix) noX elt em)
  (ck:j7 scope X.N X.env.scope NY ix=true) (hij:Inj ix) (hsw:swapsWith (.ListComp elt [⟨tg,iter,ifs,0⟩] scope pos) (some (.Name y py)) spos.line X.env=pure true) (hf:X.fn y=true\/X.env.scope.names.lookup y=some .local)
  (hs:∀ x,foldedSetIterable iter X.env x=pure x) (hp:G0.pr i=false) (hgu:∃ tg',Bnd X.K (cj ix).pr tg' bnd/\∀ s H C fp,PG (bu X NY scope s H C fp) tg tg'):RS X G0 W0 (.Assign [.Name y py] (.ListComp elt [⟨tg,iter,ifs,0⟩] scope pos) spos) (aW i (bP im bnd cm em ix)):=by
 obtain ⟨tg',b1,b2⟩:=hgu
 exact ⟨PS.imp (qr hN hy hx NY ix hc hi.h b2 ht (fun s H C fp=>(he s H C fp).h) ck hsw hf hs) fun _ _ _ h=>qe szl hij b1 hp h⟩
noncomputable def isL:D->Bool
 | .lst _=>true
 | _=>false
theorem lG:∀ d v L H,isL d=true->Rep K H d v L->tyV K "list" v H:=fun d v L H h r=>by
 cases r with
 | lst ha _=>exact .inl ⟨rfl,_,SqL.of ha⟩
 | _=>cases h
noncomputable def ug:D->List D->Option (D × D)
 | .lst xs,[d]=>if xs.length < 16777216 then some (.lst (xs ++ [d]),.non) else none
 | _,_=>none
set_option tactic.hygienic true in
theorem qD:MutD K rJ ug:=fun a d L0 as H Q p r m na ra nA e q=>by
 cases d with
 | lst xs =>
  obtain ⟨_,vs,_,e1,e2,ha,rs⟩:=r.view
  cases e1
  cases e2
  match as,e,ra,nA with
  | [],e,_,_=>exact nsE e
  | _ :: _ :: _,e,_,_=>exact nsE e
  | [y],e,ra,nA =>
   have e:(if xs.length < 16777216 then some (D.lst (xs ++ [y.d]),D.non) else none)=some p:=e
   split at e
   ·rename_i hl
    cases e
    refine ⟨a,vs,y.v,rfl,rfl,ha,by rw [<- rs.len,<- szl];exact hl,?_⟩
    have ry:=ra y AR
    have ny:=nA y AR
    have ma:MutAt H a:=.inl ⟨_,ha⟩
    have keep:∀ {d v L},Rep K H d v L->a ∉ L->Rep K (upd H a (.lst (vs ++ [y.v]))) d v L:=fun {d v L} r n=>r.keep (M:=fun b=>b=a) (fun b o hb h=>by rw [aN h];exact hb) (fun b e=>by rw [e];exact ma) fun b hb e=>n (by rw [<- e];exact hb)
    have keeps:Reps (Rep K (upd H a (.lst (vs ++ [y.v])))) xs vs L0:=rs.keep (M:=fun b=>b=a) (fun b o hb h=>by rw [aN h];exact hb) (fun b e=>by rw [e];exact ma) fun b hb e=>na (by rw [<- e];exact hb)
    exact q (.lst (vs ++ [y.v])) (L0 ++ (y.L ++ [])) ⟨.non,.non,[],.z⟩ (.lst bd (keeps.append (.cons (keep ry ny) .nil))) rfl (fun c hc=>by
     rcases A0.mp hc with h | h
     ·exact .inl h
     ·rw [List.append_nil] at h;exact .inr ⟨y,AR,h⟩) rfl rfl .non fun c hc=>by cases hc
   ·exact nsE e
 | _=>exact nsE e
noncomputable def tQ:D->List D->Option (D × D)
 | .lst xs,[.lst ys]=>if xs.length+ys.length<=16777216 then some (.lst (xs ++ ys),.non) else none
 | _,_=>none
theorem ext2 {xs:List D} (a:D) {b:D} {r:List D}:tQ (.lst xs) (a :: b :: r)=none:=by cases a <;> rfl
set_option tactic.hygienic true in
theorem vE:MutD K rF tQ:=fun a d L0 as H Q p r m na ra nA e q=>by
 cases d with
 | lst xs =>
  obtain ⟨_,vs,_,e1,e2,ha,rs⟩:=r.view
  cases e1
  cases e2
  match as,e,ra,nA with
  | [],e,_,_=>exact nsE e
  | y :: _ :: _,e,_,_=>exact nsE ((ext2 y.d).symm.trans e)
  | [y],e,ra,nA =>
   have ry:=ra y AR
   have ny:=nA y AR
   obtain ⟨yd,yv,yL,yf⟩:=y
   dsimp only at ry ny e
   cases yd with
   | lst ys =>
    obtain ⟨b,ws,L1,rfl,rfl,hb,rs'⟩:=ry.view
    have e:(if xs.length+ys.length<=16777216 then some (D.lst (xs ++ ys),D.non) else none)=some p:=e
    split at e
    ·rename_i hl
     cases e
     refine ⟨a,b,vs,ws,rfl,rfl,ha,hb,by rw [<- rs.len,<- rs'.len,<- szl];exact hl,?_⟩
     have ma:MutAt H a:=.inl ⟨_,ha⟩
     have keeps:∀ {ds vs' L},Reps (Rep K H) ds vs' L->a ∉ L->Reps (Rep K (upd H a (.lst (vs ++ ws)))) ds vs' L:=fun {ds vs' L} r n=>r.keep (M:=fun b=>b=a) (fun b o hb h=>by rw [aN h];exact hb) (fun b e=>by rw [e];exact ma) fun b hb e=>n (by rw [<- e];exact hb)
     exact q (.lst (vs ++ ws)) (L0 ++ L1) ⟨.non,.non,[],.z⟩ (.lst bd ((keeps rs na).append (keeps rs' fun h=>ny (AS _ h)))) rfl (fun c hc=>by
      rcases A0.mp hc with h | h
      ·exact .inl h
      ·exact .inr ⟨_,AR,AS _ h⟩) rfl rfl .non fun c hc=>by cases hc
    ·exact nsE e
   | _=>exact nsE e
 | _=>exact nsE e
noncomputable def xj:D->List D->Option (D × D)
 | .lst xs,[.int i,d]=>(ixN xs.length i).map fun j=>(.lst (xs.set j d),.non)
 | _,_=>none
theorem Reps.set:∀ {ds:List D} {vs:List V} {L L':List Addr} {d:D} {v:V} (j:Nat),Reps (Rep K H) ds vs L->Rep K H d v L'->∃ L2,Reps (Rep K H) (ds.set j d) (vs.set j v) L2/\∀ c ∈ L2,c ∈ L\/c ∈ L'
 | _,_,_,_,_,_,j,.nil,_=>⟨[],.nil,fun c hc=>by cases hc⟩
 | _,_,_,L',_,_,0,.cons (L:=L1) (L':=L1') r rs,r'=>⟨L' ++ L1',.cons r' rs,fun c hc=>by
  rcases A0.mp hc with h | h
  ·exact .inr h
  ·exact .inl (AW _ h)⟩
 | _,_,_,L',_,_,j+1,.cons (L:=L1) (L':=L1') r rs,r'=>by
  obtain ⟨L2,h1,h2⟩:=Reps.set j rs r'
  refine ⟨L1 ++ L2,.cons r h1,fun c hc=>?_⟩
  rcases A0.mp hc with h | h
  ·exact .inl (AV _ h)
  ·rcases h2 c h with h | h
   ·exact .inl (AW _ h)
   ·exact .inr h
theorem set1 {xs:List D} (a:D):xj (.lst xs) [a]=none:=by cases a <;> rfl
theorem set3' {xs:List D} (a:D) {b c:D} {r:List D}:xj (.lst xs) (a :: b :: c :: r)=none:=by cases a <;> rfl
theorem xY:MutD K (lr rD) xj:=fun a d L0 as H Q p r m na ra nA e q=>by
 cases d with
 | lst xs =>
  obtain ⟨_,vs,_,e1,e2,ha,rs⟩:=r.view
  cases e1
  cases e2
  match as,e,ra,nA with
  | [],e,_,_=>exact nsE e
  | [y],e,_,_=>exact nsE ((set1 y.d).symm.trans e)
  | y :: _ :: _ :: _,e,_,_=>exact nsE ((set3' y.d).symm.trans e)
  | [k,y],e,ra,nA =>
   have rk:=ra k AR
   have ry:=ra y (AS _ AR)
   have ny:=nA y (AS _ AR)
   obtain ⟨kd,kv,kL,kf⟩:=k
   dsimp only at rk
   cases kd with
   | int i =>
    obtain ⟨rfl,rfl⟩:=rk.view
    obtain ⟨j,h1,h2⟩:=AU.mp (show (ixN xs.length i).map (fun j=>(D.lst (xs.set j y.d),D.non))=some p from e)
    subst h2
    refine ⟨.int i,y.v,rfl,a,vs,i,j,rfl,rfl,ha,by rw [<- rs.len];exact h1,?_⟩
    have ma:MutAt H a:=.inl ⟨_,ha⟩
    have ry':Rep K (upd H a (.lst (vs.set j y.v))) y.d y.v y.L:=ry.keep (M:=fun b=>b=a) (fun b o hb h=>by rw [aN h];exact hb) (fun b e=>by rw [e];exact ma) fun b hb e=>ny (by rw [<- e];exact hb)
    have keeps:Reps (Rep K (upd H a (.lst (vs.set j y.v)))) xs vs L0:=rs.keep (M:=fun b=>b=a) (fun b o hb h=>by rw [aN h];exact hb) (fun b e=>by rw [e];exact ma) fun b hb e=>na (by rw [<- e];exact hb)
    obtain ⟨L2,h3,h4⟩:=keeps.set j ry'
    exact q (.lst (vs.set j y.v)) L2 ⟨.non,.non,[],.z⟩ (.lst bd h3) rfl (fun c hc=>(h4 c hc).imp id fun h=>⟨y,AS _ AR,h⟩) rfl rfl .non fun c hc=>by cases hc
   | _=>exact nsE e
 | _=>exact nsE e
theorem jC {i:Nat} {x:Str} {pn apos cpos:Pos} {id:String} {nm:Str} {Ty:String} {e:Expr} {es:List Expr} {ok:D->Bool} {r:V->List V->Hp->VK->Prop} {f:D->List D->Option (D × D)} {ms:M3 (List R3)} (pa:PlainAttrs Ty) (slot:Slot Ty nm id) (hty:typeOf (.builtin id)=pure (.type "method_descriptor")) (hm:MtR X id r) (hr:MutD X.K r f) (hok:∀ d v L H,ok d=true->Rep X.K H d v L->tyV X.K Ty v H)
  (ho:PE X (.Name x pn) (sI i)) (ha:RA X G0 W0 (e :: es) ms) (hbase:attributeBase (.Name x pn) nm X.env (eval (.Name x pn) X.env)=eval (.Name x pn) X.env)
  (hfew:((backTo cpos (starEach (e :: es) X.env)).all (fun x=>!x.1) && (backToKw cpos (keywordEach [] X.env)).all (fun x=>x.1.isSome) && decide ((e :: es).length+([]:List Keyword).length+(if ([]:List Keyword).isEmpty then 0 else 1) < 30))=true)
  (hline:(apos.endLine == cpos.line)=true) (hs:starEach (e :: es) X.env=(false,eval e X.env) :: starEach es X.env) (hplain:(backTo cpos (starEach es X.env)).any (·.1)=false):RE X G0 W0 (.Call (.Attribute (.Name x pn) nm apos) (e :: es) [] cpos) (nJ ok f i ms) :=
 ⟨PE.imp (pe_bm pa slot hty hm ho ha.h hbase hfew hline hs hplain) fun _ _ _ h=>zz hr hok h⟩
theorem zK {i:Nat} {x:Str} {pn p2 pos:Pos} {k e:Expr} {mk mv:EM} {t:ui} {f:D->List D->Option (D × D)} (hs:wI X t) (hr:MutD X.K (lr t) f) (ho:PE X (.Name x pn) (sI i)) (hk:RE X G0 W0 k mk) (hv:RE X G0 W0 e mv)
  (ha:∀ v,assign (.Subscript (.Name x pn) k p2) X.env v=(do
   let ov <- holding [v] (eval (.Name x pn) X.env)
   let iv <- holding [v,ov] (eval k X.env)
   standAt p2
   holding [v,ov,iv] (setItem ov iv v)
   release [v,ov,iv] []))
  (h1:swapsWithSole [.Subscript (.Name x pn) k p2] e pos.line X.env=pure false) (h2:swappedStores [.Subscript (.Name x pn) k p2] e X.env=pure none) (h3:(assignEach [.Subscript (.Name x pn) k p2] X.env).map (·.2)=[assign (.Subscript (.Name x pn) k p2) X.env]):RS X G0 W0 (.Assign [.Subscript (.Name x pn) k p2] e pos) (uL f i mk mv) :=
 ⟨PS.imp (vf hv.h (zX ho hk.h hs ha) h1 h2 h3) fun _ _ _ h=>zk hr h⟩
end
end L3
end
section
namespace L3
open PySem L2
section
variable {K:FG} {G G0:Gm} {W W0:D->Sto->Prop} {H H':Hp} {σ:St} {ρ ρ':Sto} {T T':List It3} {g:Nat->Option It3} {x y z:It3} {α β:Type} {X:Cx} {L:List Addr}
theorem bU {Y:Cx} {ix:List (Option Nat)}:PTs Y [] (tT K (cj ix) noX dD):=fun pins s σ H Q I h=>xB pins s σ H Q I (zg h)
theorem gc {Y:Cx} {c:Expr} {ix:List (Option Nat)} {m:M3 Bool} (h:RT Y (cj ix) noX c m):PTs Y [c] (tT Y.K (cj ix) noX m):=xA h.h
theorem b9 {ix:List (Option Nat)} (h:(ix.filterMap id).Nodup):Inj ix:=by
 intro j k i hj hk
 induction ix generalizing j k with
 | nil=>simp at hj
 | cons o ix ih =>
  cases o with
  | none =>
   have h':(ix.filterMap id).Nodup:=by simpa using h
   cases j with
   | zero=>simp at hj
   | succ j =>
    cases k with
    | zero=>simp at hk
    | succ k=>rw [ih h' j k (by simpa using hj) (by simpa using hk)]
  | some i0 =>
   have h':(i0 :: ix.filterMap id).Nodup:=by simpa using h
   obtain ⟨n,h''⟩:=List.nodup_cons.mp h'
   have mem:∀ m:Nat,ix[m]?=some (some i0)->False:=fun m e=>n (List.mem_filterMap.mpr ⟨some i0,A4 e,rfl⟩)
   cases j with
   | zero =>
    simp at hj
    cases k with
    | zero=>rfl
    | succ k=>subst hj;exact (mem k (by simpa using hk)).elim
   | succ j =>
    cases k with
    | zero=>simp at hk;subst hk;exact (mem j (by simpa using hj)).elim
    | succ k=>rw [ih h'' j k (by simpa using hj) (by simpa using hk)]
noncomputable def qh:SM:=fun _=>none
theorem oR {st:Stmt}:RS X G0 W0 st qh:=⟨PS.imp ve fun _ _ _ h=>by
 refine h.use fun G W le ρ T g r ρ' w e q=>?_
 cases e⟩
theorem oH {r r':R2} {f f':D->D->Option (D × Fl)} {ma mb mc:EM} {Q:VK} (ho:OpD K r f) (ho':OpD K r' f') (h:tE K G0 W0 (jn f f' ma mb mc) σ H Q):ng r r' (tE K G0 W0 ma) (tE K G0 W0 mb) (tE K G0 W0 mc) σ H Q:=by
 refine h.use fun G W le ρ T g o ρ' w e q=>?_
 refine tE.seq le w e q.err fun ra ρ1 e1 va H1 ⟨Ts,g1,w1,a1⟩=>?_
 refine tE.seq le w1 e1 q.err fun rb ρ2 e2 vb H2 ⟨Us,g2,w2,a2⟩=>?_
 obtain ⟨da,d1,e3⟩:=bq e2
 obtain ⟨db,d2,e4⟩:=bq e3
 obtain ⟨k,e5,e6⟩:=iR e4
 obtain ⟨ya,i1,f1,f2⟩:=a1.item w2 (fun x hx=>AW _ (AV _ hx)) d1
 obtain ⟨yb,i2,f3,f4⟩:=a2.item w2 (fun x hx=>AV _ hx) d2
 obtain ⟨p,e7,e8⟩:=Bo.mp e5
 have hp:=wD e8
 subst f1 f2 f4
 rw [<- f3] at e7
 refine ho ya yb H2 _ p (w2.itm i1).arg (w2.itm i2).arg e7 fun u H3 nu ud uf=>?_
 have w3:=w2.push nu fun c h=>w2.kids (ys:=[ya,yb]) (fun y hy=>by
  rcases AX.mp hy with h | hy
  ·rw [h];exact i1
  ·rw [Bp.mp hy];exact i2) h
 have ru:=nu.rep
 rw [ud,hp] at ru
 refine ⟨k,ru.bl_eq.1,?_⟩
 have w4:=w3.sub (List.sublist_cons_self u _)
 cases k with
 | false =>
  cases e6
  have w5:=w4.sub (T':=T) ((A5 Ts T).trans (A5 Us _))
  exact q _ _ (w5.const (.bl false))
 | true =>
  simp only [if_true] at e6 ⊢
  refine tE.seq le w4 e6 q.err fun rc ρ5 e9 vc H5 ⟨Vs,g5,w5,a5⟩=>?_
  obtain ⟨db',d3,e10⟩:=bq e9
  obtain ⟨dc,d4,e11⟩:=bq e10
  obtain ⟨p',e12,rfl,rfl⟩:=cN e11
  obtain ⟨yb',i3,f5,f6⟩:=a2.item w5 (fun x hx=>AW _ (AV _ hx)) d3
  obtain ⟨yc,i4,f7,f8⟩:=a5.item w5 (fun x hx=>AV _ hx) d4
  cases ef:f' db' dc with
  | none=>rw [ef] at e12;exact nsE e12
  | some s =>
   rw [ef] at e12
   cases e12
   have w6:=w5
   rw [show Vs ++ (Us ++ (Ts ++ T))=(Vs ++ (Us ++ Ts)) ++ T by simp] at w6
   have i3':Itm ((Vs ++ (Us ++ Ts)) ++ T) g5 yb':=by simpa using i3
   have i4':Itm ((Vs ++ (Us ++ Ts)) ++ T) g5 yc:=by simpa using i4
   rw [<- f6,<- f8]
   refine ho' yb' yc H5 Q s (w5.itm i3).arg (w5.itm i4).arg (by rw [f5,f7];exact ef) (pG w6 (fun y hy=>?_) q)
   rcases AX.mp hy with h | hy
   ·rw [h];exact i3'
   ·rw [Bp.mp hy];exact i4'
theorem uX {op op':CmpOp} {r r':R2} {f f':D->D->Option (D × Fl)} {a b c:Expr} {pos:Pos} {ma mb mc:EM} (ho:OpR X (compareOp op) r) (hd:OpD X.K r f) (ho':OpR X (compareOp op') r') (hd':OpD X.K r' f') (ha:RE X G0 W0 a ma) (hb:RE X G0 W0 b mb) (hc:RE X G0 W0 c mc)
  (h:PE X a (tE X.K G0 W0 ma)->PE X b (tE X.K G0 W0 mb)->PE X c (tE X.K G0 W0 mc)->PE X (.Compare a [op,op'] [b,c] pos) (ng r r' (tE X.K G0 W0 ma) (tE X.K G0 W0 mb) (tE X.K G0 W0 mc))):RE X G0 W0 (.Compare a [op,op'] [b,c] pos) (jn f f' ma mb mc):=⟨PE.imp (h ha.h hb.h hc.h) fun _ _ _ h=>oH hd hd' h⟩
theorem bO {op:CmpOp} {r:R2} {f:D->D->Option (D × Fl)} {a b:Expr} {pos:Pos} {ma mb:EM} (ho:OpR X (compareOp op) r) (hd:OpD X.K r f) (ha:RE X G0 W0 a ma) (hb:RE X G0 W0 b mb) (hm:behindInMarks op b=false):RT X G0 W0 (.Compare a [op] [b] pos) (cB (aj f ma mb)):=⟨PT.imp (xC ho ha.h hb.h hm) fun _ _ _ h=>nc hd (zj h)⟩
theorem uT {op op':CmpOp} {r r':R2} {f f':D->D->Option (D × Fl)} {a b c:Expr} {pos:Pos} {ma mb mc:EM} (ho:OpR X (compareOp op) r) (hd:OpD X.K r f) (ho':OpR X (compareOp op') r') (hd':OpD X.K r' f') (ha:RE X G0 W0 a ma) (hb:RE X G0 W0 b mb) (hc:RE X G0 W0 c mc) (hm:lastMarks [op,op'] [b,c]=false):RT X G0 W0 (.Compare a [op,op'] [b,c] pos) (cB (jn f f' ma mb mc)):=⟨PT.imp (u8 ho ho' ha.h hb.h hc.h hm) fun _ _ _ h=>oH hd hd' (zj h)⟩
end
end L3
namespace L3
theorem aE {mask:List Bool} {i:Nat} (h:mask.length<=i):prM mask i=false:=by
 unfold prM
 rw [List.getElem?_eq_none h]
end L3
end
section
namespace L3
open PySem L2
structure Bl (mg:Str->Option Value):Prop where
 len:mg "len"=none
 range:mg "range"=none
 abs:mg "abs"=none
 divmod:mg "divmod"=none
 enumerate:mg "enumerate"=none
 tuple:mg "tuple"=none
 isinstance:mg "isinstance"=none
 int:mg "int"=none
 bool:mg "bool"=none
 all:mg "all"=none
 str:mg "str"=none
 max:mg "max"=none
 min:mg "min"=none
 list:mg "list"=none
 dict:mg "dict"=none
 repr:mg "repr"=none
 sorted:mg "sorted"=none
 set:mg "set"=none
 zip:mg "zip"=none
 reversed:mg "reversed"=none
theorem eg:bootBuiltins "len"=some (.builtin "len"):=by decide +kernel
theorem wA:bootBuiltins "divmod"=some (.builtin "divmod"):=by decide +kernel
theorem eR:bootBuiltins "tuple"=some (.type "tuple"):=by decide +kernel
theorem oj:bootBuiltins "isinstance"=some (.builtin "isinstance"):=by decide +kernel
theorem wz:bootBuiltins "int"=some (.type "int"):=by decide +kernel
theorem re:bootBuiltins "bool"=some (.type "bool"):=by decide +kernel
theorem kC:bootBuiltins "all"=some (.builtin "all"):=by decide +kernel
theorem b_max:bootBuiltins "max"=some (.builtin "max"):=by decide +kernel
theorem b_min:bootBuiltins "min"=some (.builtin "min"):=by decide +kernel
theorem AJ:bootBuiltins "list"=some (.type "list"):=by decide +kernel
theorem AK:bootBuiltins "dict"=some (.type "dict"):=by decide +kernel
theorem wy:bootBuiltins "sorted"=some (.builtin "sorted"):=by decide +kernel
theorem b_set:bootBuiltins "set"=some (.type "set"):=by decide +kernel
theorem b_zip:bootBuiltins "zip"=some (.type "zip"):=by decide +kernel
end L3
end
section
namespace L3
open PySem L2
section
variable {K:FG} {G G0:Gm} {W W0:D->Sto->Prop} {H H':Hp} {σ:St} {ρ ρ':Sto} {T T':List It3} {g:Nat->Option It3} {x y z:It3} {α β:Type} {X:Cx} {L:List Addr}
theorem wV {m:EM} {Q Q':VK} (h:tE K G0 W0 m σ H Q) (f:∀ v H,Q v H->Q' v H):tE K G0 W0 m σ H Q':=by
 refine h.use fun G W le ρ T g o ρ' w e q=>?_
 refine tE.mk le w e ?_
 cases o with
 | ok r=>exact fun v H' g=>f v H' (q v H' g)
 | error x=>exact q
noncomputable def yX:D->Option String
 | .non=>some "NoneType" | .bl _=>some "bool" | .int _=>some "int" | .str _=>some "str"
 | .tup _=>some "tuple" | .lst _=>some "list" | .fls _=>some "list" | .dk _=>some "dict" | .dt _=>some "dict" | .exc _ _=>none
noncomputable def j0 (t:String) (d:D):Option (D × Fl):=(yX d).map fun k=>(.bl (pB k t),.z)
theorem Rep.kind {d:D} {v:V} {k:String} (r:Rep K H d v L) (e:yX d=some k):KindOf K H v k:=by
 cases r with
 | non=>cases e;exact .non
 | bl b=>cases e;exact .bool b
 | int i=>cases e;exact .int i
 | str s=>cases e;exact .str s
 | tup h _=>cases e;exact .tuple (SqT.of h)
 | lst h _=>cases e;exact .list (SqL.of h)
 | lstF h _=>cases e;exact .list h.sq
 | dK h _ _=>cases e;exact .dK h
 | dT h _ _=>cases e;exact .dT h
 | exc _ _=>cases e
theorem gA {t:String} {tn:Str} {a:Expr} {p pT pos:Pos} {ma:EM} (hc:dJ X (.builtin "isinstance") (fun xs H Q=>∃ x k,xs=[x,.ty t]/\KindOf X.K H x k/\Q (.bl (pB k t)) H)) (hg:Gl X "isinstance") (hm:X.mg "isinstance"=none) (ht:PE X (.Name tn pT) (tC (.ty t))) (ha:RE X G0 W0 a ma)
  (he1:starEach [a,.Name tn pT] X.env=(false,eval a X.env) :: starEach [.Name tn pT] X.env) (he2:starEach [.Name tn pT] X.env=(false,eval (.Name tn pT) X.env) :: starEach [] X.env) (hpl:(backTo pos (starEach [.Name tn pT] X.env)).any (·.1)=false):RE X G0 W0 (.Call (.Name "isinstance" p) [a,.Name tn pT] [] pos) (mUn (j0 t) ma) :=
 ⟨PE.imp (lw hc hg hm oj (kR ha.h (kR ht qx he2) he1) (by decide) (by decide) he1 hpl) fun σ H Q h=>by
  have h:=yI (r:=fun x H Q=>∃ k,KindOf X.K H x k/\Q (.bl (pB k t)) H) (fun a H Q p ra e q=>by
   obtain ⟨k,h1,h2⟩:=AU.mp e
   subst h2
   exact ⟨k,ra.rep.kind h1,q ⟨.bl (pB k t),.bl (pB k t),[],.z⟩ H (ip (.bl _)) rfl rfl⟩) h
  refine wV h fun x H1 ⟨k,hk,q⟩=>?_
  exact ⟨x,k,rfl,hk,q⟩⟩
noncomputable def vQ:D->Option Key
 | .int i=>some (.inl i)
 | .str s=>some (.inr s)
 | _=>none
noncomputable def dO:List D->Option (List Key)
 | []=>some []
 | d :: ds=>match vQ d,dO ds with
  | some k,some ks=>some (k :: ks)
  | _,_=>none
theorem tF {d:D} {v:V} {k:Key} (r:Rep K H d v L) (e:vQ d=some k):v=kV k:=by
 cases r <;> cases e <;> rfl
theorem fP:∀ {ds:List D} {vs:List V} {L:List Addr} {ks:List Key},Reps (Rep K H) ds vs L->dO ds=some ks->vs=ks.map kV
 | _,_,_,ks,.nil,e=>by cases e;rfl
 | _,_,_,ks,.cons (d:=d) (ds:=ds) r rs,e=>by
  unfold dO at e
  cases h1:vQ d with
  | none=>rw [h1] at e;exact nsE e
  | some k =>
   cases h2:dO ds with
   | none=>rw [h1,h2] at e;exact nsE e
   | some ks' =>
    rw [h1,h2] at e
    cases e
    rw [tF r h1,fP rs h2];rfl
noncomputable def lJ (kvs:List (List Key × D)) (k:List Key):Option D:=(kvs.find? fun kv=>decide (kv.1=k)).map (·.2)
noncomputable def u7 (kvs:List (List Key × D)) (k:List Key) (v:D):List (List Key × D) :=
 if (kvs.any fun kv=>decide (kv.1=k))=true then kvs.map (fun kv=>if kv.1=k then (kv.1,v) else kv) else kvs ++ [(k,v)]
theorem pD:∀ {kvs:List (List Key × D)} {ps:List (List Key × V)} {L:List Addr} {k:List Key} {d:D},kvs.map (·.1)=ps.map (·.1)->Reps (Rep K H) (kvs.map (·.2)) (ps.map (·.2)) L->lJ kvs k=some d->∃ v L',kD ps k=some v/\Rep K H d v L'/\∀ c ∈ L',c ∈ L
 | [],ps,L,k,d,hk,r,e=>by cases e
 | kv :: kvs,[],L,k,d,hk,r,e=>by cases hk
 | kv :: kvs,p :: ps,L,k,d,hk,r,e=>by
  have hk':kv.1=p.1/\kvs.map (·.1)=ps.map (·.1):=by simpa using hk
  generalize hr:(kv :: kvs).map (·.2)=xs at r
  generalize hp:(p :: ps).map (·.2)=ys at r
  cases r with
  | nil=>cases hr
  | cons a as =>
   cases hr
   cases hp
   unfold lJ at e
   rw [List.find?_cons] at e
   by_cases h:kv.1=k
   ·rw [Bd h] at e
    cases e
    exact ⟨_,_,js (hk'.1.symm.trans h),a,fun c hc=>AV _ hc⟩
   ·rw [Be h] at e
    obtain ⟨v,L',h1,h2,h3⟩:=pD hk'.2 as e
    exact ⟨v,L',by rw [jt (fun z=>h (hk'.1.trans z))];exact h1,h2,fun c hc=>AW _ (h3 c hc)⟩
noncomputable def rZ:D->D->Option (D × Fl)
 | .dt kvs,.tup ks=>match dO ks with
  | some k=>(lJ kvs k).map fun d=>(d,.z)
  | none=>none
 | _,_=>none
noncomputable def rG:R2:=fun x y H Q=>∃ a v,x=.ref a/\DGet H a y (some v)/\Q v H
theorem xQ:OpD K rG rZ:=fun a b H Q p ra rb e q=>by
 obtain ⟨da,va,La,fa⟩:=a
 obtain ⟨db,vb,Lb,fb⟩:=b
 have ra0:=ra
 obtain ⟨ra,oa⟩:=ra
 obtain ⟨rb,ob⟩:=rb
 dsimp only at ra rb e
 cases da with
 | dt kvs =>
  obtain ⟨pa,ps,L0,rfl,rfl,ha,hk,rs⟩:=ra.view
  cases db with
  | tup ks =>
   obtain ⟨pb,ws,rfl,hb,rs'⟩:=rb.view
   have e:(match dO ks with | some k=>(lJ kvs k).map fun d=>(d,Fl.z) | none=>none)=some p:=e
   cases h1:dO ks with
   | none=>rw [h1] at e;exact nsE e
   | some k =>
    rw [h1] at e
    obtain ⟨d,h2,h3⟩:=AU.mp (show (lJ kvs k).map (fun d=>(d,Fl.z))=some p from e)
    subst h3
    have hw:=fP rs' h1
    subst hw
    obtain ⟨v,L',g1,g2,g3⟩:=pD hk rs h2
    refine ⟨pa,v,rfl,by rw [<- g1];exact DGet.t ha hb,q ⟨d,v,L',.z⟩ H (o9 g2 fun c hc=>?_) rfl rfl⟩
    exact pA (y:=⟨.dt kvs,.ref pa,pa :: L0,fa⟩) AR ra0 rfl rfl c (g3 c hc)
  | _=>exact nsE e
 | _=>exact nsE e
open PySem.Spec PyProof.Rows in
theorem yj (hu:X.A.units+1 < cLine):IxR X rG:=by
 intro value slice pins s σ H x y v u Q I rx ry h hs
 obtain ⟨a,w,rfl,g,q⟩:=h
 cases rx
 have hT:=pI I g
 unfold subscriptTail
 refine AN ?_
 rw [getitemInPython_of_ne hT.not_modules]
 refine AN (wpAny_specialOf hT PySem.F.slot_dict_getitem.lookup ?_)
 have fin:wpAny (model X.prog X.w) X.A (subscripted slice false (.ref a) u) (fun r s₃=>wpAny (model X.prog X.w) X.A (letTemporaryGo value (.ref a) r >>= fun _=>pure r) (EP X pins σ Q) X.xe s₃) X.xe s:=by
  rw [hs]
  exact wpAny_operating (tW hu I g ry fun w' s3 I3 rw'=>AN (wpAny_letTemporaryGo (AO ⟨w,H,I3,rw',q⟩)))
 first
  | exact AO (AN fin)
  | exact AN (AO (AN fin))
  | exact AN fin
noncomputable abbrev aw:=orD ixD rZ
theorem ay:OpD K (fun x y H Q=>(u5 K x y H Q\/u3 K x y H Q)\/rG x y H Q) aw:=od_ix.or xQ
theorem aB (hu:X.A.units+1 < cLine):IxR X (fun x y H Q=>(u5 X.K x y H Q\/u3 X.K x y H Q)\/rG x y H Q):=ix_ok.or (yj hu)
noncomputable def rK:D->List D->Option (D × D)
 | .dt kvs,[.tup ks,v]=>match dO ks with
  | some k=>if kvs.length < 16777216 then some (.dt (u7 kvs k v),.non) else none
  | none=>none
 | _,_=>none
noncomputable def rE:ui:=fun o i v H Q=>∃ a H',o=.ref a/\DPut H a i v H'/\Q H'
theorem uI (hu:X.A.units+1 < cLine):wI X rE:=by
 intro pins s σ H o i v ov iv u Q I ro ri rv h
 obtain ⟨a,H',rfl,g,q⟩:=h
 cases ro
 exact tV hu I g ri rv fun s' I'=>⟨H',I',q⟩
theorem oW:∀ {kvs:List (List Key × D)} {ps:List (List Key × V)} {L L':List Addr} {k:List Key} {d:D} {v:V},kvs.map (·.1)=ps.map (·.1)->Reps (Rep K H) (kvs.map (·.2)) (ps.map (·.2)) L->Rep K H d v L' ->
  ∃ L2,Reps (Rep K H) ((kvs.map fun kv=>if kv.1=k then (kv.1,d) else kv).map (·.2)) ((ps.map fun kv=>if kv.1=k then (kv.1,v) else kv).map (·.2)) L2/\(∀ c ∈ L2,c ∈ L\/c ∈ L')
 | [],[],L,L',k,d,v,hk,r,rd=>⟨[],.nil,fun c hc=>by cases hc⟩
 | [],_ :: _,_,_,_,_,_,hk,_,_=>by cases hk
 | _ :: _,[],_,_,_,_,_,hk,_,_=>by cases hk
 | kv :: kvs,p :: ps,L,L',k,d,v,hk,r,rd=>by
  have hk':kv.1=p.1/\kvs.map (·.1)=ps.map (·.1):=by simpa using hk
  generalize hr:(kv :: kvs).map (·.2)=xs at r
  generalize hp:(p :: ps).map (·.2)=ys at r
  cases r with
  | nil=>cases hr
  | @cons _ _ L1 _ _ L1' a as =>
   cases hr
   cases hp
   obtain ⟨L2,h1,h2⟩:=oW (k:=k) hk'.2 as rd
   by_cases h:kv.1=k
   ·refine ⟨L' ++ L2,?_,fun c hc=>?_⟩
    ·simp only [Bc,if_pos h,if_pos (hk'.1.symm.trans h)]
     exact .cons rd h1
    ·rcases A0.mp hc with z | z
     ·exact .inr z
     ·rcases h2 c z with y | y
      ·exact .inl (AW _ y)
      ·exact .inr y
   ·refine ⟨L1 ++ L2,?_,fun c hc=>?_⟩
    ·simp only [Bc,if_neg h,if_neg (fun z=>h (hk'.1.trans z))]
     exact .cons a h1
    ·rcases A0.mp hc with z | z
     ·exact .inl (AV _ z)
     ·rcases h2 c z with y | y
      ·exact .inl (AW _ y)
      ·exact .inr y
theorem wG {kvs:List (List Key × D)} {ps:List (List Key × V)} {k:List Key} (hk:kvs.map (·.1)=ps.map (·.1)):(kvs.any fun kv=>decide (kv.1=k))=ps.any fun kv=>decide (kv.1=k):=by
 have h1:(kvs.any fun kv=>decide (kv.1=k))=(kvs.map (·.1)).any fun x=>decide (x=k):=by rw [List.any_map];rfl
 have h2:(ps.any fun kv=>decide (kv.1=k))=(ps.map (·.1)).any fun x=>decide (x=k):=by rw [List.any_map];rfl
 rw [h1,h2,hk]
theorem pi {α:Type} {kvs:List (List Key × α)} {k:List Key} {d:α}:(kvs.map fun kv=>if kv.1=k then (kv.1,d) else kv).map (·.1)=kvs.map (·.1):=by
 rw [BA]
 refine BB fun kv _=>?_
 show (if kv.1=k then (kv.1,d) else kv).1=kv.1
 split <;> rfl
theorem put1 {kvs:List (List Key × D)} (a:D):rK (.dt kvs) [a]=none:=by cases a <;> rfl
theorem put3' {kvs:List (List Key × D)} (a:D) {b c:D} {r:List D}:rK (.dt kvs) (a :: b :: c :: r)=none:=by cases a <;> rfl
set_option tactic.hygienic true in
theorem xZ:MutD K (lr rE) rK:=fun a d L0 as H Q p r m na ra nA e q=>by
 cases d with
 | dt kvs =>
  obtain ⟨_,ps,_,e1,e2,ha,hk,rs⟩:=r.view
  cases e1
  cases e2
  match as,e,ra,nA with
  | [],e,_,_=>exact nsE e
  | [y],e,_,_=>exact nsE ((put1 y.d).symm.trans e)
  | y :: _ :: _ :: _,e,_,_=>exact nsE ((put3' y.d).symm.trans e)
  | [k,y],e,ra,nA =>
   have rk:=ra k AR
   have ry:=ra y (AS _ AR)
   have ny:=nA y (AS _ AR)
   obtain ⟨kd,kv,kL,kf⟩:=k
   dsimp only at rk
   cases kd with
   | tup ks =>
    obtain ⟨pb,ws,rfl,hb,rs'⟩:=rk.view
    have e:(match dO ks with | some k=>if kvs.length < 16777216 then some (D.dt (u7 kvs k y.d),D.non) else none | none=>none)=some p:=e
    cases h1:dO ks with
    | none=>rw [h1] at e;exact nsE e
    | some key =>
     rw [h1] at e
     dsimp only at e
     split at e
     ·rename_i hl
      cases e
      have hw:=fP rs' h1
      subst hw
      have hlen:kvs.length=ps.length:=by have:=congrArg List.length hk;simpa using this
      refine ⟨.ref pb,y.v,rfl,a,_,rfl,DPut.t ha hb (by rw [<- hlen,<- szl];exact hl),?_⟩
      have ma:MutAt H a:=.inr (.inr ⟨_,ha⟩)
      have ry':Rep K (upd H a (.dT (gB ps key y.v))) y.d y.v y.L:=ry.keep (M:=fun b=>b=a) (fun b o hb h=>by rw [aN h];exact hb) (fun b e=>by rw [e];exact ma) fun b hb e=>ny (by rw [<- e];exact hb)
      have keeps:Reps (Rep K (upd H a (.dT (gB ps key y.v)))) (kvs.map (·.2)) (ps.map (·.2)) L0:=rs.keep (M:=fun b=>b=a) (fun b o hb h=>by rw [aN h];exact hb) (fun b e=>by rw [e];exact ma) fun b hb e=>na (by rw [<- e];exact hb)
      have fin:∃ L1,Reps (Rep K (upd H a (.dT (gB ps key y.v)))) ((u7 kvs key y.d).map (·.2)) ((gB ps key y.v).map (·.2)) L1/\(∀ c ∈ L1,c ∈ L0\/c ∈ y.L)/\(u7 kvs key y.d).map (·.1)=(gB ps key y.v).map (·.1):=by
       generalize upd H a (HO.dT (gB ps key y.v))=H2 at keeps ry' ⊢
       unfold u7 gB
       rw [wG hk]
       split
       ·obtain ⟨L2,g1,g2⟩:=oW (k:=key) hk keeps ry'
        exact ⟨L2,g1,g2,by rw [pi,pi];exact hk⟩
       ·refine ⟨L0 ++ (y.L ++ []),?_,fun c hc=>?_,by rw [List.map_append,List.map_append,hk];rfl⟩
        ·rw [List.map_append,List.map_append]
         exact keeps.append (.cons ry' .nil)
        ·rcases A0.mp hc with z | z
         ·exact .inl z
         ·rw [List.append_nil] at z;exact .inr z
      obtain ⟨L1,g1,g2,g3⟩:=fin
      exact q (.dT (gB ps key y.v)) L1 ⟨.non,.non,[],.z⟩ (.dT bd g3 g1) rfl (fun c hc=>(g2 c hc).imp id fun h=>⟨y,AS _ AR,h⟩) rfl rfl .non fun c hc=>by cases hc
     ·exact nsE e
   | _=>exact nsE e
 | _=>exact nsE e
noncomputable def z9 (f g:D->List D->Option (D × D)) (a:D) (b:List D):Option (D × D):=match f a b with
 | some p=>some p
 | none=>g a b
theorem MutD.or {r r':V->List V->Hp->VK->Prop} {f g:D->List D->Option (D × D)} (h:MutD K r f) (h':MutD K r' g):MutD K (fun x y H Q=>r x y H Q\/r' x y H Q) (z9 f g):=fun a d L0 as H Q p r m na ra nA e q=>by
 unfold z9 at e
 cases ef:f d (as.map (·.d)) with
 | some p'=>rw [ef] at e;cases e;exact .inl (h a d L0 as H Q _ r m na ra nA ef q)
 | none=>rw [ef] at e;exact .inr (h' a d L0 as H Q p r m na ra nA e q)
noncomputable abbrev setD:=z9 xj rK
theorem Al:MutD K (lr fun o i v H Q=>rD o i v H Q\/rE o i v H Q) setD:=fun a d L0 as H Q p r m na ra nA e q=>by
 rcases MutD.or xY xZ a d L0 as H Q p r m na ra nA e q with ⟨k,v,h1,h2⟩ | ⟨k,v,h1,h2⟩
 ·exact ⟨k,v,h1,.inl h2⟩
 ·exact ⟨k,v,h1,.inr h2⟩
theorem xh (hu:X.A.units+1 < cLine):wI X (fun o i v H Q=>rD o i v H Q\/rE o i v H Q):=by
 intro pins s σ H o i v ov iv u Q I ro ri rv h
 rcases h with h | h
 ·exact uG pins s σ H o i v ov iv u Q I ro ri rv h
 ·exact uI hu pins s σ H o i v ov iv u Q I ro ri rv h
end
end L3
end
section
namespace L3
open PySem L2
section
open PySem.Spec PyProof.Rows HT
variable {prog:Program} {w:World} {A:Around} {E:Value->Shared->Prop} {s:Shared}
theorem iX {t sl:Addr} {items:Array Value} {vl vu:Value} {lo hi:Option Int} {Q:Value->Shared->Prop} (ht:IsTup s.heap t items) (hs:s.heap.IsSliceOf sl vl vu .none) (pl:IsPart vl lo) (pu:IsPart vu hi)
  (hw:sIx items.size 0 lo=0/\sIx items.size items.size hi=items.size) (h:Q (.ref t) s) (hsz:items.size<=sizeLine):wpAny (model prog w) A (getItem (.ref t) (.ref sl)) Q E s:=by
 obtain ⟨os,hos,hcs,hds⟩:=id hs
 have hTs:s.TypeIs (.ref sl) "slice":=⟨os,hos,hcs⟩
 unfold getItem
 try with_reducible refine AQ ?_
 first | refine AN (AO ?_) | skip
 refine AN (wpAny_sequenceKey ht.typeIs (by decide) ?_)
 refine AN (wpAny_callSpecial?_slot (name:=Str.ofString "__getitem__") ht.typeIs PyProof.Rows.slot_tuple_getitem
  (wpAny_call_entry PyProof.Rows.slot_tuple_getitem ht.typeIs entry_tuple_getitem ?_ (args_tuple_getitem _ _)))
 show wpAny _ _ (Builtin.Tuple.tupleItemsOf (.ref t) >>= _) _ _ s
 refine AN (tupleItemsOf_ ht ?_)
 refine AN (wpAny_typeOf hTs ?_)
 rw [if_pos (by decide)]
 refine AN (gb hs pl pu ?_)
 show wpAny _ _ (if (((sIx items.size 0 lo:Nat):Int) == 0 && (1:Int) == 1 && (sIx items.size items.size hi - sIx items.size 0 lo) == items.size)=true then _ else _) _ _ s
 rw [if_pos (by simp [hw.1,hw.2])]
 refine AN ?_
 unfold Builtin.Tuple.tupleIsExact
 refine AN (wpAny_typeOf ht.typeIs ?_)
 refine AO ?_
 rw [if_pos (by decide)]
 exact AN (wpAny_rule (AO ⟨_,rfl,AO h⟩))
end
section
variable {K:FG} {G G0:Gm} {W W0:D->Sto->Prop} {H H':Hp} {σ:St} {ρ ρ':Sto} {T T':List It3} {g:Nat->Option It3} {x y z:It3} {α β:Type} {X:Cx} {L:List Addr}
noncomputable def uZ (K:FG):V->Option Int->Option Int->Hp->VK->Prop:=fun x lo hi H Q=>∃ a xs,x=.ref a/\SqT K H a xs/\(HT.sIx xs.length 0 lo=0/\HT.sIx xs.length xs.length hi=xs.length)/\Q (.ref a) H
theorem xb:SlR X (uZ X.K):=by
 intro pins s σ H x v vl vu lo hi sl Q I rx hs pl pu h
 obtain ⟨a,xs,rfl,hx,hw,q⟩:=h
 cases rx
 obtain ⟨its,r,ht,hz⟩:=I.tuple hx
 have hlen:its.toArray.size=xs.length:=by rw [Bb];exact r.length.symm
 refine ⟨"tuple",_,PyProof.Rows.slot_tuple_getitem.lookup,ht.typeIs,?_⟩
 exact iX ht hs pl pu (by rw [hlen];exact hw) ⟨.ref a,H,I,rfl,q⟩ (by rw [hlen];exact hz)
noncomputable def asI:D->Option Int
 | .int i=>some i
 | _=>none
noncomputable def oX:M3 (Option Int):=bI none
noncomputable def eD (m:EM):M3 (Option Int):=ag m fun r=>ag (der r) fun d=>bB ((asI d).map some)
noncomputable def EndP (K:FG) (G:Gm) (W:D->Sto->Prop) (σ:St) (T:List It3) (ρ':Sto) (Q:Option Int->Hp->Prop):Except D (Option Int)->Prop
 | .ok b=>∀ H' g',Wf K G H' σ ρ' T g'->Q b H'
 | .error e=>W e ρ'
noncomputable def tP (K:FG) (G0:Gm) (W0:D->Sto->Prop) (m:M3 (Option Int)):TO:=fun σ H Q=>∃ G W,Le K G W G0 W0/\∃ ρ T g r ρ',Wf K G H σ ρ T g/\m ρ=some (r,ρ')/\EndP K G W σ T ρ' Q r
structure RP (X:Cx) (G0:Gm) (W0:D->Sto->Prop) (e:Option Expr) (m:M3 (Option Int)):Prop where
 h:PO X e (tP X.K G0 W0 m)
theorem PO.imp {e:Option Expr} {t t':TO} (h:PO X e t) (f:∀ σ H Q,t' σ H Q->t σ H Q):PO X e t':=fun pins s σ H Q I q=>h pins s σ H Q I (f σ H Q q)
theorem nq:RP X G0 W0 none oX:=⟨PO.imp xH fun σ H Q h=>by
 obtain ⟨G,W,le,ρ,T,g,r,ρ',w,e,q⟩:=h
 cases e
 exact q _ _ w⟩
theorem c7 {e:Expr} {m:EM} (h:RE X G0 W0 e m):RP X G0 W0 (some e) (eD m):=⟨PO.imp (xG h.h) fun σ H Q h=>by
 obtain ⟨G,W,le,ρ,T,g,r,ρ',w,e,q⟩:=h
 have herr:∀ x,r=.error x->W x ρ':=fun x hx=>by subst hx;exact q
 refine tE.seq le w e herr fun ra ρ1 e1 v H1 ⟨Ts,g1,w1,a1⟩=>?_
 obtain ⟨d,d1,e2⟩:=bq e1
 obtain ⟨o,e3,rfl,rfl⟩:=cN e2
 obtain ⟨i,e4,e5⟩:=AU.mp e3
 subst e5
 obtain ⟨y,i1,f1,f2⟩:=a1.item w1 (fun x hx=>AV _ hx) d1
 have rr:=(w1.itm i1).rep
 rw [f1] at rr
 have hd:d=.int i:=by cases d <;> cases e4;rfl
 rw [hd] at rr
 refine ⟨i,by rw [<- f2];exact rr.int_inv,q _ _ (w1.sub (A5 Ts T))⟩⟩
noncomputable def mSl (f:D->Option Int->Option Int->Option (D × Fl)) (ma:EM) (pl pu:M3 (Option Int)):EM:=ag ma fun ra=>ag pl fun lo=>ag pu fun hi=>ag (der ra) fun d=>bB ((f d lo hi).map fun p=>R3.val p.1 p.2)
noncomputable def SlD (K:FG) (r:V->Option Int->Option Int->Hp->VK->Prop) (f:D->Option Int->Option Int->Option (D × Fl)):Prop:=∀ (a:It3) (lo hi:Option Int) (H:Hp) (Q:VK) (p:D × Fl),Arg K H a->f a.d lo hi=some p ->
 (∀ w H',New K H H' (eB [a]) w->w.d=p.1->w.f=p.2->Q w.v H')->r a.v lo hi H Q
theorem tP.seq {ma:M3 (Option Int)} {k:Option Int->M3 β} {r:Except D β} {P:Option Int->Hp->Prop} (le:Le K G W G0 W0) (w:Wf K G H σ ρ T g) (e:ag ma k ρ=some (r,ρ')) (he:∀ x,r=.error x->W x ρ')
  (h:∀ b ρ1,k b ρ1=some (r,ρ')->∀ H1 g1,Wf K G H1 σ ρ1 T g1->P b H1):tP K G0 W0 ma σ H P:=by
 unfold ag at e
 cases q:ma ρ with
 | none=>rw [q] at e;exact nsE e
 | some p =>
  obtain ⟨o,ρ1⟩:=p
  rw [q] at e
  cases o with
  | error x=>cases e;exact ⟨G,W,le,ρ,T,g,.error x,ρ',w,q,he x rfl⟩
  | ok ra=>exact ⟨G,W,le,ρ,T,g,.ok ra,ρ1,w,q,h ra ρ1 e⟩
theorem tE_sl {r:V->Option Int->Option Int->Hp->VK->Prop} {f:D->Option Int->Option Int->Option (D × Fl)} {ma:EM} {pl pu:M3 (Option Int)} {Q:VK} (hd:SlD K r f) (h:tE K G0 W0 (mSl f ma pl pu) σ H Q):tSl r (tE K G0 W0 ma) (tP K G0 W0 pl) (tP K G0 W0 pu) σ H Q:=by
 refine h.use fun G W le ρ T g o ρ' w e q=>?_
 refine tE.seq le w e q.err fun ra ρ1 e1 va H1 ⟨Ts,g1,w1,a1⟩=>?_
 refine tP.seq le w1 e1 q.err fun lo ρ2 e2 H2 g2 w2=>?_
 refine tP.seq le w2 e2 q.err fun hi ρ3 e3 H3 g3 w3=>?_
 obtain ⟨d,d1,e4⟩:=bq e3
 obtain ⟨p,e5,rfl,rfl⟩:=cN e4
 obtain ⟨y,i1,f1,f2⟩:=a1.item w3 (fun x hx=>AV _ hx) d1
 subst f1 f2
 cases ef:f y.d lo hi with
 | none=>rw [ef] at e5;exact nsE e5
 | some s =>
  rw [ef] at e5
  cases e5
  exact hd y lo hi H3 Q s (w3.itm i1).arg ef (pG w3 (fun z hz=>by rw [Bp.mp hz];exact i1) q)
theorem Reps.take:∀ {ds:List D} {vs:List V} {L:List Addr} (n:Nat),Reps (Rep K H) ds vs L->∃ L',Reps (Rep K H) (ds.take n) (vs.take n) L'/\∀ c ∈ L',c ∈ L
 | _,_,_,0,_=>⟨[],by simpa using Reps.nil,fun c hc=>by cases hc⟩
 | _,_,_,n+1,.nil=>⟨[],by simpa using Reps.nil,fun c hc=>by cases hc⟩
 | _,_,_,n+1,.cons (L:=L1) r rs=>by
  obtain ⟨L',h1,h2⟩:=Reps.take n rs
  exact ⟨L1 ++ L',by simpa using Reps.cons r h1,fun c hc=>by
   rcases A0.mp hc with h | h
   ·exact AV _ h
   ·exact AW _ (h2 c h)⟩
theorem Reps.drop:∀ {ds:List D} {vs:List V} {L:List Addr} (n:Nat),Reps (Rep K H) ds vs L->∃ L',Reps (Rep K H) (ds.drop n) (vs.drop n) L'/\∀ c ∈ L',c ∈ L
 | _,_,L,0,r=>⟨L,by simpa using r,fun c hc=>hc⟩
 | _,_,_,n+1,.nil=>⟨[],by simpa using Reps.nil,fun c hc=>by cases hc⟩
 | _,_,_,n+1,.cons r rs=>by
  obtain ⟨L',h1,h2⟩:=Reps.drop n rs
  exact ⟨L',by simpa using h1,fun c hc=>AW _ (h2 c hc)⟩
theorem Reps.cut {ds:List D} {vs:List V} (lo hi:Option Int) (r:Reps (Rep K H) ds vs L):∃ L',Reps (Rep K H) (fG ds lo hi) (pK vs lo hi) L'/\∀ c ∈ L',c ∈ L:=by
 unfold fG pK
 rw [<- r.len]
 obtain ⟨L1,h1,h2⟩:=r.drop (HT.sIx ds.length 0 lo)
 obtain ⟨L2,h3,h4⟩:=h1.take (HT.sIx ds.length ds.length hi - HT.sIx ds.length 0 lo)
 exact ⟨L2,h3,fun c hc=>h2 c (h4 c hc)⟩
noncomputable def slD:D->Option Int->Option Int->Option (D × Fl)
 | .lst xs,lo,hi=>some (.lst (fG xs lo hi),.u)
 | .fls xs,lo,hi=>some (.lst (fG xs lo hi),.u)
 | .tup xs,lo,hi=>some (.tup (fG xs lo hi),.z)
 | _,_,_=>none
theorem sd_sl:SlD K (fun x lo hi H Q=>zP K x lo hi H Q\/(zO K x lo hi H Q\/uZ K x lo hi H Q)) slD:=fun a lo hi H Q p ra e q=>by
 obtain ⟨da,va,La,fa⟩:=a
 have ra0:=ra
 obtain ⟨ra,oa⟩:=ra
 dsimp only at ra e
 cases da with
 | lst xs =>
  obtain ⟨pa,vs,L0,rfl,rfl,ha,rs⟩:=ra.view
  cases e
  obtain ⟨L',h1,h2⟩:=rs.cut lo hi
  exact .inl ⟨pa,vs,rfl,SqL.of ha,fun p hp=>q ⟨_,.ref p,p :: L',.u⟩ _ (tf hp h1 fun c hc=>pA (y:=⟨.lst xs,.ref pa,pa :: L0,fa⟩) AR ra0 rfl rfl c (h2 c hc)) rfl rfl⟩
 | fls xs =>
  obtain ⟨pa,vs,rfl,ha,rs⟩:=ra.view
  cases e
  obtain ⟨L',h1,h2⟩:=rs.cut lo hi
  exact .inl ⟨pa,vs,rfl,ha.sq,fun p hp=>q ⟨_,.ref p,p :: L',.u⟩ _ (tf hp h1 fun c hc=>jI (y:=⟨.fls xs,.ref pa,La,fa⟩) AR ra0 rfl c (h2 c hc)) rfl rfl⟩
 | tup xs =>
  obtain ⟨pa,vs,rfl,ha,rs⟩:=ra.view
  cases e
  by_cases hw:HT.sIx vs.length 0 lo=0/\HT.sIx vs.length vs.length hi=vs.length
  ·have hc:fG xs lo hi=xs:=by
    unfold fG
    rw [rs.len,hw.1,hw.2,<- rs.len]
    simp
   rw [hc] at q
   exact .inr (.inr ⟨pa,vs,rfl,SqT.of ha,hw,q ⟨.tup xs,.ref pa,La,.z⟩ H (o9 (.tup ha rs) (jI (y:=⟨.tup xs,.ref pa,La,fa⟩) AR ra0 rfl)) rfl rfl⟩)
  ·obtain ⟨L',h1,h2⟩:=rs.cut lo hi
   exact .inr (.inl ⟨pa,vs,rfl,SqT.of ha,hw,fun p hp=>q ⟨_,.ref p,L',.z⟩ _ (xU hp h1 fun c hc=>jI (y:=⟨.tup xs,.ref pa,La,fa⟩) AR ra0 rfl c (h2 c hc)) rfl rfl⟩)
 | _=>exact nsE e
theorem zD:SlR X (fun x lo hi H Q=>zP X.K x lo hi H Q\/(zO X.K x lo hi H Q\/uZ X.K x lo hi H Q)):=sl_list.or (sl_tup.or xb)
theorem ff {e:Expr} {lo hi:Option Expr} {p2 pos:Pos} {m:EM} {pl pu:M3 (Option Int)} (he:RE X G0 W0 e m) (hl:RP X G0 W0 lo pl) (hu:RP X G0 W0 hi pu):RE X G0 W0 (.Subscript e (.Slice lo hi none p2) pos) (mSl slD m pl pu):=⟨PE.imp (vm zD he.h hl.h hu.h) fun _ _ _ h=>tE_sl sd_sl h⟩
end
end L3
end
section
namespace L3
open PySem L2
mutual
noncomputable def pyD:D->Option PyData
 | .non=>some .none
 | .bl b=>some (.bool b)
 | .int i=>some (.int i)
 | .str x=>some (.str x)
 | .tup xs=>(l7 xs).map .tuple
 | .lst xs=>(l7 xs).map .list
 | .fls xs=>(l7 xs).map .list
 | .dk _=>none
 | .dt _=>none
 | .exc _ _=>none
noncomputable def l7:List D->Option (List PyData)
 | []=>some []
 | d :: ds=>match pyD d,l7 ds with
  | some p,some ps=>some (p :: ps)
  | _,_=>none
end
section
variable {K:FG} {H:Hp} {Ks:Addr->Prop} {d:D} {v:V} {L:List Addr} {X:Cx}
set_option tactic.hygienic true in
theorem Rep.dv (r:Rep K H d v L):∀ p,pyD d=some p->DV K H v p:=by
 refine Rep.rec (motive_1:=fun d v _ _=>∀ p,pyD d=some p->DV K H v p) (motive_2:=fun ds vs _ _=>∀ ps,l7 ds=some ps->DVs K H vs ps) ?_ ?_ ?_ ?_ ?_ ?_ ?_ ?_ ?_ ?_ ?_ ?_ r
 ·intro p e;unfold pyD at e;cases e;exact .non
 ·intro _ p e;unfold pyD at e;cases e;exact .bl _
 ·intro _ p e;unfold pyD at e;cases e;exact .int _
 ·intro _ p e;unfold pyD at e;cases e;exact .str _
 ·intro xs a vs L h _ ih p e
  unfold pyD at e
  obtain ⟨ps,e1,rfl⟩:=AU.mp e
  exact .tup (SqT.of h) (ih ps e1)
 ·intro xs a vs L h _ ih p e
  unfold pyD at e
  obtain ⟨ps,e1,rfl⟩:=AU.mp e
  exact .lst (SqL.of h) (ih ps e1)
 ·intro xs a vs L h _ ih p e
  unfold pyD at e
  obtain ⟨ps,e1,rfl⟩:=AU.mp e
  exact .lst h.sq (ih ps e1)
 ·intro _ _ _ _ _ _ _ _ p e;unfold pyD at e;exact nsE e
 ·intro _ _ _ _ _ _ _ _ p e;unfold pyD at e;exact nsE e
 ·intros;rename_i e;unfold pyD at e;exact nsE e
 ·intro ps e;unfold l7 at e;cases e;exact .nil
 ·intro d v L ds vs L' _ _ i1 i2 ps e
  unfold l7 at e
  cases h1:pyD d with
  | none=>rw [h1] at e;exact nsE e
  | some p =>
   cases h2:l7 ds with
   | none=>rw [h1,h2] at e;exact nsE e
   | some qs=>rw [h1,h2] at e;cases e;exact .cons (i1 p h1) (i2 qs h2)
noncomputable def eqP (a b:D):Option Bool:=match pyD a,pyD b with
 | some p,some q=>if p.canLay0 && q.canLay0 && decide (min p.depth q.depth<=30) then some (PyData.eqv p q) else none
 | _,_=>none
noncomputable def eqA (a b:D):Option Bool:=match eqS a b with
 | some k=>some k
 | none=>eqP a b
noncomputable abbrev eqX (a b:D):Option (D × Fl):=(eqA a b).map fun k=>(.bl k,.z)
noncomputable abbrev neX (a b:D):Option (D × Fl):=(eqA a b).map fun k=>(.bl (!k),.z)
noncomputable def rEqP:R2:=fun x y H Q=>∃ p q,DV X.K H x p/\DV X.K H y q/\p.canLay0=true/\q.canLay0=true/\min p.depth q.depth<=30/\Q (.bl (PyData.eqv p q)) H
noncomputable def rNeP:R2:=fun x y H Q=>∃ p q,DV X.K H x p/\DV X.K H y q/\p.canLay0=true/\q.canLay0=true/\min p.depth q.depth<=30/\Q (.bl (!PyData.eqv p q)) H
theorem fT (hu:X.A.units+64 < cLine):OpR X (compareOp .Eq) (fun x y H Q=>rEq x y H Q\/rEqP (X:=X) x y H Q):=by
 intro pins s σ H x y v u Q I rx ry h
 rcases h with h | ⟨p,q,h1,h2,h3,h4,h5,hq⟩
 ·exact op_eq pins s σ H x y v u Q I rx ry h
 ·obtain ⟨as,ra⟩:=DV.reads I h1 rx
  obtain ⟨bs,rb⟩:=DV.reads I h2 ry
  exact PySem.SeqAt.compareEq_reads ra rb h3 h4 (by omega) ⟨.bl _,H,I,rfl,hq⟩
theorem il (hu:X.A.units+64 < cLine):OpR X (compareOp .NotEq) (fun x y H Q=>rNe x y H Q\/rNeP (X:=X) x y H Q):=by
 intro pins s σ H x y v u Q I rx ry h
 rcases h with h | ⟨p,q,h1,h2,h3,h4,h5,hq⟩
 ·exact op_ne pins s σ H x y v u Q I rx ry h
 ·obtain ⟨as,ra⟩:=DV.reads I h1 rx
  obtain ⟨bs,rb⟩:=DV.reads I h2 ry
  exact PySem.SeqAt.compareNe_reads ra rb h3 h4 (by omega) ⟨.bl _,H,I,rfl,hq⟩
set_option tactic.hygienic true in
theorem r9 {a b:D} {k:Bool} (e:eqP a b=some k):∃ p q,pyD a=some p/\pyD b=some q/\p.canLay0=true/\q.canLay0=true/\min p.depth q.depth<=30/\k=PyData.eqv p q:=by
 unfold eqP at e
 cases h1:pyD a with
 | none=>rw [h1] at e;exact nsE e
 | some p =>
  cases h2:pyD b with
  | none=>rw [h1,h2] at e;exact nsE e
  | some q =>
   rw [h1,h2] at e
   dsimp only at e
   split at e
   ·rename_i h
    cases e
    simp only [Bool.and_eq_true,decide_eq_true_eq] at h
    exact ⟨p,q,rfl,rfl,h.1.1,h.1.2,h.2,rfl⟩
   ·exact nsE e
theorem fU:OpD X.K (fun x y H Q=>rEq x y H Q\/rEqP (X:=X) x y H Q) eqX:=fun a b H Q p ra rb e q=>by
 obtain ⟨k,h1,h2⟩:=AU.mp e
 subst h2
 unfold eqA at h1
 cases hs:eqS a.d b.d with
 | some k' =>
  rw [hs] at h1
  cases h1
  obtain ⟨s,hk⟩:=wa ra.rep rb.rep hs
  exact .inl ⟨s,by rw [<- hk];exact q ⟨.bl k,.bl k,[],.z⟩ H (ip (.bl k)) rfl rfl⟩
 | none =>
  rw [hs] at h1
  obtain ⟨p,p',e1,e2,e3,e4,e5,rfl⟩:=r9 h1
  exact .inr ⟨p,p',ra.rep.dv p e1,rb.rep.dv p' e2,e3,e4,e5,q ⟨.bl _,.bl _,[],.z⟩ H (ip (.bl _)) rfl rfl⟩
theorem io:OpD X.K (fun x y H Q=>rNe x y H Q\/rNeP (X:=X) x y H Q) neX:=fun a b H Q p ra rb e q=>by
 obtain ⟨k,h1,h2⟩:=AU.mp e
 subst h2
 unfold eqA at h1
 cases hs:eqS a.d b.d with
 | some k' =>
  rw [hs] at h1
  cases h1
  obtain ⟨s,hk⟩:=wa ra.rep rb.rep hs
  exact .inl ⟨s,by rw [<- hk];exact q ⟨.bl (!k),.bl (!k),[],.z⟩ H (ip (.bl _)) rfl rfl⟩
 | none =>
  rw [hs] at h1
  obtain ⟨p,p',e1,e2,e3,e4,e5,rfl⟩:=r9 h1
  exact .inr ⟨p,p',ra.rep.dv p e1,rb.rep.dv p' e2,e3,e4,e5,q ⟨.bl _,.bl _,[],.z⟩ H (ip (.bl _)) rfl rfl⟩
theorem wb {a:D} {p:PyData} (h:pyD a=some p) (hc:p.canLay0=true) (hd:p.depth<=30):eqP a a=some true:=by
 unfold eqP
 rw [h]
 simp [hc,hd,PySem.SeqAt.eqv_refl p hc]
noncomputable def intQ1:D->Option (D × Fl)
 | .int i=>some (.int i,.z)
 | .bl k=>some (.int (if k then 1 else 0),.z)
 | _=>none
noncomputable abbrev yY:=c1 intQ1
set_option tactic.hygienic true in
theorem yy:gU K (fun xs H Q=>(∃ i,xs=[.int i]/\Q (.int i) H)\/∃ k,xs=[.bl k]/\Q (.int (if k then 1 else 0)) H) yY:=fun ys H Q p ra e q=>by
 obtain ⟨y,rfl,e2⟩:=kc e
 clear e
 have e:=e2
 clear e2
 have rr:=(ra y AR).rep
 obtain ⟨da,va,La,fa⟩:=y
 dsimp only at rr e
 cases rr <;> try (exact nsE e)
 ·rename_i b
  cases e
  exact .inr ⟨b,rfl,q ⟨_,_,[],.z⟩ H (ip (.int _)) rfl rfl⟩
 ·rename_i i
  cases e
  exact .inl ⟨i,rfl,q ⟨_,_,[],.z⟩ H (ip (.int _)) rfl rfl⟩
end
end L3
end
section
namespace L3
open PySem L2
set_option tactic.hygienic true in
theorem AB {P:Program} {w:World} {K:FG} {mg:Str->Option Value} {base:Heap} {x:Str} {st:Stmt} {k:Nat} {N ps:List Str} {mask:List Bool} {m:SM} {nn:Nat} {f:Addr} {fd:FuncData} (F:Fun K x x st f fd) (S:FnScope N ps (ak st)) (hml:mask.length=ps.length) (hnn:N.length=nn)
  (body:∀ (cdv:Value) (A:Around) (outer:List Env) (s:Shared) (H:Hp) (E:XK) (f:Addr) (G:Gm),Room k (A.deeper (PyProof.Rows.envOfC x (ak st) s.heap.objs.size f cdv))->G.pr=prM mask->RSs (pJ CX0 P w K mg base N x (ak st) f cdv A outer s H E).nox G noX (bo st) m) :
  FnOk P w K mg base CX0 (k+1) f fd ps (sJ K (fnM mask nn m)):=by
 refine F.ok S (fun vs H Q E h=>?_) fun cdv A outer s H vs Q E hr h=>?_
 ·obtain ⟨ps',p,fs,rfl,_,_,hF,_⟩:=h
  unfold fnM at hF
  rw [A2] at hF ⊢
  split at hF
  ·rename_i e;rw [e,hml]
  ·exact nsE hF
 ·have hle:mask.length<=nn:=by
   rw [hml,<- hnn]
   have:=congrArg List.length S.pre
   rw [Bk] at this
   omega
  obtain ⟨G,hG,ht⟩:=r6 hle h
  subst hnn
  exact ⟨_,(body cdv A outer s H E f G hr hG).h,ht⟩
noncomputable def uC (K:FG):Sp:=fun vs H Q _=>∃ (a:Addr) (ns:List Int),vs=[.ref a]/\SqL K H a (ns.map V.int)/\yE H/\ns.length<=63/\∀ H',Q (.bl true) H'
theorem mE {K:FG} {H:Hp}:∀ ns:List Int,Reps (Rep K H) (ns.map D.int) (ns.map V.int) []
 | []=>.nil
 | n :: ns=>.cons (L:=[]) (.int n) (mE ns)
theorem yi {K:FG} {F:Fn} (hF:∀ ns:List Int,ns.length<=63->∃ fs,F [(.fls (ns.map .int),.z)]=some (.ok (.bl true,.z),fs)) {vs:List V} {H:Hp} {Q:VK} {E:XK} (h:uC K vs H Q E):sJ K F vs H Q E:=by
 obtain ⟨a,ns,rfl,hS,hO,hn,q⟩:=h
 obtain ⟨fs,e⟩:=hF ns hn
 have fz:FzL K H a (ns.map V.int):=by
  rcases hS with (h | h) | h
  ·rcases hO a with z | ⟨o,xs,z⟩
   ·rw [h] at z;cases z
   ·rw [h] at z;cases z
  ·exact .inl h
  ·exact .inr h
 refine ⟨[⟨.fls (ns.map .int),.ref a,[],.z⟩],(.bl true,.z),fs,rfl,fun p hp=>?_,.cons (fun _ h=>by cases h) .nil,e,fun x qs H' B x1 x2 _=>?_⟩
 ·rw [Bp.mp hp]
  exact ⟨.lstF fz (mE ns),fun h=>absurd rfl h⟩
 ·have r:=B.rep
  rw [x1] at r
  have inv:∀ {v:V} {L:List Addr},Rep K H' (.bl true) v L->v=.bl true:=fun r=>by cases r;rfl
  rw [inv r]
  exact q H'
end L3
end
section
namespace L3
open PySem L2
section
variable {K:FG} {G G0:Gm} {W W0:D->Sto->Prop} {H H':Hp} {σ:St} {ρ ρ':Sto} {T T':List It3} {g:Nat->Option It3} {x y z:It3} {α β:Type} {X:Cx} {v:V} {d:D} {L:List Addr}
noncomputable def jp:List D->Option (List Int)
 | []=>some []
 | .int i :: ds=>(jp ds).map (i :: ·)
 | _=>none
set_option tactic.hygienic true in
theorem mP:∀ {ds:List D} {ns:List Int},jp ds=some ns->ds=ns.map D.int
 | [],ns,e=>by cases e;rfl
 | d :: ds,ns,e=>by
  cases d <;> try (exact nsE e)
  rename_i b
  obtain ⟨r,h1,h2⟩:=AU.mp (show (jp ds).map (b :: ·)=some ns from e)
  subst h2
  rw [mP h1];rfl
theorem Reps.ints:∀ {ns:List Int} {vs:List V} {L:List Addr},Reps (Rep K H) (ns.map D.int) vs L->vs=ns.map V.int
 | [],_,_,.nil=>rfl
 | b :: bs,_,_,.cons r rs=>by
  rw [Reps.ints rs]
  cases r;rfl
end
end L3
end
section
namespace L3
open PySem L2
end L3
end
section
namespace L3
open PySem L2
section
variable {K:FG} {G G0:Gm} {W W0:D->Sto->Prop} {H H':Hp} {σ:St} {ρ ρ':Sto} {T T':List It3} {g:Nat->Option It3} {x y z:It3} {α β:Type} {X:Cx} {v:V} {d:D} {L:List Addr}
noncomputable def wJ (i j:Int):Prop:=0 < j/\j < 1267650600228229401496703205376
theorem vt:OpR X (binaryOp .FloorDiv) (rI wJ fun i j=>.int (i / j)):=opI fun i j _ _ _ _ _ hc q=>by
 have h1:(0:Int) < j:=hc.1
 have h2:j < 1267650600228229401496703205376:=hc.2
 refine PyProof.Rows.floordiv_int (by omega) (by rw [Int.fdiv_eq_ediv_of_nonneg i (by omega)];exact q) (.inl (PyProof.noPylong_of_log2 ?_))
 have h3:j.natAbs < 2 ^ 100:=by omega
 exact Nat.lt_trans ((Nat.log2_lt (by omega)).mpr h3) (by decide)
noncomputable abbrev AD:=cV (fun _ j=>decide (0 < j/\j < 1267650600228229401496703205376)) fun i j=>.int (i / j)
theorem xR:OpD K (rI wJ fun i j=>.int (i / j)) AD:=gI (fun i j h=>by simpa [wJ] using h) fun i j _=>.int _
end
end L3
end
section
namespace L3
open PySem L2
end L3
end
section
namespace L3
open PySem L2
end L3
end
section
namespace L3
open PySem L2
end L3
theorem L2.Room.hu {A:PySem.Around} {k:Nat} (hr:L2.Room k A):A.units+1 < PySem.cLine:=L2.hu_of hr
end
section
namespace L3
open PySem L2
section
variable {K:FG} {G G0:Gm} {W W0:D->Sto->Prop} {H H':Hp} {σ:St} {ρ ρ':Sto} {T T':List It3} {g:Nat->Option It3} {x y z:It3} {α β:Type} {X:Cx} {v:V} {d:D} {L:List Addr}
noncomputable def qM (x:Int):List Int->List Int
 | []=>[x]
 | y :: ys=>if x<=y then x :: y :: ys else y :: qM x ys
noncomputable def srt:List Int->List Int
 | []=>[]
 | x :: xs=>qM x (srt xs)
theorem j5 (x:Int):∀ l:List Int,(qM x l).Perm (x :: l)
 | []=>.refl _
 | y :: ys=>by
  unfold qM
  split
  ·exact .refl _
  ·exact ((j5 x ys).cons y).trans (.swap x y ys)
theorem k7:∀ l:List Int,(srt l).Perm l
 | []=>.refl _
 | x :: xs=>(j5 x (srt xs)).trans ((k7 xs).cons x)
set_option tactic.hygienic true in
theorem kz (x:Int):∀ {l:List Int},l.Pairwise (·<=·)->(qM x l).Pairwise (·<=·)
 | [],_=>by simp [qM]
 | y :: ys,h=>by
  unfold qM
  have h1:=List.pairwise_cons.mp h
  split
  ·rename_i hx
   refine List.pairwise_cons.mpr ⟨fun z hz=>?_,h⟩
   rcases AX.mp hz with rfl | hz
   ·exact hx
   ·have:=h1.1 z hz
    omega
  ·rename_i hx
   refine List.pairwise_cons.mpr ⟨fun z hz=>?_,kz x h1.2⟩
   rcases AX.mp ((j5 x ys).subset hz) with rfl | hz
   ·omega
   ·exact h1.1 z hz
theorem je:∀ l:List Int,(srt l).Pairwise (·<=·)
 | []=>.nil
 | x :: xs=>kz x (je xs)
theorem hJ:∀ {l l':List Int},l.Perm l'->l.Pairwise (·<=·)->l'.Pairwise (·<=·)->l=l'
 | [],l',p,_,_=>by rw [List.nil_perm.mp p]
 | a :: l,[],p,_,_=>by cases p.length_eq
 | a :: l,b :: l',p,h,h'=>by
  have h1:=List.pairwise_cons.mp h
  have h2:=List.pairwise_cons.mp h'
  have e:a=b:=by
   have m1:=p.subset (AR (a:=a) (l:=l))
   have m2:=p.symm.subset (AR (a:=b) (l:=l'))
   rcases AX.mp m1 with e | m1
   ·exact e
   ·rcases AX.mp m2 with e | m2
    ·exact e.symm
    ·have:=h2.1 a m1
     have:=h1.1 b m2
     omega
  subst e
  rw [hJ (List.Perm.cons_inv p) h1.2 h2.2]
theorem kj:∀ ns:List Int,Reps (Rep K H) (ns.map D.int) (ns.map V.int) []
 | []=>.nil
 | n :: ns=>.cons (L:=[]) (.int n) (kj ns)
end
end L3
end
section
namespace L3
open PySem L2
section
variable {K:FG} {G G0:Gm} {W W0:D->Sto->Prop} {H H':Hp} {σ:St} {ρ ρ':Sto} {T T':List It3} {g:Nat->Option It3} {x y z:It3} {α β:Type} {X:Cx} {v:V} {d:D} {L:List Addr}
noncomputable def i9:List D->Option (List (List Key))
 | []=>some []
 | .tup xs :: ds=>match dO xs,i9 ds with
  | some k,some ks=>some (k :: ks)
  | _,_=>none
 | _=>none
noncomputable def dzQ:D->D->Option (D × Fl)
 | .lst xs,.tup ys=>(i9 xs).bind fun ks=>if ks.length=ys.length/\ks.Nodup then some (.dt (ks.zip ys),.u) else none
 | _,_=>none
noncomputable abbrev dzD:=c2 dzQ
noncomputable abbrev pv (ms:M3 (List R3)):EM:=aG dzD ms
set_option tactic.hygienic true in
theorem lF:∀ {ds:List D} {vs:List V} {L:List Addr} {ks:List (List Key)},Reps (Rep K H) ds vs L->i9 ds=some ks->∃ bs:List (Addr × List Key),vs=bs.map (fun b=>V.ref b.1)/\bs.map (·.2)=ks/\∀ b ∈ bs,H b.1=some (.tup (b.2.map kV))
 | _,_,_,ks,.nil,e=>by cases e;exact ⟨[],rfl,rfl,fun b hb=>by cases hb⟩
 | _,_,_,ks,.cons (d:=d) (ds:=ds) r rs,e=>by
  cases d <;> try (exact nsE e)
  rename_i xs
  obtain ⟨pa,ws,rfl,ha,rs'⟩:=r.view
  unfold i9 at e
  cases h1:dO xs with
  | none=>rw [h1] at e;exact nsE e
  | some k =>
   cases h2:i9 ds with
   | none=>rw [h1,h2] at e;exact nsE e
   | some ks' =>
    rw [h1,h2] at e
    cases e
    obtain ⟨bs,g1,g2,g3⟩:=lF rs h2
    have hw:=fP rs' h1
    subst hw
    refine ⟨(pa,k) :: bs,by rw [g1];rfl,by rw [Bc,g2],fun b hb=>?_⟩
    rcases AX.mp hb with rfl | hb
    ·exact ha
    ·exact g3 b hb
theorem kZ {α β:Type}:∀ {ks:List α} {ys:List β},ks.length=ys.length->(ks.zip ys).map (·.2)=ys
 | [],[],_=>rfl
 | k :: ks,y :: ys,e=>by simp [kZ (ks:=ks) (ys:=ys) (by simpa using e)]
theorem k6 {α β:Type}:∀ {ks:List α} {ys:List β},ks.length=ys.length->(ks.zip ys).map (·.1)=ks
 | [],[],_=>rfl
 | k :: ks,y :: ys,e=>by simp [k6 (ks:=ks) (ys:=ys) (by simpa using e)]
set_option tactic.hygienic true in
theorem wW {ms:M3 (List R3)} {Q:VK} (h:tE K G0 W0 (pv ms) σ H Q):yK K (tA K G0 W0 ms) σ H Q:=by
 refine ju (r:=fun xs H Q=>∃ (l t:Addr) (bs:List (Addr × List Key)) (ws:List V),xs=[.ref l,.ref t]/\SqL K H l (bs.map fun b=>V.ref b.1)/\SqT K H t ws/\(∀ b ∈ bs,H b.1=some (.tup (b.2.map kV)))/\bs.length=ws.length/\(bs.map (·.2)).Nodup/\∀ p,H p=none->Q (.ref p) (upd H p (.dT ((bs.map (·.2)).zip ws)))) (fun ys H Q p ra e q=>?_) h
 obtain ⟨y,z,rfl,e2⟩:=oi e
 clear e
 have ry:=(ra y AR).rep
 have rz:=(ra z (AS _ AR)).rep
 have az:=ra z (AS _ AR)
 obtain ⟨da,va,La,fa⟩:=y
 obtain ⟨db,vb,Lb,fb⟩:=z
 dsimp only at ry rz e2
 cases da <;> try (exact nsE e2)
 rename_i xs
 cases db <;> try (exact nsE e2)
 rename_i ws
 obtain ⟨pa,vs,L0,rfl,rfl,ha,rs⟩:=ry.view
 obtain ⟨pb,us,rfl,hb,rs'⟩:=rz.view
 obtain ⟨ks,h1,h2⟩:=Bo.mp (show ((i9 xs).bind fun ks=>if ks.length=ws.length/\ks.Nodup then some ((.dt (ks.zip ws),.u):D × Fl) else none)=some p from e2)
 split at h2
 ·rename_i hc
  cases h2
  obtain ⟨bs,g1,g2,g3⟩:=lF rs h1
  subst g1 g2
  have hl:(bs.map (·.2)).length=us.length:=by rw [hc.1,rs'.len]
  refine ⟨pa,pb,bs,us,rfl,SqL.of ha,SqT.of hb,g3,by simpa using hl,hc.2,fun p hp=>?_⟩
  refine q ⟨.dt ((bs.map (·.2)).zip ws),.ref p,p :: Lb,.u⟩ _ ⟨bT hp,.dT bd (by rw [k6 hc.1,k6 hl]) (by rw [kZ hc.1,kZ hl];exact rs'.same (bT hp)),fun c hc=>?_,fun _=>⟨rfl,p,Lb,rfl,rfl,fun hc=>?_,hp⟩⟩ rfl rfl
  ·rcases AX.mp hc with e | hc
   ·rw [e];exact .inl hp
   ·exact .inr (jI (y:=⟨.tup ws,.ref pb,Lb,fb⟩) (AS _ AR) az rfl c hc)
  ·obtain ⟨o,ho⟩:=(rs'.inH p hc).ex
   rw [hp] at ho
   exact nsE ho
 ·exact nsE h2
theorem nz {a b:Expr} {ms:M3 (List R3)} {p1 p2 pos1 pos2:Pos} (hc:X.calm=true) (hu:X.A.units+64 < cLine) (hgl:Gl X "dict") (hml:X.mg "dict"=none) (hg:Gl X "zip") (hm:X.mg "zip"=none) (ha:RA X G0 W0 [a,b] ms)
  (hs:starEach [.Call (.Name "zip" p2) [a,b] [] pos2] X.env=[(false,eval (.Call (.Name "zip" p2) [a,b] [] pos2) X.env)]) (hs2:starEach [a,b] X.env=(false,eval a X.env) :: starEach [b] X.env) (hpl:(backTo pos2 (starEach [b] X.env)).any (·.1)=false) :
  RE X G0 W0 (.Call (.Name "dict" p1) [.Call (.Name "zip" p2) [a,b] [] pos2] [] pos1) (pv ms):=⟨PE.imp (xK hc hu hgl hml hg hm AK b_zip ha.h hs hs2 hpl) fun _ _ _ h=>wW h⟩
end
end L3
end
section
namespace L3
open PySem L2
section
variable {K:FG} {G G0:Gm} {W W0:D->Sto->Prop} {H H':Hp} {σ:St} {ρ ρ':Sto} {T T':List It3} {g:Nat->Option It3} {x y z:It3} {α β:Type} {X:Cx} {v:V} {d:D} {L:List Addr}
noncomputable abbrev lY:=cV (fun i j=>decide (0<=j/\j<=1000000/\i.natAbs < 2 ^ 64)) fun i j=>.int (i * 2 ^ j.toNat)
theorem Ag:OpD K (rI qa fun i j=>.int (i * 2 ^ j.toNat)) lY:=gI (fun i j h=>by simpa [qa] using h) fun i j _=>.int _
end
end L3
end
section
namespace L3
open PySem L2
section
variable {K:FG} {H H':Hp}
noncomputable abbrev shrI:=cV (fun _ j=>decide (0<=j)) fun i j=>.int (i / 2 ^ j.toNat)
theorem Af:OpD K (rI (fun _ j=>0<=j) fun i j=>.int (i / 2 ^ j.toNat)) shrI:=gI (fun i j h=>by simpa using h) fun i j _=>.int _
noncomputable abbrev andI:=cV m7 fun i j=>.int (Builtin.bitAnd i j)
theorem Ah:OpD K (rI0 fun i j=>.int (Builtin.bitAnd i j)) andI:=fy fun i j _=>.int _
end
end L3
end
section
namespace L3
open PySem L2
section
variable {K:FG} {G0:Gm} {W0:D->Sto->Prop} {X:Cx}
noncomputable def ssQ:D->Option (D × Fl)
 | .tup xs=>(jp xs).bind fun ns=>if ns.length < 64 then some (.lst ((srt (ns.foldl met [])).map .int),.u) else none
 | _=>none
noncomputable abbrev ssD:=c1 ssQ
noncomputable def rSS (X:Cx):List V->Hp->VK->Prop:=fun xs H Q=>rSet X xs H fun v H1=>uY X [v] H1 Q
set_option tactic.hygienic true in
theorem cd_ss:gU X.K (rSS X) ssD:=fun ys H Q p ra e q=>by
 obtain ⟨y,rfl,e2⟩:=kc e
 clear e
 have rr:=(ra y AR).rep
 obtain ⟨da,va,La,fa⟩:=y
 dsimp only at rr e2
 cases da <;> try (exact nsE e2)
 rename_i xs
 obtain ⟨pa,vs,rfl,ha,rs⟩:=rr.view
 obtain ⟨ns,h1,h2⟩:=Bo.mp e2
 split at h2
 ·rename_i h64
  cases h2
  have e3:=mP h1
  subst e3
  have e4:=rs.ints
  subst e4
  refine ⟨pa,ns,rfl,SqT.of ha,h64,fun a hn=>⟨a,ns.foldl met [],rfl,bd,?_,fun b hb ns' p1 p2=>?_⟩⟩
  ·have:=pg ns []
   simp at this
   omega
  ·rw [hJ (p1.trans (k7 _).symm) p2 (je _)]
   have hb':H b=none:=by
    by_cases z:b=a
    ·rw [z];exact hn
    ·rw [aN z] at hb;exact hb
   have w:=tf (K:=X.K) (Ks:=eB [⟨.tup (ns.map .int),.ref pa,La,fa⟩]) hb (kj (K:=X.K) (H:=upd H a (xi X a (ns.foldl met []))) (srt (ns.foldl met []))) (fun c hc=>by cases hc)
   refine q ⟨.lst ((srt (ns.foldl met [])).map .int),.ref b,[b],.u⟩ _ ⟨(bT hn).trans w.same,w.rep,fun c hc=>?_,fun _=>⟨rfl,b,[],rfl,rfl,List.not_mem_nil,hb'⟩⟩ rfl rfl
   cases Bp.mp hc
   exact .inl hb'
 ·exact nsE h2
theorem re_ss {e:Expr} {m:EM} {x y:Str} {p p' pos pos':Pos} (hc:X.calm=true) (hg:Gl X x) (hm:X.mg x=none) (hv:bootBuiltins x=some (.builtin "sorted")) (hg':Gl X y) (hm':X.mg y=none) (hv':bootBuiltins y=some (.type "set")) (ha:RE X G0 W0 e m)
  (hn:x ≠ "__name__") (hd:(x == ("__debug__":Str))=false) (hn':y ≠ "__name__") (hd':(y == ("__debug__":Str))=false) (s1:starEach [e] X.env=(false,eval e X.env) :: starEach [] X.env)
  (s2:starEach [.Call (.Name y p') [e] [] pos'] X.env=(false,eval (.Call (.Name y p') [e] [] pos') X.env) :: starEach [] X.env) :
  RE X G0 W0 (.Call (.Name x p) [.Call (.Name y p') [e] [] pos'] [] pos) (aG ssD (ab m ah)) :=
 ⟨PE.imp (lw (qS hc) hg hm hv (kR (mG (t7 hc) hg' hm' hv' (aa ha ae s1).h hn' hd' s1 rfl) qx s2) hn hd s2 rfl) fun σ H Q h=>(ju (r:=rSS X) cd_ss h:tCB (rSS X) (tA X.K G0 W0 (ab m ah)) σ H Q)⟩
end
end L3
end
section
namespace L3
open PySem L2
section
variable {K:FG} {G0:Gm} {W0:D->Sto->Prop} {X:Cx}
noncomputable def Am (k:Key) (i:Int):EM:=bI (.val (.dk [(k,.int i)]) .u)
theorem zN {k v:Expr} {key:Key} {i:Int} {pos:Pos} (hk:PE X k (tC (kV key))) (hv:PE X v (tC (.int i))):RE X G0 W0 (.Dict [some k] [v] pos) (Am key i):=⟨PE.imp (z7 hk hv) fun σ H Q h=>by
 refine h.use fun G W le ρ T g o ρ' w e q=>?_
 cases e
 intro p hp
 have sm:Same H (upd (upd H p (.dK [])) p (.dK [(key,.int i)])):=fun b o hb=>by
  have n:b ≠ p:=fun z=>by rw [z,hp] at hb;cases hb
  rw [aN n,aN n];exact hb
 refine q _ _ (Wf.done (Us:=[]) (ys:=[]) (x:=⟨.dk [(key,.int i)],.ref p,[p],.u⟩) w (fun _ h=>(by cases h)) ⟨sm,.dK (L:=[]) bd rfl (.cons (L:=[]) (.int i) .nil),fun c hc=>?_,fun _=>⟨rfl,p,[],rfl,rfl,(by simp),hp⟩⟩)
 rw [Bp.mp hc];exact .inl hp⟩
end
end L3
end
section
namespace Bn
open PySem L2 L3
noncomputable abbrev Pd (p:Int × Int):L3.D:=.tup [.int p.1,.int p.2]
theorem cG {bnd:L3.D->Sto->Option Sto} {b:SM} (P:Nat->Sto->Prop):∀ {ds:List L3.D} {ρ:Sto} {k:Nat},P k ρ->(∀ i d ρ,ds[i]?=some d->P (k+i) ρ->∃ ρ1 ρ2,bnd d ρ=some ρ1/\(b ρ1=some (.ok .nx,ρ2)\/b ρ1=some (.ok .ct,ρ2))/\P (k+i+1) ρ2)->∃ ρ',dA bnd b ds ρ=some (.ok .nx,ρ')/\P (k+ds.length) ρ'
 | [],ρ,k,h0,_=>⟨ρ,rfl,h0⟩
 | d :: ds,ρ,k,h0,hs=>by
  obtain ⟨ρ1,ρ2,e1,e2,h1⟩:=hs 0 d ρ rfl h0
  obtain ⟨ρ',e3,h3⟩:=cG P (ds:=ds) (ρ:=ρ2) (k:=k+1) h1 fun i d ρ hd hp=>by
   have:=hs (i+1) d ρ (by simpa using hd) (by rwa [show k+(i+1)=k+1+i by omega])
   rwa [show k+(i+1)+1=k+1+i+1 by omega] at this
  refine ⟨ρ',?_,by rw [Bj,show k+(ds.length+1)=k+1+ds.length by omega];exact h3⟩
  unfold dA
  simp only [e1]
  rcases e2 with e2 | e2 <;> simp only [ag,e2,e3]
theorem jM {bnd:L3.D->Sto->Option Sto} {b:SM} (P:Nat->Sto->Prop) (E:Nat->L3.D->Fl->Sto->Prop):∀ {ds:List L3.D} {ρ:Sto} {k:Nat},P k ρ ->
  (∀ i d ρ,ds[i]?=some d->P (k+i) ρ->∃ ρ1 ρ2,bnd d ρ=some ρ1/\(((b ρ1=some (.ok .nx,ρ2)\/b ρ1=some (.ok .ct,ρ2))/\P (k+i+1) ρ2)\/∃ r f,b ρ1=some (.ok (.rt r f),ρ2)/\E (k+i) r f ρ2)) ->
  ∃ ρ',(dA bnd b ds ρ=some (.ok .nx,ρ')/\P (k+ds.length) ρ')\/∃ i r f,i < ds.length/\dA bnd b ds ρ=some (.ok (.rt r f),ρ')/\E (k+i) r f ρ'
 | [],ρ,k,h0,_=>⟨ρ,.inl ⟨rfl,h0⟩⟩
 | d :: ds,ρ,k,h0,hs=>by
  obtain ⟨ρ1,ρ2,e1,h1⟩:=hs 0 d ρ rfl h0
  rcases h1 with ⟨e2,h1⟩ | ⟨r,f,e2,h1⟩
  ·obtain ⟨ρ',h3⟩:=jM P E (ds:=ds) (ρ:=ρ2) (k:=k+1) h1 fun i d ρ hd hp=>by
    have:=hs (i+1) d ρ (by simpa using hd) (by rwa [show k+(i+1)=k+1+i by omega])
    rwa [show k+(i+1)=k+1+i by omega] at this
   have e4:dA bnd b (d :: ds) ρ=dA bnd b ds ρ2:=by
    conv=>lhs;unfold dA
    simp only [e1]
    rcases e2 with e2 | e2 <;> simp only [ag,e2]
   rcases h3 with ⟨e3,h3⟩ | ⟨i,r,f,hi,e3,h3⟩
   ·exact ⟨ρ',.inl ⟨e4.trans e3,by rw [Bj,show k+(ds.length+1)=k+1+ds.length by omega];exact h3⟩⟩
   ·exact ⟨ρ',.inr ⟨i+1,r,f,by simp;omega,e4.trans e3,by rw [show k+(i+1)=k+1+i by omega];exact h3⟩⟩
  ·refine ⟨ρ2,.inr ⟨0,r,f,by simp,?_,h1⟩⟩
   unfold dA
   simp only [e1,ag,e2,bI]
theorem dX {lo:Int} {n i:Nat} {d:L3.D} (h:(bx lo n)[i]?=some d):i < n/\d=.int (lo+i):=by
 unfold bx at h
 rw [A7,AU] at h
 obtain ⟨j,h1,rfl⟩:=h
 have h2:=A3.mp h1
 obtain ⟨h3,h4⟩:=h2
 simp at h3 h4
 subst h4
 exact ⟨h3,rfl⟩
theorem ce {lo:Int} {n:Nat}:(bx lo n).length=n:=by unfold bx;simp
theorem Small.sub {p q:Pt} (hp:Small p) (hq:Small q):(-18446744073709551616 < q.1 - p.1/\q.1 - p.1 < 18446744073709551616)/\(-18446744073709551616 < q.2 - p.2/\q.2 - p.2 < 18446744073709551616):=by
 obtain ⟨a1,a2,a3,a4⟩:=hp
 obtain ⟨b1,b2,b3,b4⟩:=hq
 exact ⟨⟨by omega,by omega⟩,⟨by omega,by omega⟩⟩
theorem jQ {c:M3 Bool} {b:SM} (P:Nat->Sto->Prop) (Q:Sto->Prop) {n:Nat} {ρ:Sto} (h0:P n ρ)
  (hs:∀ n ρ,P n ρ->(∃ ρ1,c ρ=some (.ok false,ρ1)/\Q ρ1)\/∃ ρ1 ρ2 m,c ρ=some (.ok true,ρ1)/\(b ρ1=some (.ok .nx,ρ2)\/b ρ1=some (.ok .ct,ρ2))/\m < n/\P m ρ2):∃ ρ',fc c b ρ=some (.ok .nx,ρ')/\Q ρ':=by
 have main:∀ n ρ,P n ρ->∃ ρ',cE c b (n+1) ρ=some (.ok .nx,ρ')/\Q ρ':=by
  intro n
  induction n using Nat.strongRecOn with
  | _ n ih =>
   intro ρ hp
   rcases hs n ρ hp with ⟨ρ1,e1,hq⟩ | ⟨ρ1,ρ2,m,e1,e2,hm,hp2⟩
   ·refine ⟨ρ1,?_,hq⟩
    unfold cE
    simp [ag,e1,bI]
   ·obtain ⟨ρ',e3,hq⟩:=ih m hm ρ2 hp2
    refine ⟨ρ',?_,hq⟩
    have e4:=jR (show m+1<=n by omega) e3
    unfold cE
    rcases e2 with e2 | e2 <;> simp [ag,e1,e2,e4]
 obtain ⟨ρ',e,hq⟩:=main n ρ h0
 refine ⟨ρ',?_,hq⟩
 unfold fc
 have h:∃ n r,cE c b n ρ=some r:=⟨_,_,e⟩
 rw [dif_pos h]
 have e2:=Classical.choose_spec (Classical.choose_spec h)
 have e3:=jR (Nat.le_max_left (n+1) (Classical.choose h)) e
 have e4:=jR (Nat.le_max_right (n+1) (Classical.choose h)) e2
 rw [e3] at e4
 exact e4.symm
theorem aq {a b:SM} {ρ ρ1:Sto} {r:Option (Except L3.D Flw × Sto)} (h1:a ρ=some (.ok .nx,ρ1)) (h2:b ρ1=r):aK a b ρ=r:=by
 simp only [aK,ag,h1]
 exact h2
theorem fB {bnd:L3.D->Sto->Option Sto} {c:M3 Bool} {elt:EM} (P:Sto->Prop) (g:L3.D->Bool) (f:L3.D->L3.D):∀ {ds:List L3.D} {τ:Sto},P τ ->
  (∀ d ∈ ds,∀ τ,P τ->∃ τ1 τ2,bnd d τ=some τ1/\c τ1=some (.ok (g d),τ2)/\(g d=false->P τ2)/\(g d=true->∃ r τ3 p τ4,elt τ2=some (.ok r,τ3)/\gP r τ3=some (.ok p,τ4)/\p.1=f d/\P τ4)) ->
  ∃ τ',cn bnd c elt ds τ=some (.ok ((ds.filter g).map f),τ')/\P τ'
 | [],τ,h0,_=>⟨τ,rfl,h0⟩
 | d :: ds,τ,h0,hs=>by
  obtain ⟨τ1,τ2,e1,e2,hf,ht⟩:=hs d AR τ h0
  cases hg:g d with
  | false =>
   obtain ⟨τ',e,hp⟩:=fB P g f (ds:=ds) (τ:=τ2) (hf hg) fun d hd=>hs d (AS _ hd)
   refine ⟨τ',?_,hp⟩
   unfold cn
   rw [hg] at e2
   simp [e1,ag,e2,e,List.filter_cons,hg]
  | true =>
   obtain ⟨r,τ3,p,τ4,e3,e4,e5,hp4⟩:=ht hg
   obtain ⟨τ',e,hp⟩:=fB P g f (ds:=ds) (τ:=τ4) hp4 fun d hd=>hs d (AS _ hd)
   refine ⟨τ',?_,hp⟩
   unfold cn
   rw [hg] at e2
   simp [e1,ag,e2,e3,e4,e,List.filter_cons,hg,bI,e5]
noncomputable abbrev Tri:=Nat × Nat × Nat
noncomputable def jT (i j m:Nat):List Tri:=(List.range m).map fun k=>(i,j,j+1+k)
noncomputable def jh (n i m:Nat):List Tri:=(List.range m).flatMap fun j=>jT i (i+1+j) (n - (i+1+j+1))
noncomputable def l6 (n m:Nat):List Tri:=(List.range m).flatMap fun i=>jh n i (n - (i+1))
noncomputable def aD (n:Nat):List Tri:=l6 n n
theorem lh (i j m:Nat):(jT i j m).length=m:=by simp [jT]
theorem mz (n i m:Nat):jh n i (m+1)=jh n i m ++ jT i (i+1+m) (n - (i+1+m+1)):=by simp [jh,List.range_succ,List.flatMap_append]
theorem mB (n m:Nat):l6 n (m+1)=l6 n m ++ jh n m (n - (m+1)):=by simp [l6,List.range_succ,List.flatMap_append]
theorem vD {i j m:Nat} {t:Tri} (h:t ∈ jT i j m):t.1=i/\t.2.1=j/\j < t.2.2/\t.2.2 < j+1+m:=by
 obtain ⟨k,hk,rfl⟩:=A6.mp h
 rw [List.mem_range] at hk
 exact ⟨rfl,rfl,by show j < j+1+k;omega,by show j+1+k < j+1+m;omega⟩
theorem gh {n:Nat} {t:Tri} (h:t ∈ aD n):t.1 < t.2.1/\t.2.1 < t.2.2/\t.2.2 < n:=by
 obtain ⟨i,hi,h⟩:=Bz.mp h
 obtain ⟨j,hj,h⟩:=Bz.mp h
 rw [List.mem_range] at hi hj
 obtain ⟨h1,h2,h3,h4⟩:=vD h
 exact ⟨by omega,by omega,by omega⟩
theorem rB (n i m:Nat):(jh n i m).length<=m * n:=by
 induction m with
 | zero=>simp [jh]
 | succ m ih=>rw [mz,Bi,lh,Nat.succ_mul];omega
theorem xy (n m:Nat):(l6 n m).length<=m * (n * n):=by
 induction m with
 | zero=>simp [l6]
 | succ m ih =>
  rw [mB,Bi,Nat.succ_mul]
  have:=rB n m (n - (m+1))
  have h2:(n - (m+1)) * n<=n * n:=Nat.mul_le_mul (by omega) (A8 _)
  omega
theorem lj {n m:Nat} (hn:n<=25) (hm:m<=25):(l6 n m).length<=15625:=by
 have h1:=xy n m
 have h2:n * n<=25 * 25:=Nat.mul_le_mul hn hn
 have h3:m * (n * n)<=25 * (25 * 25):=Nat.mul_le_mul hm h2
 omega
theorem qm {n i m:Nat} (hn:n<=25) (hm:m<=25):(jh n i m).length<=625:=by
 have h1:=rB n i m
 have h2:m * n<=25 * 25:=Nat.mul_le_mul hm hn
 omega
noncomputable abbrev Td (t:Tri):L3.D:=.tup [.int t.1,.int t.2.1,.int t.2.2]
noncomputable abbrev Shd (ps:List Pt):L3.D:=.tup (ps.map Pd)
theorem bp {im:IM} {bnd:L3.D->Sto->Option Sto} {c:M3 Bool} {elt:EM} {ix:List (Option Nat)} {ρ ρ1 ρ2 τ:Sto} {rs:List R3} {ds out:List L3.D} (h1:im ρ=some (.ok (rs,ds),ρ1)) (h2:cn bnd c elt ds (t5 ix (aS d5 (us ρ1 (pls rs)) ρ1))=some (.ok out,τ)) (h3:ds.length < 16777216) (h4:uncap ix τ (aS d5 (us ρ1 (pls rs)) ρ1)=some ρ2) :
  bP im bnd c elt ix ρ=some (.ok (.val (.lst out) .u),aS gX (us ρ1 (pls rs)) ρ2):=by
 simp [bP,ag,h1,h2,h3,h4]
theorem p7:∀ {ds:List L3.D},(∀ d ∈ ds,d=.bl true)->jb ds=some (List.replicate ds.length true)
 | [],_=>rfl
 | d :: ds,h=>by
  have h1:=h d AR
  subst h1
  have h2:=p7 fun d hd=>h d (AS _ hd)
  simp [jb,h2,List.replicate_succ]
theorem kg {ds:List L3.D} (h:∀ d ∈ ds,d=.bl true):AM (.lst ds)=some (.bl true,.z):=by
 simp [AM,p7 h]
theorem sB {xs:List L3.D} {i:Nat} {d:L3.D} (h:xs[i]?=some d):L2.atI xs (i:Int)=some d:=by
 obtain ⟨h1,h2⟩:=A3.mp h
 simp [L2.atI,ixN,h1,h2]
theorem wB {ps:List Pt} {i:Nat} {p:Pt} (h:ps[i]?=some p):L2.atI (ps.map Pd) (i:Int)=some (Pd p):=sB (by simp [h])
theorem vR {f:List L3.D->Option (List L3.D)} {ms:M3 (List R3)} {ρ ρ1 ρ2:Sto} {rs:List R3} {ds xs:List L3.D} (h1:ms ρ=some (.ok rs,ρ1)) (h2:gJ rs ρ1=some (.ok ds,ρ2)) (h3:f ds=some xs):aT f ms ρ=some (.ok ([],xs),ρ2):=by
 simp [aT,ag,h1,h2,h3,bB]
theorem kP {a b:Int} (ha:-1000<=a/\a<=1000) (hb:-1000<=b/\b<=1000) {n:Nat} (hn:(b - a).toNat=n):ie [.int a,.int b]=some (bx a n):=by
 have lm:gS a=true:=Bd (by omega)
 have lm2:gS b=true:=Bd (by omega)
 show (if (gS a && gS b)=true then some (bx a (b - a).toNat) else none)=_
 rw [lm,lm2,hn]
 exact if_pos rfl
theorem dR {b:Int} (hb:-1000<=b/\b<=1000) {n:Nat} (hn:b.toNat=n):bQ [.int b]=some (bx 0 n):=by
 have lm2:gS b=true:=Bd (by omega)
 show (if (gS b)=true then some (bx 0 b.toNat) else none)=_
 rw [lm2,hn]
 exact if_pos rfl
end Bn
end
section
namespace Bn
open PySem L2 L3
section
variable {α:Type} {ρ ρ1 ρ2 ρ3:Sto} {ma mb mc m:EM} {ms:M3 (List R3)} {ra rb r:R3} {rs:List R3} {da db d:L3.D} {ds:List L3.D} {fl:Fl} {i n np:Nat} {sa sb:SM} {c cc:M3 Bool} {b b2:Bool} {x:Option (Except L3.D Flw × Sto)} {y:Option (Except L3.D R3 × Sto)}
theorem bf {p:L3.D × Fl} (h:(ρ[i]?).join=some p):ac i ρ=some (.ok (.pl i),ρ):=by simp [ac,h]
theorem i_c:mC d ρ=some (.ok (.val d .z),ρ):=rfl
theorem d8 {f:L3.D->L3.D->Option (L3.D × Fl)} (h1:ma ρ=some (.ok ra,ρ1)) (h2:mb ρ1=some (.ok rb,ρ2)) (h3:der ra ρ2=some (.ok da,ρ2)) (h4:der rb ρ2=some (.ok db,ρ2)) (h5:f da db=some (d,fl)):aj f ma mb ρ=some (.ok (.val d fl),ρ2):=by
 simp only [aj,ag,h1,h2,h3,h4,bB,h5,Bm]
theorem yk {f:L3.D->Option (L3.D × Fl)} (h1:ma ρ=some (.ok ra,ρ1)) (h3:der ra ρ1=some (.ok da,ρ1)) (h5:f da=some (d,fl)):mUn f ma ρ=some (.ok (.val d fl),ρ1):=by
 simp only [mUn,ag,h1,h3,bB,h5,Bm]
theorem fQ {f:List L3.D->Option (L3.D × Fl)} (h1:ms ρ=some (.ok rs,ρ1)) (h3:gJ rs ρ1=some (.ok ds,ρ1)) (h5:f ds=some (d,fl)):aG f ms ρ=some (.ok (.val d fl),ρ1):=by
 simp only [aG,ag,h1,h3,bB,h5,Bm]
theorem eE:ah ρ=some (.ok [],ρ):=rfl
theorem bJ (h1:m ρ=some (.ok r,ρ1)) (h2:ms ρ1=some (.ok rs,ρ2)):ab m ms ρ=some (.ok (r :: rs),ρ2):=by
 simp only [ab,ag,h1,h2,bI]
theorem qO {mk:List L3.D->L3.D} {f:Fl} (h1:ms ρ=some (.ok rs,ρ1)) (h2:gives rs ρ1=some (.ok ds,ρ2)) (h3:ds.length<=16777216):ye mk f ms ρ=some (.ok (.val (mk ds) f),ρ2):=by
 simp only [ye,ag,h1,h2,bB,h3,if_true,Bm]
theorem aC {F:Fn} {ps qs:List (L3.D × Fl)} (hF:F ps=some (.ok (d,fl),qs)) (h1:ms ρ=some (.ok rs,ρ1)) (h2:prs (frz (pH rs) ρ1) rs=some ps) (h3:qs.length=ps.length) (h4:back rs ps qs (frz (pH rs) ρ1) = ρ2):aA F ms ρ=some (.ok (.val d fl),ρ2):=by
 simp only [aA,ag,h1,h2,hF,h3,if_true,h4]
theorem mQ {p:L3.D × Fl} (h1:m ρ=some (.ok r,ρ1)) (h2:gP r ρ1=some (.ok p,ρ2)) (h3:i < ρ2.length) (h4:ρ2.set i (some p) = ρ3):aW i m ρ=some (.ok .nx,ρ3):=by
 simp only [aW,ag,h1,h2,h3,if_true,h4]
theorem i_asg {bnd:L3.D->Sto->Option Sto} {p:L3.D × Fl} (h1:m ρ=some (.ok r,ρ1)) (h2:gP r ρ1=some (.ok p,ρ2)) (h3:bnd p.1 ρ2=some ρ3):uM bnd m ρ=some (.ok .nx,ρ3):=by
 simp only [uM,ag,h1,h2,h3,Bm]
theorem vS (h1:m ρ=some (.ok r,ρ1)):ib m ρ=some (.ok .nx,ρ1):=by
 simp only [ib,ag,h1,bI]
noncomputable def retF (np:Nat) (r:R3):SM:=bv np (bI r)
theorem cX (h1:m ρ=some (.ok r,ρ1)) (h2:retF np r ρ1=x):bv np m ρ=x:=by
 rw [<- h2]
 unfold retF
 simp only [bv,ag,h1,bI]
theorem jf (h1:sa ρ=some (.ok (.rt d fl),ρ1)):aK sa sb ρ=some (.ok (.rt d fl),ρ1):=by
 simp only [aK,ag,h1,bI]
theorem lH (h1:m ρ=some (.ok r,ρ1)) (h2:der r ρ1=some (.ok (.bl b),ρ1)):cB m ρ=some (.ok b,ρ1):=by
 simp only [cB,ag,h1,h2,bB,asB,Bm]
theorem dy (h1:c ρ=some (.ok b,ρ1)):gK c ρ=some (.ok (!b),ρ1):=by
 simp only [gK,ag,h1,bI]
theorem jL (h1:c ρ=some (.ok b,ρ1)) (hb:b=true) (h2:sa ρ1=x):sIf c sa sb ρ=x:=by
 subst hb;simp only [sIf,ag,h1,if_true];exact h2
theorem dI (h1:c ρ=some (.ok b,ρ1)) (hb:b=false) (h2:sb ρ1=x):sIf c sa sb ρ=x:=by
 subst hb;simp only [sIf,ag,h1,Bq,if_false];exact h2
theorem gp (h1:c ρ=some (.ok b,ρ1)) (hb:b=false) (h2:cc ρ1=some (.ok b2,ρ2)):cOr c cc ρ=some (.ok b2,ρ2):=by
 subst hb;simp only [cOr,ag,h1,Bq,if_false];exact h2
theorem i_orT (h1:c ρ=some (.ok b,ρ1)) (hb:b=true):cOr c cc ρ=some (.ok true,ρ1):=by
 subst hb;simp only [cOr,ag,h1,if_true];rfl
theorem jK (h1:ma ρ=some (.ok r,ρ1)) (h2:der r ρ1=some (.ok (.bl b),ρ1)) (hb:b=true) (h3:mb ρ1=y):nK ma mb ρ=y:=by
 subst hb;simp only [nK,ag,h1,h2,bB,asB,Bm,if_true];exact h3
theorem Ay (h1:ma ρ=some (.ok r,ρ1)) (h2:der r ρ1=some (.ok (.bl b),ρ1)) (hb:b=true):mOr ma mb ρ=some (.ok (.val (.bl true) .z),ρ1):=by
 subst hb;simp only [mOr,ag,h1,h2,bB,asB,Bm,if_true];rfl
theorem Az (h1:ma ρ=some (.ok r,ρ1)) (h2:der r ρ1=some (.ok (.bl b),ρ1)) (hb:b=false) (h3:mb ρ1=y):mOr ma mb ρ=y:=by
 subst hb;simp only [mOr,ag,h1,h2,bB,asB,Bm,Bq,if_false];exact h3
theorem i_sl {f:L3.D->Option Int->Option Int->Option (L3.D × Fl)} {pl pu:M3 (Option Int)} {lo hi:Option Int} (h1:ma ρ=some (.ok ra,ρ1)) (h2:pl ρ1=some (.ok lo,ρ2)) (h3:pu ρ2=some (.ok hi,ρ3)) (h4:der ra ρ3=some (.ok da,ρ3)) (h5:f da lo hi=some (d,fl)):mSl f ma pl pu ρ=some (.ok (.val d fl),ρ3):=by
 simp only [mSl,ag,h1,h2,h3,h4,bB,h5,Bm]
theorem yn:oX ρ=some (.ok none,ρ):=rfl
theorem ym {k:Int} (h1:m ρ=some (.ok r,ρ1)) (h2:der r ρ1=some (.ok (.int k),ρ1)):eD m ρ=some (.ok (some k),ρ1):=by
 simp only [eD,ag,h1,h2,bB,asI,Bm]
theorem yZ {ok:L3.D->Bool} {f:L3.D->List L3.D->Option (L3.D × L3.D)} {d2 d3 d4:L3.D} (h0:(ρ[i]?).join=some (d,fl)) (hk:ok d=true) (h1:ms ρ=some (.ok rs,ρ1)) (h2:gives rs ρ1=some (.ok ds,ρ2)) (h3:(ρ2[i]?).join=some (d2,.u)) (h4:f d2 ds=some (d3,d4)) (h5:ρ2.set i (some (d3,.u)) = ρ3):nJ ok f i ms ρ=some (.ok (.val d4 .z),ρ3):=by
 simp only [nJ,ag,bf h0,chk,h0,hk,if_true,h1,h2,h3,h4,h5]
theorem i_sub {f:L3.D->List L3.D->Option (L3.D × L3.D)} {d2 d3 d4:L3.D} (h1:mb ρ=some (.ok rb,ρ1)) (h0:(ρ1[i]?).join=some (d,fl)) (h2:ma ρ1=some (.ok ra,ρ2)) (h3:gives [ra,rb] ρ2=some (.ok ds,ρ3)) (h4:(ρ3[i]?).join=some (d2,.u)) (h5:f d2 ds=some (d3,d4)):uL f i ma mb ρ=some (.ok .nx,ρ3.set i (some (d3,.u))):=by
 simp only [uL,ag,h1,bf h0,h2,h3,h4,h5]
theorem bg {mask:List Bool} {ps qs:List (L3.D × Fl)} (h1:ps.length=mask.length) (h0:kA n (List.zipWith tz mask ps) = ρ) (h2:sa ρ=some (.ok (.rt d fl),ρ1)) (h3:iY ρ1 0 (List.zipWith tz mask ps)=some qs):fnM mask n sa ps=some (.ok (d,fl),qs):=by
 subst h0;simp only [fnM,h1,if_true,fn0,h2,h3,Bm]
theorem F_nx {mask:List Bool} {ps qs:List (L3.D × Fl)} (h1:ps.length=mask.length) (h0:kA n (List.zipWith tz mask ps) = ρ) (h2:sa ρ=some (.ok .nx,ρ1)) (h3:iY ρ1 0 (List.zipWith tz mask ps)=some qs):fnM mask n sa ps=some (.ok (.non,.z),qs):=by
 subst h0;simp only [fnM,h1,if_true,fn0,h2,h3,Bm]
theorem jE {i j:Int} (h:-18446744073709551616 < i/\i < 18446744073709551616):gD (.int i) (.int j)=some (.int (i * j),.z):=by
 simp [cV,h]
theorem vC {i j:Int} (h:-18446744073709551616 < j/\j < 18446744073709551616):gD (.int i) (.int j)=some (.int (i * j),.z):=by
 simp [cV,h]
theorem fA {im:IM} {bnd:L3.D->Sto->Option Sto} {o:Except L3.D Flw} (h1:im ρ=some (.ok (rs,ds),ρ1)) (hp:us ρ1 (pls rs)=[]) (h2:dA bnd sb ds ρ1=some (o,ρ2)):ci im bnd sb ρ=some (o,ρ2):=by
 have h4:∀ f ρ,aS f [] ρ = ρ:=fun _ _=>rfl
 simp only [ci,ag,h1,hp,h4,h2,Bm]
theorem qN {im:IM} {bnd:L3.D->Sto->Option Sto} {o:Except L3.D Flw} {is:List Nat} (h1:im ρ=some (.ok (rs,ds),ρ1)) (hp:us ρ1 (pls rs)=is) (h2:dA bnd sb ds (aS d5 is ρ1)=some (o,ρ2)):ci im bnd sb ρ=some (o,aS gX is ρ2):=by
 simp only [ci,ag,h1,hp,h2,Bm]
theorem nQ (h1:m ρ=some (.ok r,ρ1)) (h2:der r ρ1=some (.ok d,ρ1)) (h3:yP d=some ds):cu m ρ=some (.ok ([r],ds),ρ1):=by
 simp only [cu,ag,h1,h2,bB,h3,Bm]
theorem d7 {f:List L3.D->Option (List L3.D)} {xs:List L3.D} (h1:ms ρ=some (.ok rs,ρ1)) (h2:gJ rs ρ1=some (.ok ds,ρ1)) (h3:f ds=some xs):aT f ms ρ=some (.ok ([],xs),ρ1):=vR h1 h2 h3
end
theorem bY {α:Type} {bnd:L3.D->Sto->Option Sto} {c:M3 Bool} {elt:EM} (P:Sto->Prop) (D:α->L3.D) (g:α->Bool) (f:α->L3.D):∀ {xs:List α} {τ:Sto},P τ ->
  (∀ x ∈ xs,∀ τ,P τ->∃ τ1 τ2,bnd (D x) τ=some τ1/\c τ1=some (.ok (g x),τ2)/\(g x=false->P τ2)/\(g x=true->∃ r τ3 p τ4,elt τ2=some (.ok r,τ3)/\gP r τ3=some (.ok p,τ4)/\p.1=f x/\P τ4)) ->
  ∃ τ',cn bnd c elt (xs.map D) τ=some (.ok ((xs.filter g).map f),τ')/\P τ'
 | [],τ,h0,_=>⟨τ,rfl,h0⟩
 | x :: xs,τ,h0,hs=>by
  obtain ⟨τ1,τ2,e1,e2,hf,ht⟩:=hs x AR τ h0
  cases hg:g x with
  | false =>
   obtain ⟨τ',e,hp⟩:=bY P D g f (xs:=xs) (τ:=τ2) (hf hg) fun d hd=>hs d (AS _ hd)
   refine ⟨τ',?_,hp⟩
   rw [Bc]
   unfold cn
   rw [hg] at e2
   simp [e1,ag,e2,e,List.filter_cons,hg]
  | true =>
   obtain ⟨r,τ3,p,τ4,e3,e4,e5,hp4⟩:=ht hg
   obtain ⟨τ',e,hp⟩:=bY P D g f (xs:=xs) (τ:=τ4) hp4 fun d hd=>hs d (AS _ hd)
   refine ⟨τ',?_,hp⟩
   rw [Bc]
   unfold cn
   rw [hg] at e2
   simp [e1,ag,e2,e3,e4,e,List.filter_cons,hg,bI,e5]
section
variable {α:Type} {P:List α->Prop} {us:List α}
theorem bnd0 (h:us.length=0) (f:P []):P us:=by
 cases us with
 | nil=>exact f
 | cons a us=>cases h
theorem AH {n:Nat} (h:us.length=n+1) (f:∀ a r,r.length=n->P (a :: r)):P us:=by
 cases us with
 | nil=>cases h
 | cons a us=>exact f a us (Nat.succ.inj h)
theorem bnd1 (h:us.length=1) (f:∀ a,P [a]):P us:=AH h fun a _ h=>bnd0 (P:=fun r=>P (a :: r)) h (f a)
theorem bnd2 (h:us.length=2) (f:∀ a b,P [a,b]):P us:=AH h fun a _ h=>bnd1 (P:=fun r=>P (a :: r)) h (f a)
theorem bnd3 (h:us.length=3) (f:∀ a b c,P [a,b,c]):P us:=AH h fun a _ h=>bnd2 (P:=fun r=>P (a :: r)) h (f a)
end
theorem hb1 {x:Str} {st:Stmt} {p0:Str} (f:∀ (kV doc pm:Value) (an:Option Addr) (cdv ct a0:Value),bindArgs (PySem.W.fnOf x x (bG st) (bo st) (ak st) .none kV doc pm an cdv ct) ⟨[a0],[]⟩=pure ([p0].zip [a0])) (kV doc pm:Value) (an:Option Addr) (cdv ct:Value) (us:List Value) (hl:us.length=[p0].length):bindArgs (PySem.W.fnOf x x (bG st) (bo st) (ak st) .none kV doc pm an cdv ct) ⟨us,[]⟩=pure ([p0].zip us) :=
 bnd1 (P:=fun us=>bindArgs (PySem.W.fnOf x x (bG st) (bo st) (ak st) .none kV doc pm an cdv ct) ⟨us,[]⟩=pure ([p0].zip us)) hl (f kV doc pm an cdv ct)
theorem hb2 {x:Str} {st:Stmt} {p0 p1:Str} (f:∀ (kV doc pm:Value) (an:Option Addr) (cdv ct a0 a1:Value),bindArgs (PySem.W.fnOf x x (bG st) (bo st) (ak st) .none kV doc pm an cdv ct) ⟨[a0,a1],[]⟩=pure ([p0,p1].zip [a0,a1])) (kV doc pm:Value) (an:Option Addr) (cdv ct:Value) (us:List Value) (hl:us.length=[p0,p1].length):bindArgs (PySem.W.fnOf x x (bG st) (bo st) (ak st) .none kV doc pm an cdv ct) ⟨us,[]⟩=pure ([p0,p1].zip us) :=
 bnd2 (P:=fun us=>bindArgs (PySem.W.fnOf x x (bG st) (bo st) (ak st) .none kV doc pm an cdv ct) ⟨us,[]⟩=pure ([p0,p1].zip us)) hl (f kV doc pm an cdv ct)
theorem hb3 {x:Str} {st:Stmt} {p0 p1 p2:Str} (f:∀ (kV doc pm:Value) (an:Option Addr) (cdv ct a0 a1 a2:Value),bindArgs (PySem.W.fnOf x x (bG st) (bo st) (ak st) .none kV doc pm an cdv ct) ⟨[a0,a1,a2],[]⟩=pure ([p0,p1,p2].zip [a0,a1,a2])) (kV doc pm:Value) (an:Option Addr) (cdv ct:Value) (us:List Value) (hl:us.length=[p0,p1,p2].length):bindArgs (PySem.W.fnOf x x (bG st) (bo st) (ak st) .none kV doc pm an cdv ct) ⟨us,[]⟩=pure ([p0,p1,p2].zip us) :=
 bnd3 (P:=fun us=>bindArgs (PySem.W.fnOf x x (bG st) (bo st) (ak st) .none kV doc pm an cdv ct) ⟨us,[]⟩=pure ([p0,p1,p2].zip us)) hl (f kV doc pm an cdv ct)
end Bn
end
section
namespace Bn
open PySem L2 L3
local macro_rules | `(tactic| infer_instance)=>`(tactic| first | with_reducible apply bf | with_reducible exact i_c | with_reducible apply d8 | with_reducible apply yk | with_reducible apply fQ | with_reducible exact eE | with_reducible apply bJ | with_reducible apply qO | with_reducible apply mQ | with_reducible apply i_asg | with_reducible apply vS | with_reducible apply cX | with_reducible exact i_nilS | with_reducible apply lH | with_reducible apply dy | with_reducible apply i_mNot | with_reducible apply i_sl | with_reducible exact yn | with_reducible apply ym | with_reducible apply yZ | with_reducible apply i_sub | with_reducible apply nQ | with_reducible apply d7 | with_reducible apply jK | with_reducible apply gp)
local macro_rules | `(tactic| eq_refl)=>`(tactic| first | exact rfl | exact Nat.le_of_ble_eq_true rfl)
section
variable {X:Cx} {G0:Gm} {W0:L3.D->Sto->Prop} {pos:Pos}
theorem rvl (i:Nat) {x:Str} (hN:X.N[i]?=some x:=by exact rfl) (hv:Vis X.env.scope x:=by exact Or.inl rfl) (hd:(x == ("__debug__":Str))=false:=by decide) (hc:(x == ("__classdict__":Str))=false:=by decide):RE X G0 W0 (.Name x pos) (ac i):=uU i hN hv hd hc
theorem rvc (i:Nat) {x:Str} (hN:X.N[i]?=some x:=by exact rfl) (hv:Vis X.env.scope x:=by exact Or.inr (Or.inl rfl)) (hd:(x == ("__debug__":Str))=false:=by decide) (hc:(x == ("__classdict__":Str))=false:=by decide):RE X G0 W0 (.Name x pos) (ac i):=uU i hN hv hd hc
end
section
variable {P:Program} {w:World} {K:FG} {mg:Str->Option Value} {base:Heap}
noncomputable def qH:SM:=(bv 1 (nK (mUn (j0 "int") (ac 0)) (yg (mUn (j0 "bool") (ac 0)))))
noncomputable def cz:Fn:=fnM [false] 1 qH
theorem oK:FnScope ["thing"] ["thing"] (ak gw):=⟨rfl,rfl,rfl,by decide +kernel,rfl,by decide +kernel,by decide +kernel⟩
theorem og (B:Bl mg) (D:Def K mg "is_whole" gw):aP P w K mg base "is_whole" 1 ["thing"] cz :=
 ba (k:=0) D oK rfl rfl (hb1 fun _ _ _ _ _ _ _=>rfl) fun cdv A outer s H E f G hr hp =>
  (am (aL 1 (fun i hi=>by rw [hp];exact aE (by simpa using hi)) (lq (gA jO rfl B.isinstance (eK (v:=V.ty "int") rfl B.int wz rfl (by decide) (by decide)) (rvl 0) rfl rfl rfl) (jU (uW (gA f9 rfl B.isinstance (eK (v:=V.ty "bool") rfl B.bool re rfl (by decide) (by decide)) (rvl 0) rfl rfl rfl))))))
noncomputable def qI:SM:=(bv 2 (nK (aA cz (ab (ac 0) ah)) (jn leI ltI (mC (.int 0)) (ac 0) (ac 1))))
noncomputable def gO:Fn:=fnM [false,false] 2 qI
theorem oM:FnScope ["thing","many"] ["thing","many"] (ak gx):=⟨rfl,rfl,rfl,by decide +kernel,rfl,by decide +kernel,by decide +kernel⟩
theorem oh (B:Bl mg) (D:Def K mg "is_place" gx) (C_is_whole:aP P w K mg base "is_whole" 1 ["thing"] cz):aP P w K mg base "is_place" 2 ["thing","many"] gO :=
 ba (k:=1) D oM rfl rfl (hb2 fun _ _ _ _ _ _ _ _=>rfl) fun cdv A outer s H E f G hr hp =>
  (am (aL 2 (fun i hi=>by rw [hp];exact aE (by simpa using hi)) (lq (av C_is_whole (hr.mono (by decide)) (aa (rvl 0) ae rfl) rfl (by decide) rfl rfl) (jU (uX oY rM kn lx af (rvl 0) (rvl 1) (fun h1 h2 h3=>vo oY kn h1 h2 h3))))))
noncomputable def b8:EM:=(aA gO (ab (ac 0) (ab (ac 1) ah)))
noncomputable def dq:EM:=(bP (cu (ac 0)) (ao 0) dD b8 [none,some 1])
noncomputable def du:EM:=(aj ltI (aj aw (ac 1) (ac 0)) (aj aw (ac 1) (aj bC (ac 0) (mC (.int 1)))))
noncomputable def dn:EM:=(bP (aT bQ (ab (aj jv (aG d6 (ab (ac 0) ah)) (mC (.int 1))) ah)) (ao 0) dD du [none,some 0])
noncomputable def iW:SM:=(aK (sIf (cOr (gK (cB (mUn (j0 "tuple") (ac 0)))) (gK (cB (aG lU (ab dq ah))))) (bv 2 (mC (.bl false))) fF) (bv 2 (aG lU (ab dn ah))))
noncomputable def bS:Fn:=fnM [false,false] 2 iW
theorem hU:FnScope ["thing","many"] ["thing","many"] (ak bR):=⟨rfl,rfl,rfl,by decide +kernel,rfl,by decide +kernel,by decide +kernel⟩
theorem gV (B:Bl mg) (D:Def K mg "are_rising_places" bR) (C_is_place:aP P w K mg base "is_place" 2 ["thing","many"] gO):aP P w K mg base "are_rising_places" 3 ["thing","many"] bS :=
 ba (k:=2) D hU rfl rfl (hb2 fun _ _ _ _ _ _ _ _=>rfl) fun cdv A outer s H E f G hr hp =>
  (ai (dG (oP (iZ (cQ (cP (gA dC rfl B.isinstance (eK (v:=V.ty "tuple") rfl B.tuple eR rfl (by decide) (by decide)) (rvc 0) rfl rfl rfl) (fun _=>rfl))) (ic (cQ (cP (aJ (ee rfl) iJ rfl B.all kC (aa (bF ["place","many"] [none,some 1] rfl (cR (rvc 0)) (fun s H C fp=>bU) (fun s H C fp=>(av C_is_place (hr.mono (by decide)) (aa (rvl 0) (aa (rvc 1) ae rfl) rfl) rfl (by decide) rfl rfl)) (by rfl) (b9 (by decide)) (fun _=>rfl) ⟨_,aU rfl,fun s H C fp=>bj (i:=0) (show (["place","many"]:List Str).Nodup by decide +kernel) rfl (Or.inl rfl) (Or.inr rfl)⟩) ae rfl) (by decide) (by decide) rfl rfl) (fun _=>rfl)))))) (am (aL 2 (fun i hi=>by rw [hp];exact aE (by simpa using hi)) c8)) bE) (am (aL 2 (fun i hi=>by rw [hp];exact aE (by simpa using hi)) (aJ (ee rfl) iJ rfl B.all kC (aa (bF ["at","thing"] [none,some 0] rfl (b5 rfl B.range (aa (au dM cC (aJ aH cv rfl B.len eg (aa (rvc 0) ae rfl) (by decide) (by decide) rfl rfl) af) ae rfl) rfl) (fun s H C fp=>bU) (fun s H C fp=>(ji kn lx (aM (aB hr.hu) ay (rvc 1) (rvl 0) (fun _ _=>rfl)) (aM (aB hr.hu) ay (rvc 1) (au aI aR (rvl 0) af) (fun _ _=>rfl)) (bb _))) (by rfl) (b9 (by decide)) (fun _=>rfl) ⟨_,aU rfl,fun s H C fp=>bj (i:=0) (show (["at","thing"]:List Str).Nodup by decide +kernel) rfl (Or.inl rfl) (Or.inr rfl)⟩) ae rfl) (by decide) (by decide) rfl rfl))))
noncomputable def lE:SM:=(sIf (cOr (gK (cB (aA cz (ab (ac 0) ah)))) (gK (cB (jn leI leI (ac 1) (ac 0) (ac 2))))) qh fF)
noncomputable def dE:Fn:=fnM [false,false,false] 3 lE
theorem kF:FnScope ["thing","least","most"] ["thing","least","most"] (ak cZ):=⟨rfl,rfl,rfl,by decide +kernel,rfl,by decide +kernel,by decide +kernel⟩
theorem j9 (B:Bl mg) (D:Def K mg "check_number" cZ) (C_is_whole:aP P w K mg base "is_whole" 1 ["thing"] cz):aP P w K mg base "check_number" 2 ["thing","least","most"] dE :=
 ba (k:=1) D kF rfl rfl (hb3 fun _ _ _ _ _ _ _ _ _=>rfl) fun cdv A outer s H E f G hr hp =>
  (am (dG (oP (iZ (cQ (cP (av C_is_whole (hr.mono (by decide)) (aa (rvl 0) ae rfl) rfl (by decide) rfl rfl) (fun _=>rfl))) (ic (cQ (uT oY rM oY rM (rvl 1) (rvl 0) (rvl 2) (by with_unfolding_all rfl)))))) (am oR) bE))
noncomputable def ir:EM:=(bc (ab (ac 1) (ab (ac 2) (ab (ac 0) ah))))
noncomputable def ko:EM:=(bP (aT ie (ab (aj bC (ac 3) (mC (.int 1))) (ab (ac 0) ah))) (ao 0) dD ir [none,some 2,some 3])
noncomputable def iu:SM:=(ib (nJ isL tQ 1 (ab ko ah)))
noncomputable def kr:SM:=(ci (aT ie (ab (aj bC (ac 2) (mC (.int 1))) (ab (ac 0) ah))) (ao 3) iu)
noncomputable def vF:SM:=(aK (aW 1 (cU ah)) (aK (ci (aT bQ (ab (ac 0) ah)) (ao 2) kr) (bv 1 (ac 1))))
noncomputable def eh:Fn:=fnM [false] 4 vF
theorem sc_threes:FnScope ["many","found","i","j"] ["many"] (ak jx):=⟨rfl,rfl,rfl,by decide +kernel,rfl,by decide +kernel,by decide +kernel⟩
theorem qT (B:Bl mg) (D:Def K mg "threes" jx):aP P w K mg base "threes" 1 ["many"] eh :=
 ba (k:=0) D sc_threes rfl rfl (hb1 fun _ _ _ _ _ _ _=>rfl) fun cdv A outer s H E f G hr hp =>
  (ai (aF 1 sc_threes.nd rfl (Or.inl rfl) (bV ae) rfl (Or.inl rfl) (by rw [hp];rfl)) (ai (cp PassesOwn.never rfl (b5 rfl B.range (aa (rvl 0) ae rfl) rfl) (a9 2 sc_threes.nd rfl (Or.inr rfl) (Or.inl rfl) (by rw [hp];rfl)) (am (cp PassesOwn.never rfl (iP rfl B.range (aa (au aI aR (rvc 2) af) (aa (rvl 0) ae rfl) rfl) rfl rfl) (a9 3 sc_threes.nd rfl (Or.inr rfl) (Or.inl rfl) (by rw [hp];rfl)) (am (gz (jC (ok:=isL) PySem.F.plainAttrs_list PySem.F.slot_list_extend PySem.F.type_list_extend mI vE lG (jj (i:=1) rfl (Or.inl rfl) (by decide) (by decide)) (aa (bF ["k","i","j"] [none,some 2,some 3] rfl (iP rfl B.range (aa (au aI aR (rvc 3) af) (aa (rvl 0) ae rfl) rfl) rfl rfl) (fun s H C fp=>bU) (fun s H C fp=>(aQ (aa (rvc 1) (aa (rvc 2) (aa (rvl 0) ae rfl) rfl) rfl))) (by rfl) (b9 (by decide)) (fun _=>rfl) ⟨_,aU rfl,fun s H C fp=>bj (i:=0) (show (["k","i","j"]:List Str).Nodup by decide +kernel) rfl (Or.inl rfl) (Or.inr rfl)⟩) ae rfl) rfl rfl rfl rfl rfl) rfl)) (fun _=>rfl))) (fun _=>rfl)) (am (aL 1 (fun i hi=>by rw [hp];exact aE (by simpa using hi)) (rvl 1)))))
noncomputable def jm:EM:=(aj bC (ac 1) (bc (ab (ac 0) ah)))
noncomputable def lD:EM:=(bP (aT ie (ab (aj bC (aj aw (ac 2) (mC (.int 2))) (mC (.int 1))) (ab (ac 0) ah))) (ao 0) dD jm [none,some 2])
noncomputable def gH:SM:=(ib (nJ isL tQ 1 (ab lD ah)))
noncomputable def x6:SM:=(aK (aW 1 (cU ah)) (aK (ci (cu (aA eh (ab (ac 0) ah))) (ao 2) gH) (bv 1 (ac 1))))
noncomputable def kY:Fn:=fnM [false] 3 x6
theorem sc_fours:FnScope ["many","found","three"] ["many"] (ak kO):=⟨rfl,rfl,rfl,by decide +kernel,rfl,by decide +kernel,by decide +kernel⟩
theorem ue (B:Bl mg) (D:Def K mg "fours" kO) (C_threes:aP P w K mg base "threes" 1 ["many"] eh):aP P w K mg base "fours" 2 ["many"] kY :=
 ba (k:=1) D sc_fours rfl rfl (hb1 fun _ _ _ _ _ _ _=>rfl) fun cdv A outer s H E f G hr hp =>
  (ai (aF 1 sc_fours.nd rfl (Or.inl rfl) (bV ae) rfl (Or.inl rfl) (by rw [hp];rfl)) (ai (cp PassesOwn.never rfl (cR (av C_threes (hr.mono (by decide)) (aa (rvl 0) ae rfl) rfl (by decide) rfl rfl)) (a9 2 sc_fours.nd rfl (Or.inr rfl) (Or.inl rfl) (by rw [hp];rfl)) (am (gz (jC (ok:=isL) PySem.F.plainAttrs_list PySem.F.slot_list_extend PySem.F.type_list_extend mI vE lG (jj (i:=1) rfl (Or.inl rfl) (by decide) (by decide)) (aa (bF ["last","three"] [none,some 2] rfl (iP rfl B.range (aa (au aI aR (aM (aB hr.hu) ay (rvc 2) af (fun _ _=>rfl)) af) (aa (rvl 0) ae rfl) rfl) rfl rfl) (fun s H C fp=>bU) (fun s H C fp=>(au aI aR (rvc 1) (aQ (aa (rvl 0) ae rfl)))) (by rfl) (b9 (by decide)) (fun _=>rfl) ⟨_,aU rfl,fun s H C fp=>bj (i:=0) (show (["last","three"]:List Str).Nodup by decide +kernel) rfl (Or.inl rfl) (Or.inr rfl)⟩) ae rfl) rfl rfl rfl rfl rfl) rfl)) (fun _=>rfl)) (am (aL 1 (fun i hi=>by rw [hp];exact aE (by simpa using hi)) (rvl 1)))))
noncomputable def fg:EM:=(aj eqX (aj aw (ac 2) (mSl slD (ac 3) (eD (ac 0)) (eD (aj bC (ac 0) (mC (.int 3)))))) (ac 1))
noncomputable def iw:EM:=(bP (aT bQ (ab (aj jv (aG d6 (ab (ac 1) ah)) (mC (.int 2))) ah)) (ao 0) dD fg [none,some 2,some 0,some 1])
noncomputable def pj:SM:=(bv 3 (aG lU (ab iw ah)))
noncomputable def fR:Fn:=fnM [false,false,false] 3 pj
theorem ni:FnScope ["turns","row","way"] ["turns","row","way"] (ak fH):=⟨rfl,rfl,rfl,by decide +kernel,rfl,by decide +kernel,by decide +kernel⟩
theorem l8 (B:Bl mg) (D:Def K mg "row_bends" fH):aP P w K mg base "row_bends" 1 ["turns","row","way"] fR :=
 ba (k:=0) D ni rfl rfl (hb3 fun _ _ _ _ _ _ _ _ _=>rfl) fun cdv A outer s H E f G hr hp =>
  (am (aL 3 (fun i hi=>by rw [hp];exact aE (by simpa using hi)) (aJ (ee rfl) iJ rfl B.all kC (aa (bF ["at","way","turns","row"] [none,some 2,some 0,some 1] rfl (b5 rfl B.range (aa (au dM cC (aJ aH cv rfl B.len eg (aa (rvc 1) ae rfl) (by decide) (by decide) rfl rfl) af) ae rfl) rfl) (fun s H C fp=>bU) (fun s H C fp=>(ji (fT hr.units) fU (aM (aB hr.hu) ay (rvc 2) (ff (rvc 3) (c7 (rvl 0)) (c7 (au aI aR (rvl 0) af))) (fun _ _=>rfl)) (rvc 1) (bb _))) (by rfl) (b9 (by decide)) (fun _=>rfl) ⟨_,aU rfl,fun s H C fp=>bj (i:=0) (show (["at","way","turns","row"]:List Str).Nodup by decide +kernel) rfl (Or.inl rfl) (Or.inr rfl)⟩) ae rfl) (by decide) (by decide) rfl rfl)))
noncomputable def dS:M3 Bool:=(cB (aj eqX (aj aw (ac 2) (bc (ab (ac 3) (ab (ac 0) (ab (ac 4) ah))))) (ac 1)))
noncomputable def fV:EM:=(ac 0)
noncomputable def i5:EM:=(bP (cu (mSl slD (ac 1) (eD (mC (.int 1))) (eD (mUn jD (mC (.int 1)))))) (ao 0) dS fV [none,some 2,some 0,some 3,some 4])
noncomputable def lC:SM:=(aK (aW 3 (aj aw (ac 1) (mC (.int 0)))) (aK (aW 4 (aj aw (ac 1) (mUn jD (mC (.int 1))))) (bv 3 (aj bC (aj bC (bc (ab (ac 3) ah)) (aG m9 (ab i5 ah))) (bc (ab (ac 4) ah))))))
noncomputable def gN:Fn:=fnM [false,false,false] 5 lC
theorem sc_side_row:FnScope ["turns","ring","way","first","last"] ["turns","ring","way"] (ak gu):=⟨rfl,rfl,rfl,by decide +kernel,rfl,by decide +kernel,by decide +kernel⟩
theorem n6 (B:Bl mg) (D:Def K mg "side_row" gu):aP P w K mg base "side_row" 1 ["turns","ring","way"] gN :=
 ba (k:=0) D sc_side_row rfl rfl (hb3 fun _ _ _ _ _ _ _ _ _=>rfl) fun cdv A outer s H E f G hr hp =>
  (ai (aF 3 sc_side_row.nd rfl (Or.inr rfl) (aM (aB hr.hu) ay (rvl 1) af (fun _ _=>rfl)) rfl (Or.inl rfl) (by rw [hp];rfl)) (ai (aF 4 sc_side_row.nd rfl (Or.inr rfl) (aM (aB hr.hu) ay (rvl 1) (ik eX eY af) (fun _ _=>rfl)) rfl (Or.inl rfl) (by rw [hp];rfl)) (am (aL 3 (fun i hi=>by rw [hp];exact aE (by simpa using hi)) (au aI aR (au aI aR (aQ (aa (rvc 3) ae rfl)) (dL cH lO rfl B.tuple eR (aa (bF ["place","way","turns","first","last"] [none,some 2,some 0,some 3,some 4] rfl (cR (ff (rvl 1) (c7 af) (c7 (ik eX eY af)))) (fun s H C fp=>(gc (bO (fT hr.units) fU (aM (aB hr.hu) ay (rvc 2) (aQ (aa (rvc 3) (aa (rvl 0) (aa (rvc 4) ae rfl) rfl) rfl)) (fun _ _=>rfl)) (rvc 1) (bb _)))) (fun s H C fp=>(rvl 0)) (by rfl) (b9 (by decide)) (fun _=>rfl) ⟨_,aU rfl,fun s H C fp=>bj (i:=0) (show (["place","way","turns","first","last"]:List Str).Nodup by decide +kernel) rfl (Or.inl rfl) (Or.inr rfl)⟩) ae rfl) (by decide) (by decide) rfl rfl)) (aQ (aa (rvc 4) ae rfl)))))))
noncomputable def cM:EM:=(aA fR (ab (ac 1) (ab (aA gN (ab (ac 1) (ab (ac 2) (ab (ac 0) ah)))) (ab (ac 0) ah))))
noncomputable def gR:EM:=(bP (cu (bc (ab (mC (.int (1))) (ab (mC (.int (-1))) ah)))) (ao 0) dD cM [none,some 0,some 1])
noncomputable def jH:SM:=(aK (sIf (cOr (gK (cB (aA bS (ab (ac 1) (ab (ac 2) ah))))) (cB (aj ltI (aG d6 (ab (ac 1) ah)) (mC (.int (3)))))) (bv 3 (mC (.bl false))) fF) (bv 3 (aG lU (ab gR ah))))
noncomputable def bN:Fn:=fnM [false,false,false] 3 jH
theorem l5:FnScope ["turns","thing","many"] ["turns","thing","many"] (ak eJ):=⟨rfl,rfl,rfl,by decide +kernel,rfl,by decide +kernel,by decide +kernel⟩
theorem lQ (B:Bl mg) (D:Def K mg "is_ring_by" eJ) (C_are_rising_places:aP P w K mg base "are_rising_places" 3 ["thing","many"] bS) (C_row_bends:aP P w K mg base "row_bends" 1 ["turns","row","way"] fR) (C_side_row:aP P w K mg base "side_row" 1 ["turns","ring","way"] gN) {tk_DOWN:Tok} (Q_DOWN:mg "DOWN"=some (.int (-1) tk_DOWN)) {tk_LEAST_CORNERS:Tok} (Q_LEAST_CORNERS:mg "LEAST_CORNERS"=some (.int (3) tk_LEAST_CORNERS)) {tk_UP:Tok} (Q_UP:mg "UP"=some (.int (1) tk_UP)):aP P w K mg base "is_ring_by" 4 ["turns","thing","many"] bN :=
 ba (k:=3) D l5 rfl rfl (hb3 fun _ _ _ _ _ _ _ _ _=>rfl) fun cdv A outer s H E f G hr hp =>
  (ai (dG (oP (iZ (cQ (cP (av C_are_rising_places (hr.mono (by decide)) (aa (rvc 1) (aa (rvl 2) ae rfl) rfl) rfl (by decide) rfl rfl) (fun _=>rfl))) (ic (bO kn lx (aJ aH cv rfl B.len eg (aa (rvc 1) ae rfl) (by decide) (by decide) rfl rfl) (gf rfl Q_LEAST_CORNERS (by decide)) (bb _))))) (am (aL 3 (fun i hi=>by rw [hp];exact aE (by simpa using hi)) c8)) bE) (am (aL 3 (fun i hi=>by rw [hp];exact aE (by simpa using hi)) (aJ (ee rfl) iJ rfl B.all kC (aa (bF ["way","turns","thing"] [none,some 0,some 1] rfl (cR (aQ (aa (gf rfl Q_UP (by decide)) (aa (gf rfl Q_DOWN (by decide)) ae rfl) rfl))) (fun s H C fp=>bU) (fun s H C fp=>(av C_row_bends (hr.mono (by decide)) (aa (rvc 1) (aa (av C_side_row (hr.mono (by decide)) (aa (rvc 1) (aa (rvc 2) (aa (rvl 0) ae rfl) rfl) rfl) rfl (by decide) rfl rfl) (aa (rvl 0) ae rfl) rfl) rfl) rfl (by decide) rfl rfl)) (by rfl) (b9 (by decide)) (fun _=>rfl) ⟨_,aU rfl,fun s H C fp=>bj (i:=0) (show (["way","turns","thing"]:List Str).Nodup by decide +kernel) rfl (Or.inl rfl) (Or.inr rfl)⟩) ae rfl) (by decide) (by decide) rfl rfl))))
noncomputable def tv:SM:=(bv 1 (nK (aA cz (ab (ac 0) ah)) (mOr (aj eqX (ac 0) (mC (.int (1)))) (aj eqX (ac 0) (mC (.int (-1)))))))
noncomputable def iU:Fn:=fnM [false] 1 tv
theorem qg:FnScope ["thing"] ["thing"] (ak iO):=⟨rfl,rfl,rfl,by decide +kernel,rfl,by decide +kernel,by decide +kernel⟩
theorem pU (B:Bl mg) (D:Def K mg "is_sign" iO) (C_is_whole:aP P w K mg base "is_whole" 1 ["thing"] cz) {tk_DOWN:Tok} (Q_DOWN:mg "DOWN"=some (.int (-1) tk_DOWN)) {tk_UP:Tok} (Q_UP:mg "UP"=some (.int (1) tk_UP)):aP P w K mg base "is_sign" 2 ["thing"] iU :=
 ba (k:=1) D qg rfl rfl (hb1 fun _ _ _ _ _ _ _=>rfl) fun cdv A outer s H E f G hr hp =>
  (am (aL 1 (fun i hi=>by rw [hp];exact aE (by simpa using hi)) (lq (av C_is_whole (hr.mono (by decide)) (aa (rvl 0) ae rfl) rfl (by decide) rfl rfl) (jU (re_or (ji (fT hr.units) fU (rvl 0) (gf rfl Q_UP (by decide)) (bb _)) (jU (ji (fT hr.units) fU (rvl 0) (gf rfl Q_DOWN (by decide)) (bb _))))))))
noncomputable def jX:SM:=(bv 2 (pv (ab (aA eh (ab (ac 0) ah)) (ab (ac 1) ah))))
noncomputable def bh:Fn:=fnM [false,false] 2 jX
theorem jw:FnScope ["many","signs"] ["many","signs"] (ak cA):=⟨rfl,rfl,rfl,by decide +kernel,rfl,by decide +kernel,by decide +kernel⟩
theorem jq (B:Bl mg) (D:Def K mg "turns_by_signs" cA) (C_threes:aP P w K mg base "threes" 1 ["many"] eh):aP P w K mg base "turns_by_signs" 2 ["many","signs"] bh :=
 ba (k:=1) D jw rfl rfl (hb2 fun _ _ _ _ _ _ _ _=>rfl) fun cdv A outer s H E f G hr hp =>
  (am (aL 2 (fun i hi=>by rw [hp];exact aE (by simpa using hi)) (nz rfl hr.units rfl B.dict rfl B.zip (aa (av C_threes (hr.mono (by decide)) (aa (rvl 0) ae rfl) rfl (by decide) rfl rfl) (aa (rvl 1) ae rfl) rfl) rfl rfl rfl)))
noncomputable def aO:M3 Bool:=(cB (aj neX (aj aw (ac 1) (ac 0)) (aj aw (ac 1) (aj bC (ac 0) (mC (.int 1))))))
noncomputable def bm:EM:=(ac 0)
noncomputable def cF:EM:=(bP (aT bQ (ab (mC (.int 3)) ah)) (ao 0) aO bm [none,some 6])
noncomputable def dH:SM:=(aK (aW 2 (aj aw (ac 1) (mC (.int 0)))) (aK (aW 3 (aj aw (ac 1) (mC (.int 1)))) (aK (aW 4 (aj aw (ac 1) (mC (.int 2)))) (aK (aW 5 (aj aw (ac 1) (mC (.int 3)))) (aK (aW 6 (cU (ab (aj aw (ac 0) (bc (ab (ac 2) (ab (ac 3) (ab (ac 4) ah))))) (ab (aj aw (ac 0) (bc (ab (ac 2) (ab (ac 3) (ab (ac 5) ah))))) (ab (aj aw (ac 0) (bc (ab (ac 2) (ab (ac 4) (ab (ac 5) ah))))) (ab (aj aw (ac 0) (bc (ab (ac 3) (ab (ac 4) (ab (ac 5) ah))))) ah)))))) (bv 2 (aj leI (aG d6 (ab cF ah)) (mC (.int 1)))))))))
noncomputable def bH:Fn:=fnM [false,false] 7 dH
theorem sc_change_once_at_most:FnScope ["turns","four","h","i","j","k","row"] ["turns","four"] (ak bD):=⟨rfl,rfl,rfl,by decide +kernel,rfl,by decide +kernel,by decide +kernel⟩
theorem gq (B:Bl mg) (D:Def K mg "change_once_at_most" bD):aP P w K mg base "change_once_at_most" 1 ["turns","four"] bH :=
 ba (k:=0) D sc_change_once_at_most rfl rfl (hb2 fun _ _ _ _ _ _ _ _=>rfl) fun cdv A outer s H E f G hr hp =>
  (ai (aF 2 sc_change_once_at_most.nd rfl (Or.inl rfl) (aM (aB hr.hu) ay (rvl 1) af (fun _ _=>rfl)) rfl (Or.inl rfl) (by rw [hp];rfl)) (ai (aF 3 sc_change_once_at_most.nd rfl (Or.inl rfl) (aM (aB hr.hu) ay (rvl 1) af (fun _ _=>rfl)) rfl (Or.inl rfl) (by rw [hp];rfl)) (ai (aF 4 sc_change_once_at_most.nd rfl (Or.inl rfl) (aM (aB hr.hu) ay (rvl 1) af (fun _ _=>rfl)) rfl (Or.inl rfl) (by rw [hp];rfl)) (ai (aF 5 sc_change_once_at_most.nd rfl (Or.inl rfl) (aM (aB hr.hu) ay (rvl 1) af (fun _ _=>rfl)) rfl (Or.inl rfl) (by rw [hp];rfl)) (ai (aF 6 sc_change_once_at_most.nd rfl (Or.inr rfl) (bV (aa (aM (aB hr.hu) ay (rvl 0) (aQ (aa (rvl 2) (aa (rvl 3) (aa (rvl 4) ae rfl) rfl) rfl)) (fun _ _=>rfl)) (aa (aM (aB hr.hu) ay (rvl 0) (aQ (aa (rvl 2) (aa (rvl 3) (aa (rvl 5) ae rfl) rfl) rfl)) (fun _ _=>rfl)) (aa (aM (aB hr.hu) ay (rvl 0) (aQ (aa (rvl 2) (aa (rvl 4) (aa (rvl 5) ae rfl) rfl) rfl)) (fun _ _=>rfl)) (aa (aM (aB hr.hu) ay (rvl 0) (aQ (aa (rvl 3) (aa (rvl 4) (aa (rvl 5) ae rfl) rfl) rfl)) (fun _ _=>rfl)) ae rfl) rfl) rfl) rfl)) rfl (Or.inl rfl) (by rw [hp];rfl)) (am (aL 2 (fun i hi=>by rw [hp];exact aE (by simpa using hi)) (ji oY rM (aJ aH cv rfl B.len eg (aa (bF ["at","row"] [none,some 6] rfl (b5 rfl B.range (aa af ae rfl) rfl) (fun s H C fp=>(gc (bO (il hr.units) io (aM (aB hr.hu) ay (rvc 1) (rvl 0) (fun _ _=>rfl)) (aM (aB hr.hu) ay (rvc 1) (au aI aR (rvl 0) af) (fun _ _=>rfl)) (bb _)))) (fun s H C fp=>(rvl 0)) (by rfl) (b9 (by decide)) (fun _=>rfl) ⟨_,aU rfl,fun s H C fp=>bj (i:=0) (show (["at","row"]:List Str).Nodup by decide +kernel) rfl (Or.inl rfl) (Or.inr rfl)⟩) ae rfl) (by decide) (by decide) rfl rfl) af (bb _)))))))))
noncomputable def dm:EM:=(aA iU (ab (ac 0) ah))
noncomputable def fO:EM:=(bP (cu (ac 1)) (ao 0) dD dm [none])
noncomputable def dl:EM:=(aA bH (ab (ac 1) (ab (ac 0) ah)))
noncomputable def fN:EM:=(bP (cu (aA kY (ab (ac 0) ah))) (ao 0) dD dl [none,some 2])
noncomputable def iE:SM:=(aK (sIf (cOr (gK (cB (mUn (j0 "tuple") (ac 1)))) (gK (cB (aG lU (ab fO ah))))) (bv 2 (mC (.bl false))) fF) (aK (sIf (cB (aj neX (aG d6 (ab (ac 1) ah)) (aG d6 (ab (aA eh (ab (ac 0) ah)) ah)))) (bv 2 (mC (.bl false))) fF) (aK (aW 2 (aA bh (ab (ac 0) (ab (ac 1) ah)))) (bv 2 (aG lU (ab fN ah))))))
noncomputable def dF:Fn:=fnM [false,false] 3 iE
theorem sc_are_signs_of:FnScope ["many","thing","turns"] ["many","thing"] (ak c6):=⟨rfl,rfl,rfl,by decide +kernel,rfl,by decide +kernel,by decide +kernel⟩
theorem kb (B:Bl mg) (D:Def K mg "are_signs_of" c6) (C_change_once_at_most:aP P w K mg base "change_once_at_most" 1 ["turns","four"] bH) (C_fours:aP P w K mg base "fours" 2 ["many"] kY) (C_is_sign:aP P w K mg base "is_sign" 2 ["thing"] iU) (C_threes:aP P w K mg base "threes" 1 ["many"] eh) (C_turns_by_signs:aP P w K mg base "turns_by_signs" 2 ["many","signs"] bh):aP P w K mg base "are_signs_of" 3 ["many","thing"] dF :=
 ba (k:=2) D sc_are_signs_of rfl rfl (hb2 fun _ _ _ _ _ _ _ _=>rfl) fun cdv A outer s H E f G hr hp =>
  (ai (dG (oP (iZ (cQ (cP (gA dC rfl B.isinstance (eK (v:=V.ty "tuple") rfl B.tuple eR rfl (by decide) (by decide)) (rvl 1) rfl rfl rfl) (fun _=>rfl))) (ic (cQ (cP (aJ (ee rfl) iJ rfl B.all kC (aa (bF ["sign"] [none] rfl (cR (rvl 1)) (fun s H C fp=>bU) (fun s H C fp=>(av C_is_sign (hr.mono (by decide)) (aa (rvl 0) ae rfl) rfl (by decide) rfl rfl)) (by rfl) (b9 (by decide)) (fun _=>rfl) ⟨_,aU rfl,fun s H C fp=>bj (i:=0) (show (["sign"]:List Str).Nodup by decide +kernel) rfl (Or.inl rfl) (Or.inr rfl)⟩) ae rfl) (by decide) (by decide) rfl rfl) (fun _=>rfl)))))) (am (aL 2 (fun i hi=>by rw [hp];exact aE (by simpa using hi)) c8)) bE) (ai (dG (bO (il hr.units) io (aJ aH cv rfl B.len eg (aa (rvl 1) ae rfl) (by decide) (by decide) rfl rfl) (aJ aH cv rfl B.len eg (aa (av C_threes (hr.mono (by decide)) (aa (rvl 0) ae rfl) rfl (by decide) rfl rfl) ae rfl) (by decide) (by decide) rfl rfl) (bb _)) (am (aL 2 (fun i hi=>by rw [hp];exact aE (by simpa using hi)) c8)) bE) (ai (aF 2 sc_are_signs_of.nd rfl (Or.inr rfl) (av C_turns_by_signs (hr.mono (by decide)) (aa (rvl 0) (aa (rvl 1) ae rfl) rfl) rfl (by decide) rfl rfl) rfl (Or.inl rfl) (by rw [hp];rfl)) (am (aL 2 (fun i hi=>by rw [hp];exact aE (by simpa using hi)) (aJ (ee rfl) iJ rfl B.all kC (aa (bF ["four","turns"] [none,some 2] rfl (cR (av C_fours (hr.mono (by decide)) (aa (rvl 0) ae rfl) rfl (by decide) rfl rfl)) (fun s H C fp=>bU) (fun s H C fp=>(av C_change_once_at_most (hr.mono (by decide)) (aa (rvc 1) (aa (rvl 0) ae rfl) rfl) rfl (by decide) rfl rfl)) (by rfl) (b9 (by decide)) (fun _=>rfl) ⟨_,aU rfl,fun s H C fp=>bj (i:=0) (show (["four","turns"]:List Str).Nodup by decide +kernel) rfl (Or.inl rfl) (Or.inr rfl)⟩) ae rfl) (by decide) (by decide) rfl rfl))))))
noncomputable def i8:SM:=(aK (ib (aA dE (ab (ac 0) (ab (mC (.int 1)) (ab (ac 1) ah))))) (sIf (gK (cB (aA dF (ab (ac 0) (ab (ac 2) ah))))) qh fF))
noncomputable def dW:Fn:=fnM [false,false,false] 3 i8
theorem lc:FnScope ["many","most","signs"] ["many","most","signs"] (ak dQ):=⟨rfl,rfl,rfl,by decide +kernel,rfl,by decide +kernel,by decide +kernel⟩
theorem kK (B:Bl mg) (D:Def K mg "check_signs" dQ) (C_are_signs_of:aP P w K mg base "are_signs_of" 3 ["many","thing"] dF) (C_check_number:aP P w K mg base "check_number" 2 ["thing","least","most"] dE):aP P w K mg base "check_signs" 4 ["many","most","signs"] dW :=
 ba (k:=3) D lc rfl rfl (hb3 fun _ _ _ _ _ _ _ _ _=>rfl) fun cdv A outer s H E f G hr hp =>
  (ai (gz (av C_check_number (hr.mono (by decide)) (aa (rvl 0) (aa af (aa (rvl 1) ae rfl) rfl) rfl) rfl (by decide) rfl rfl) rfl) (am (dG (cQ (cP (av C_are_signs_of (hr.mono (by decide)) (aa (rvl 0) (aa (rvl 2) ae rfl) rfl) rfl (by decide) rfl rfl) (fun _=>rfl))) (am oR) bE)))
noncomputable def ft:SM:=(aK (ib (aA dW (ab (ac 1) (ab (mC (.int (24))) (ab (ac 2) ah))))) (bv 3 (aA bN (ab (aA bh (ab (ac 1) (ab (ac 2) ah))) (ab (ac 0) (ab (ac 1) ah))))))
noncomputable def cb:Fn:=fnM [false,false,false] 3 ft
theorem iV:FnScope ["thing","many","signs"] ["thing","many","signs"] (ak bZ):=⟨rfl,rfl,rfl,by decide +kernel,rfl,by decide +kernel,by decide +kernel⟩
theorem iK (B:Bl mg) (D:Def K mg "is_ring_by_signs" bZ) (C_check_signs:aP P w K mg base "check_signs" 4 ["many","most","signs"] dW) (C_is_ring_by:aP P w K mg base "is_ring_by" 4 ["turns","thing","many"] bN) (C_turns_by_signs:aP P w K mg base "turns_by_signs" 2 ["many","signs"] bh) {tk_MOST_POINTS:Tok} (Q_MOST_POINTS:mg "MOST_POINTS"=some (.int (24) tk_MOST_POINTS)):aP P w K mg base "is_ring_by_signs" 5 ["thing","many","signs"] cb :=
 ba (k:=4) D iV rfl rfl (hb3 fun _ _ _ _ _ _ _ _ _=>rfl) fun cdv A outer s H E f G hr hp =>
  (ai (gz (av C_check_signs (hr.mono (by decide)) (aa (rvl 1) (aa (gf rfl Q_MOST_POINTS (by decide)) (aa (rvl 2) ae rfl) rfl) rfl) rfl (by decide) rfl rfl) rfl) (am (aL 3 (fun i hi=>by rw [hp];exact aE (by simpa using hi)) (av C_is_ring_by (hr.mono (by decide)) (aa (av C_turns_by_signs (hr.mono (by decide)) (aa (rvl 1) (aa (rvl 2) ae rfl) rfl) rfl (by decide) rfl rfl) (aa (rvl 0) (aa (rvl 1) ae rfl) rfl) rfl) rfl (by decide) rfl rfl))))
noncomputable def gG:SM:=(aK (aW 5 (aj pc (aj bC (aj bC (aj gD (aj pc (ac 2) (mC (.int 2147483647))) (mC (.int 48271))) (aj gD (mC (.int 7919)) (ac 4))) (mC (.int 1))) (mC (.int 2147483647)))) (aK (aW 5 (aj pc (aj gD (ac 5) (ac 5)) (mC (.int 2147483629)))) (aW 3 (aj bC (aj gD (ac 3) (mC (.int 2147483647))) (aj pc (aj gD (ac 5) (aj bC (ac 5) (mC (.int 13)))) (mC (.int 2147483647)))))))
noncomputable def x5:SM:=(aK (aW 2 (aj bC (aj gD (mC (.int 7919)) (ac 1)) (mC (.int 13)))) (aK (sIf (cB (aj ltI (ac 1) (aG d6 (ab (ac 0) ah)))) (aW 2 (aj aw (ac 0) (ac 1))) fF) (aK (sIf (cB (aj eqX (aj pc (ac 2) (mC (.int 2))) (mC (.int 0)))) (bv 2 (cU (ab (aj AD (ac 2) (mC (.int 2))) ah))) fF) (aK (aW 3 (mC (.int 0))) (aK (ci (aT bQ (ab (mC (.int 16)) ah)) (ao 4) gG) (bv 2 (cU (ab (ac 3) ah))))))))
noncomputable def kX:Fn:=fnM [false,false] 6 x5
theorem sc_l_box:FnScope ["_law_script","_law_k","_law_here","_law_number","_law_j","_law_part"] ["_law_script","_law_k"] (ak kN):=⟨rfl,rfl,rfl,by decide +kernel,rfl,by decide +kernel,by decide +kernel⟩
theorem uc (B:Bl mg) (D:Def K mg "_law_box" kN):aP P w K mg base "_law_box" 1 ["_law_script","_law_k"] kX :=
 ba (k:=0) D sc_l_box rfl rfl (hb2 fun _ _ _ _ _ _ _ _=>rfl) fun cdv A outer s H E f G hr hp =>
  (ai (aF 2 sc_l_box.nd rfl (Or.inl rfl) (au aI aR (au cS b6 af (rvl 1)) af) rfl (Or.inl rfl) (by rw [hp];rfl)) (ai (dG (bO kn lx (rvl 1) (aJ aH cv rfl B.len eg (aa (rvl 0) ae rfl) (by decide) (by decide) rfl rfl) (bb _)) (am (aF 2 sc_l_box.nd rfl (Or.inl rfl) (aM (aB hr.hu) ay (rvl 0) (rvl 1) (fun _ _=>rfl)) rfl (Or.inl rfl) (by rw [hp];rfl))) bE) (ai (dG (bO (fT hr.units) fU (au jV iQ (rvl 2) af) af (bb _)) (am (aL 2 (fun i hi=>by rw [hp];exact aE (by simpa using hi)) (bV (aa (au vt xR (rvl 2) af) ae rfl)))) bE) (ai (aF 3 sc_l_box.nd rfl (Or.inl rfl) af rfl (Or.inl rfl) (by rw [hp];rfl)) (ai (cp PassesOwn.never rfl (b5 rfl B.range (aa af ae rfl) rfl) (a9 4 sc_l_box.nd rfl (Or.inl rfl) (Or.inl rfl) (by rw [hp];rfl)) (ai (aF 5 sc_l_box.nd rfl (Or.inl rfl) (au jV iQ (au aI aR (au aI aR (au cS b6 (au jV iQ (rvl 2) af) af) (au cS b6 af (rvl 4))) af) af) rfl (Or.inl rfl) (by rw [hp];rfl)) (ai (aF 5 sc_l_box.nd rfl (Or.inl rfl) (au jV iQ (au cS b6 (rvl 5) (rvl 5)) af) rfl (Or.inl rfl) (by rw [hp];rfl)) (am (aF 3 sc_l_box.nd rfl (Or.inl rfl) (au aI aR (au cS b6 (rvl 3) af) (au jV iQ (au cS b6 (rvl 5) (au aI aR (rvl 5) af)) af)) rfl (Or.inl rfl) (by rw [hp];rfl))))) (fun _=>rfl)) (am (aL 2 (fun i hi=>by rw [hp];exact aE (by simpa using hi)) (bV (aa (rvl 3) ae rfl)))))))))
noncomputable def vJ:SM:=(aK (uM (mf 2 (cw (ao 2) (cw (ao 3) mh))) (aG wj (ab (aj aw (ac 0) (mC (.int 0))) (ab (ac 1) ah)))) (aK (uL setD 0 (mC (.int 0)) (ac 2)) (bv 2 (ac 3))))
noncomputable def aV:Fn:=fnM [false,false] 4 vJ
theorem sc_l_take:FnScope ["_law_box_here","_law_many","_law_left","_law_digit"] ["_law_box_here","_law_many"] (ak jy):=⟨rfl,rfl,rfl,by decide +kernel,rfl,by decide +kernel,by decide +kernel⟩
theorem qU (B:Bl mg) (D:Def K mg "_law_take" jy):aP P w K mg base "_law_take" 1 ["_law_box_here","_law_many"] aV :=
 ba (k:=0) D sc_l_take rfl rfl (hb2 fun _ _ _ _ _ _ _ _=>rfl) fun cdv A outer s H E f G hr hp =>
  (ai (zL (qp rfl (dY (a9 2 sc_l_take.nd rfl (Or.inl rfl) (Or.inl rfl) (by rw [hp];rfl)) (dY (a9 3 sc_l_take.nd rfl (Or.inl rfl) (Or.inl rfl) (by rw [hp];rfl)) nw rfl) rfl) rfl rfl) (aJ pP tZ rfl B.divmod wA (aa (aM (aB hr.hu) ay (rvl 0) af (fun _ _=>rfl)) (aa (rvl 1) ae rfl) rfl) (by decide) (by decide) rfl rfl) rfl rfl rfl) (ai (zK (i:=0) (xh hr.hu) Al (jj rfl (Or.inl rfl) (by decide) (by decide)) af (rvl 2) (fun _=>rfl) rfl rfl rfl) (am (aL 2 (fun i hi=>by rw [hp];exact aE (by simpa using hi)) (rvl 3)))))
noncomputable def tq:SM:=(bv 1 (nK (mUn (j0 "int") (ac 0)) (yg (mUn (j0 "bool") (ac 0)))))
noncomputable def eW:Fn:=fnM [false] 1 tq
theorem qf:FnScope ["_law_thing"] ["_law_thing"] (ak iL):=⟨rfl,rfl,rfl,by decide +kernel,rfl,by decide +kernel,by decide +kernel⟩
theorem pQ (B:Bl mg) (D:Def K mg "_law_whole" iL):aP P w K mg base "_law_whole" 1 ["_law_thing"] eW :=
 ba (k:=0) D qf rfl rfl (hb1 fun _ _ _ _ _ _ _=>rfl) fun cdv A outer s H E f G hr hp =>
  (am (aL 1 (fun i hi=>by rw [hp];exact aE (by simpa using hi)) (lq (gA jO rfl B.isinstance (eK (v:=V.ty "int") rfl B.int wz rfl (by decide) (by decide)) (rvl 0) rfl rfl rfl) (jU (uW (gA f9 rfl B.isinstance (eK (v:=V.ty "bool") rfl B.bool re rfl (by decide) (by decide)) (rvl 0) rfl rfl rfl))))))
noncomputable def rP:SM:=(aK (aW 1 (cU (ab (mC .non) (ab (mC (.bl true)) (ab (mC (.bl false)) (ab (mC (.int 9)) (ab (mUn jD (mC (.int 1))) (ab (mC (.str "1")) (ab (mC (.str "")) (ab (bc (ab (mC (.int 1)) ah)) (ab (cU (ab (mC (.int 1)) ah)) (ab (Am (.inr "a") 1) (ab (bc ah) (ab (aj qu (mC (.int 10)) (mC (.int 29))) (ab (bc (ab (mC (.int 1)) (ab (mC (.int 2)) ah))) (ab (bc (ab (bc (ab (mC (.int 0)) (ab (mC (.int 0)) ah))) ah)) (ab (cU (ab (bc ah) ah)) (ab (mC (.int 0)) ah)))))))))))))))))) (bv 1 (aj aw (ac 1) (aA aV (ab (ac 0) (ab (mC (.int 16)) ah))))))
noncomputable def kW:Fn:=fnM [false] 2 rP
theorem sc_l_odd:FnScope ["_law_box_here","_law_some"] ["_law_box_here"] (ak kM):=⟨rfl,rfl,rfl,by decide +kernel,rfl,by decide +kernel,by decide +kernel⟩
theorem ub (B:Bl mg) (D:Def K mg "_law_odd" kM) (C__law_take:aP P w K mg base "_law_take" 1 ["_law_box_here","_law_many"] aV):aP P w K mg base "_law_odd" 2 ["_law_box_here"] kW :=
 ba (k:=1) D sc_l_odd rfl rfl (hb1 fun _ _ _ _ _ _ _=>rfl) fun cdv A outer s H E f G hr hp =>
  (ai (aF 1 sc_l_odd.nd rfl (Or.inl rfl) (bV (aa zM (aa c8 (aa c8 (aa af (aa (ik eX eY af) (aa uV (aa uV (aa (aQ (aa af ae rfl)) (aa (bV (aa af ae rfl)) (aa (zN (key:=.inr "a") vj vn) (aa (aQ ae) (aa (au qz nE af af) (aa (aQ (aa af (aa af ae rfl) rfl)) (aa (aQ (aa (aQ (aa af (aa af ae rfl) rfl)) ae rfl)) (aa (bV (aa (aQ ae) ae rfl)) (aa af ae rfl) rfl) rfl) rfl) rfl) rfl) rfl) rfl) rfl) rfl) rfl) rfl) rfl) rfl) rfl) rfl)) rfl (Or.inl rfl) (by rw [hp];rfl)) (am (aL 1 (fun i hi=>by rw [hp];exact aE (by simpa using hi)) (aM (aB hr.hu) ay (rvl 1) (av C__law_take (hr.mono (by decide)) (aa (rvl 0) (aa af ae rfl) rfl) rfl (by decide) rfl rfl) (fun _ _=>rfl)))))
noncomputable def vK:SM:=(aK (aW 3 (aj gD (aj jv (aj aw (ac 1) (mC (.int 0))) (aj aw (ac 0) (mC (.int 0)))) (aj jv (aj aw (ac 2) (mC (.int 1))) (aj aw (ac 0) (mC (.int 1)))))) (bv 3 (aj jv (ac 3) (aj gD (aj jv (aj aw (ac 1) (mC (.int 1))) (aj aw (ac 0) (mC (.int 1)))) (aj jv (aj aw (ac 2) (mC (.int 0))) (aj aw (ac 0) (mC (.int 0))))))))
noncomputable def fE:Fn:=fnM [false,false,false] 4 vK
theorem sc_l_bend:FnScope ["_law_one","_law_two","_law_three","_law_across"] ["_law_one","_law_two","_law_three"] (ak jA):=⟨rfl,rfl,rfl,by decide +kernel,rfl,by decide +kernel,by decide +kernel⟩
theorem qW (B:Bl mg) (D:Def K mg "_law_bend" jA):aP P w K mg base "_law_bend" 1 ["_law_one","_law_two","_law_three"] fE :=
 ba (k:=0) D sc_l_bend rfl rfl (hb3 fun _ _ _ _ _ _ _ _ _=>rfl) fun cdv A outer s H E f G hr hp =>
  (ai (aF 3 sc_l_bend.nd rfl (Or.inl rfl) (au cS b6 (au dM cC (aM (aB hr.hu) ay (rvl 1) af (fun _ _=>rfl)) (aM (aB hr.hu) ay (rvl 0) af (fun _ _=>rfl))) (au dM cC (aM (aB hr.hu) ay (rvl 2) af (fun _ _=>rfl)) (aM (aB hr.hu) ay (rvl 0) af (fun _ _=>rfl)))) rfl (Or.inl rfl) (by rw [hp];rfl)) (am (aL 3 (fun i hi=>by rw [hp];exact aE (by simpa using hi)) (au dM cC (rvl 3) (au cS b6 (au dM cC (aM (aB hr.hu) ay (rvl 1) af (fun _ _=>rfl)) (aM (aB hr.hu) ay (rvl 0) af (fun _ _=>rfl))) (au dM cC (aM (aB hr.hu) ay (rvl 2) af (fun _ _=>rfl)) (aM (aB hr.hu) ay (rvl 0) af (fun _ _=>rfl))))))))
noncomputable def fM:SM:=(sIf (cB (aj eqX (aA fE (ab (aj aw (ac 0) (ac 3)) (ab (aj aw (ac 0) (ac 2)) (ab (ac 1) ah)))) (mC (.int 0)))) (bv 2 (mC (.bl false))) fF)
noncomputable def cq:SM:=(ci (aT bQ (ab (ac 2) ah)) (ao 3) fM)
noncomputable def pq:SM:=(aK (ci (aT bQ (ab (aG d6 (ab (ac 0) ah)) ah)) (ao 2) cq) (bv 2 (mC (.bl true))))
noncomputable def fD:Fn:=fnM [false,false] 4 pq
theorem sc_l_free:FnScope ["_law_found","_law_point","_law_k","_law_j"] ["_law_found","_law_point"] (ak jz):=⟨rfl,rfl,rfl,by decide +kernel,rfl,by decide +kernel,by decide +kernel⟩
theorem qV (B:Bl mg) (D:Def K mg "_law_free" jz) (C__law_bend:aP P w K mg base "_law_bend" 1 ["_law_one","_law_two","_law_three"] fE):aP P w K mg base "_law_free" 2 ["_law_found","_law_point"] fD :=
 ba (k:=1) D sc_l_free rfl rfl (hb2 fun _ _ _ _ _ _ _ _=>rfl) fun cdv A outer s H E f G hr hp =>
  (ai (cp PassesOwn.never rfl (b5 rfl B.range (aa (aJ aH cv rfl B.len eg (aa (rvl 0) ae rfl) (by decide) (by decide) rfl rfl) ae rfl) rfl) (a9 2 sc_l_free.nd rfl (Or.inl rfl) (Or.inl rfl) (by rw [hp];rfl)) (am (cp PassesOwn.never rfl (b5 rfl B.range (aa (rvl 2) ae rfl) rfl) (a9 3 sc_l_free.nd rfl (Or.inl rfl) (Or.inl rfl) (by rw [hp];rfl)) (am (dG (bO (fT hr.units) fU (av C__law_bend (hr.mono (by decide)) (aa (aM (aB hr.hu) ay (rvl 0) (rvl 3) (fun _ _=>rfl)) (aa (aM (aB hr.hu) ay (rvl 0) (rvl 2) (fun _ _=>rfl)) (aa (rvl 1) ae rfl) rfl) rfl) rfl (by decide) rfl rfl) af (bb _)) (am (aL 2 (fun i hi=>by rw [hp];exact aE (by simpa using hi)) c8)) bE)) (fun _=>rfl))) (fun _=>rfl)) (am (aL 2 (fun i hi=>by rw [hp];exact aE (by simpa using hi)) c8)))
noncomputable def df:M3 Bool:=(gK (cB (aA fD (ab (ac 5) (ab (bc (ab (ac 4) (ab (ac 8) ah))) ah)))))
noncomputable def eP:SM:=(aW 8 (aj bC (ac 8) (mC (.int 1))))
noncomputable def eO:SM:=(aK (aW 4 (aj bC (aj bC (ac 4) (mC (.int 1))) (aA aV (ab (ac 0) (ab (mC (.int 3)) ah))))) (aK (aW 7 (aj aw (cU (ab (aj gD (ac 4) (ac 4)) (ab (aj jv (mC (.int 0)) (aj gD (ac 4) (ac 4))) ah))) (aj pc (ac 6) (mC (.int 2))))) (aK (aW 8 (aj aw (cU (ab (aA aV (ab (ac 0) (ab (mC (.int 40)) ah))) (ab (aj gD (ac 4) (ac 4)) (ab (aj jv (mC (.int 9)) (aj gD (ac 4) (ac 4))) (ab (ac 7) (ab (aA aV (ab (ac 0) (ab (mC (.int 6)) ah))) ah)))))) (ac 3))) (aK (fc df eP) (ib (nJ isL ug 5 (ab (bc (ab (ac 4) (ab (ac 8) ah))) ah)))))))
noncomputable def gF:EM:=(bc (ab (aj gD (ac 0) (aj qu (mC (.int 10)) (mC (.int 12)))) (ab (aj bC (aj gD (ac 1) (aj qu (mC (.int 10)) (mC (.int 15)))) (mC (.int 7))) ah)))
noncomputable def eM:EM:=(bP (cu (ac 5)) (mf 2 (cw (ao 0) (cw (ao 1) mh))) dD gF [none,none])
noncomputable def mL:SM:=(aK (aW 2 (aj bC (mC (.int 1)) (aA aV (ab (ac 0) (ab (ac 1) ah))))) (aK (aW 3 (aA aV (ab (ac 0) (ab (mC (.int 5)) ah)))) (aK (aW 4 (aj jv (mC (.int 0)) (aA aV (ab (ac 0) (ab (mC (.int 9)) ah))))) (aK (aW 5 (cU ah)) (aK (ci (aT bQ (ab (ac 2) ah)) (ao 6) eO) (aK (sIf (cB (aj eqX (aA aV (ab (ac 0) (ab (mC (.int 6)) ah))) (mC (.int 5)))) (aW 5 eM) fF) (bv 2 (aG m9 (ab (ac 5) ah)))))))))
noncomputable def iT:Fn:=fnM [false,false] 9 mL
theorem sc_l_sheet:FnScope ["_law_box_here","_law_most","_law_many","_law_kind","_law_x","_law_found","_law_k","_law_bent","_law_y"] ["_law_box_here","_law_most"] (ak iN):=⟨rfl,rfl,rfl,by decide +kernel,rfl,by decide +kernel,by decide +kernel⟩
theorem pS (B:Bl mg) (D:Def K mg "_law_sheet" iN) (C__law_free:aP P w K mg base "_law_free" 2 ["_law_found","_law_point"] fD) (C__law_take:aP P w K mg base "_law_take" 1 ["_law_box_here","_law_many"] aV):aP P w K mg base "_law_sheet" 3 ["_law_box_here","_law_most"] iT :=
 ba (k:=2) D sc_l_sheet rfl rfl (hb2 fun _ _ _ _ _ _ _ _=>rfl) fun cdv A outer s H E f G hr hp =>
  (ai (aF 2 sc_l_sheet.nd rfl (Or.inl rfl) (au aI aR af (av C__law_take (hr.mono (by decide)) (aa (rvl 0) (aa (rvl 1) ae rfl) rfl) rfl (by decide) rfl rfl)) rfl (Or.inl rfl) (by rw [hp];rfl)) (ai (aF 3 sc_l_sheet.nd rfl (Or.inl rfl) (av C__law_take (hr.mono (by decide)) (aa (rvl 0) (aa af ae rfl) rfl) rfl (by decide) rfl rfl) rfl (Or.inl rfl) (by rw [hp];rfl)) (ai (aF 4 sc_l_sheet.nd rfl (Or.inl rfl) (au dM cC af (av C__law_take (hr.mono (by decide)) (aa (rvl 0) (aa af ae rfl) rfl) rfl (by decide) rfl rfl)) rfl (Or.inl rfl) (by rw [hp];rfl)) (ai (aF 5 sc_l_sheet.nd rfl (Or.inl rfl) (bV ae) rfl (Or.inl rfl) (by rw [hp];rfl)) (ai (cp PassesOwn.never rfl (b5 rfl B.range (aa (rvl 2) ae rfl) rfl) (a9 6 sc_l_sheet.nd rfl (Or.inl rfl) (Or.inl rfl) (by rw [hp];rfl)) (ai (aF 4 sc_l_sheet.nd rfl (Or.inl rfl) (au aI aR (au aI aR (rvl 4) af) (av C__law_take (hr.mono (by decide)) (aa (rvl 0) (aa af ae rfl) rfl) rfl (by decide) rfl rfl)) rfl (Or.inl rfl) (by rw [hp];rfl)) (ai (aF 7 sc_l_sheet.nd rfl (Or.inl rfl) (aM (aB hr.hu) ay (bV (aa (au cS b6 (rvl 4) (rvl 4)) (aa (au dM cC af (au cS b6 (rvl 4) (rvl 4))) ae rfl) rfl)) (au jV iQ (rvl 6) af) (fun _ _=>rfl)) rfl (Or.inl rfl) (by rw [hp];rfl)) (ai (aF 8 sc_l_sheet.nd rfl (Or.inl rfl) (aM (aB hr.hu) ay (bV (aa (av C__law_take (hr.mono (by decide)) (aa (rvl 0) (aa af ae rfl) rfl) rfl (by decide) rfl rfl) (aa (au cS b6 (rvl 4) (rvl 4)) (aa (au dM cC af (au cS b6 (rvl 4) (rvl 4))) (aa (rvl 7) (aa (av C__law_take (hr.mono (by decide)) (aa (rvl 0) (aa af ae rfl) rfl) rfl (by decide) rfl rfl) ae rfl) rfl) rfl) rfl) rfl)) (rvl 3) (fun _ _=>rfl)) rfl (Or.inl rfl) (by rw [hp];rfl)) (ai (lg PassesOwn.never (cQ (cP (av C__law_free (hr.mono (by decide)) (aa (rvl 5) (aa (aQ (aa (rvl 4) (aa (rvl 8) ae rfl) rfl)) ae rfl) rfl) rfl (by decide) rfl rfl) (fun _=>rfl))) (am (aF 8 sc_l_sheet.nd rfl (Or.inl rfl) (au aI aR (rvl 8) af) rfl (Or.inl rfl) (by rw [hp];rfl)))) (am (gz (jC (ok:=isL) PySem.F.plainAttrs_list PySem.F.slot_list_append PySem.F.type_list_append jW qD lG (jj (i:=5) rfl (Or.inl rfl) (by decide) (by decide)) (aa (aQ (aa (rvl 4) (aa (rvl 8) ae rfl) rfl)) ae rfl) rfl rfl rfl rfl rfl) rfl)))))) (fun _=>rfl)) (ai (dG (bO (fT hr.units) fU (av C__law_take (hr.mono (by decide)) (aa (rvl 0) (aa af ae rfl) rfl) rfl (by decide) rfl rfl) af (bb _)) (am (ql (i:=5) sc_l_sheet.nd rfl (Or.inl rfl) ["_law_x","_law_y"] [none,none] rfl (cR (rvl 5)) (fun s H C fp=>bU) (fun s H C fp=>(aQ (aa (au cS b6 (rvl 0) (au qz nE af af)) (aa (au aI aR (au cS b6 (rvl 1) (au qz nE af af)) af) ae rfl) rfl))) (by rfl) (b9 (by decide)) rfl (Or.inl rfl) (fun _=>rfl) (by rw [hp];rfl) ⟨_,sy (ke (aU rfl) (ke (aU rfl) pW)),fun s H C fp=>vi (n:=2) rfl (lu (bj (i:=0) (show (["_law_x","_law_y"]:List Str).Nodup by decide +kernel) rfl (Or.inl rfl) (Or.inr rfl)) (lu (bj (i:=1) (show (["_law_x","_law_y"]:List Str).Nodup by decide +kernel) rfl (Or.inl rfl) (Or.inr rfl)) rL rfl) rfl) rfl rfl⟩)) bE) (am (aL 2 (fun i hi=>by rw [hp];exact aE (by simpa using hi)) (dL cH lO rfl B.tuple eR (aa (rvl 5) ae rfl) (by decide) (by decide) rfl rfl)))))))))
noncomputable def fW:EM:=(bc (ab (ac 1) (ab (ac 2) (ab (ac 0) ah))))
noncomputable def i6:EM:=(bP (aT ie (ab (aj bC (ac 3) (mC (.int 1))) (ab (ac 0) ah))) (ao 0) dD fW [none,some 2,some 3])
noncomputable def fX:SM:=(aW 1 (aj bC (ac 1) i6))
noncomputable def i7:SM:=(ci (aT ie (ab (aj bC (ac 2) (mC (.int 1))) (ab (ac 0) ah))) (ao 3) fX)
noncomputable def qG:SM:=(aK (aW 1 (cU ah)) (aK (ci (aT bQ (ab (ac 0) ah)) (ao 2) i7) (bv 1 (ac 1))))
noncomputable def cx:Fn:=fnM [false] 4 qG
theorem sc_l_threes:FnScope ["_law_many","_law_found","_law_i","_law_j"] ["_law_many"] (ak gv):=⟨rfl,rfl,rfl,by decide +kernel,rfl,by decide +kernel,by decide +kernel⟩
theorem n9 (B:Bl mg) (D:Def K mg "_law_threes" gv):aP P w K mg base "_law_threes" 1 ["_law_many"] cx :=
 ba (k:=0) D sc_l_threes rfl rfl (hb1 fun _ _ _ _ _ _ _=>rfl) fun cdv A outer s H E f G hr hp =>
  (ai (aF 1 sc_l_threes.nd rfl (Or.inl rfl) (bV ae) rfl (Or.inl rfl) (by rw [hp];rfl)) (ai (cp PassesOwn.never rfl (b5 rfl B.range (aa (rvl 0) ae rfl) rfl) (a9 2 sc_l_threes.nd rfl (Or.inr rfl) (Or.inl rfl) (by rw [hp];rfl)) (am (cp PassesOwn.never rfl (iP rfl B.range (aa (au aI aR (rvc 2) af) (aa (rvl 0) ae rfl) rfl) rfl rfl) (a9 3 sc_l_threes.nd rfl (Or.inr rfl) (Or.inl rfl) (by rw [hp];rfl)) (am (aF 1 sc_l_threes.nd rfl (Or.inl rfl) (au aI aR (rvl 1) (bF ["_law_k","_law_i","_law_j"] [none,some 2,some 3] rfl (iP rfl B.range (aa (au aI aR (rvc 3) af) (aa (rvl 0) ae rfl) rfl) rfl rfl) (fun s H C fp=>bU) (fun s H C fp=>(aQ (aa (rvc 1) (aa (rvc 2) (aa (rvl 0) ae rfl) rfl) rfl))) (by rfl) (b9 (by decide)) (fun _=>rfl) ⟨_,aU rfl,fun s H C fp=>bj (i:=0) (show (["_law_k","_law_i","_law_j"]:List Str).Nodup by decide +kernel) rfl (Or.inl rfl) (Or.inr rfl)⟩)) rfl (Or.inl rfl) (by rw [hp];rfl))) (fun _=>rfl))) (fun _=>rfl)) (am (aL 1 (fun i hi=>by rw [hp];exact aE (by simpa using hi)) (rvl 1)))))
noncomputable def eL:SM:=(ib (nJ isL ug 1 (ab (aj aw (cU (ab (mUn jD (mC (.int 1))) (ab (mC (.int 1)) ah))) (aG yY (ab (aj gtI (aA fE (ab (aj aw (ac 0) (ac 2)) (ab (aj aw (ac 0) (ac 3)) (ab (aj aw (ac 0) (ac 4)) ah)))) (mC (.int 0))) ah))) ah)))
noncomputable def tu:SM:=(aK (aW 1 (cU ah)) (aK (ci (cu (aA cx (ab (aG d6 (ab (ac 0) ah)) ah))) (mf 3 (cw (ao 2) (cw (ao 3) (cw (ao 4) mh)))) eL) (bv 1 (aG m9 (ab (ac 1) ah)))))
noncomputable def gr:Fn:=fnM [false] 5 tu
theorem sc_l_signs:FnScope ["_law_sheet_here","_law_found","_law_i","_law_j","_law_k"] ["_law_sheet_here"] (ak iM):=⟨rfl,rfl,rfl,by decide +kernel,rfl,by decide +kernel,by decide +kernel⟩
theorem pR (B:Bl mg) (D:Def K mg "_law_signs" iM) (C__law_bend:aP P w K mg base "_law_bend" 1 ["_law_one","_law_two","_law_three"] fE) (C__law_threes:aP P w K mg base "_law_threes" 1 ["_law_many"] cx):aP P w K mg base "_law_signs" 2 ["_law_sheet_here"] gr :=
 ba (k:=1) D sc_l_signs rfl rfl (hb1 fun _ _ _ _ _ _ _=>rfl) fun cdv A outer s H E f G hr hp =>
  (ai (aF 1 sc_l_signs.nd rfl (Or.inl rfl) (bV ae) rfl (Or.inl rfl) (by rw [hp];rfl)) (ai (cp PassesOwn.never rfl (cR (av C__law_threes (hr.mono (by decide)) (aa (aJ aH cv rfl B.len eg (aa (rvl 0) ae rfl) (by decide) (by decide) rfl rfl) ae rfl) rfl (by decide) rfl rfl)) (qp rfl (dY (a9 2 sc_l_signs.nd rfl (Or.inl rfl) (Or.inl rfl) (by rw [hp];rfl)) (dY (a9 3 sc_l_signs.nd rfl (Or.inl rfl) (Or.inl rfl) (by rw [hp];rfl)) (dY (a9 4 sc_l_signs.nd rfl (Or.inl rfl) (Or.inl rfl) (by rw [hp];rfl)) nw rfl) rfl) rfl) rfl rfl) (am (gz (jC (ok:=isL) PySem.F.plainAttrs_list PySem.F.slot_list_append PySem.F.type_list_append jW qD lG (jj (i:=1) rfl (Or.inl rfl) (by decide) (by decide)) (aa (aM (aB hr.hu) ay (bV (aa (ik eX eY af) (aa af ae rfl) rfl)) (dL ua yy rfl B.int wz (aa (ji yS yT (av C__law_bend (hr.mono (by decide)) (aa (aM (aB hr.hu) ay (rvl 0) (rvl 2) (fun _ _=>rfl)) (aa (aM (aB hr.hu) ay (rvl 0) (rvl 3) (fun _ _=>rfl)) (aa (aM (aB hr.hu) ay (rvl 0) (rvl 4) (fun _ _=>rfl)) ae rfl) rfl) rfl) rfl (by decide) rfl rfl) af (bb _)) ae rfl) (by decide) (by decide) rfl rfl) (fun _ _=>rfl)) ae rfl) rfl rfl rfl rfl rfl) rfl)) (fun _=>rfl)) (am (aL 1 (fun i hi=>by rw [hp];exact aE (by simpa using hi)) (dL cH lO rfl B.tuple eR (aa (rvl 1) ae rfl) (by decide) (by decide) rfl rfl)))))
noncomputable def cD:EM:=(nK (aA eW (ab (ac 0) ah)) (aj eqX (aj gD (ac 0) (ac 0)) (mC (.int 1))))
noncomputable def gj:EM:=(bP (cu (ac 1)) (ao 0) dD cD [none])
noncomputable def gm:M3 Bool:=(cB (aj neX (aj aw (ac 1) (ac 0)) (aj aw (ac 1) (aj bC (ac 0) (mC (.int 1))))))
noncomputable def gk:EM:=(ac 0)
noncomputable def dN:EM:=(bP (aT bQ (ab (mC (.int 3)) ah)) (ao 0) gm gk [none,some 8])
noncomputable def bz:SM:=(aK (aW 8 (cU (ab (aj aw (ac 3) (bc (ab (ac 7) (ab (ac 4) (ab (ac 5) ah))))) (ab (aj aw (ac 3) (bc (ab (ac 7) (ab (ac 4) (ab (ac 6) ah))))) (ab (aj aw (ac 3) (bc (ab (ac 7) (ab (ac 5) (ab (ac 6) ah))))) (ab (aj aw (ac 3) (bc (ab (ac 4) (ab (ac 5) (ab (ac 6) ah))))) ah)))))) (sIf (cB (aj gtI (aG d6 (ab dN ah)) (mC (.int 1)))) (bv 2 (mC (.bl false))) fF))
noncomputable def bX:SM:=(ci (aT bQ (ab (ac 4) ah)) (ao 7) bz)
noncomputable def fY:SM:=(aK (aW 2 (aA cx (ab (ac 0) ah))) (aK (sIf (cOr (gK (cB (mUn (j0 "tuple") (ac 1)))) (cB (aj neX (aG d6 (ab (ac 1) ah)) (aG d6 (ab (ac 2) ah))))) (bv 2 (mC (.bl false))) fF) (aK (sIf (gK (cB (aG lU (ab gj ah)))) (bv 2 (mC (.bl false))) fF) (aK (aW 3 (pv (ab (ac 2) (ab (ac 1) ah)))) (aK (ci (cu (ac 2)) (mf 3 (cw (ao 4) (cw (ao 5) (cw (ao 6) mh)))) bX) (bv 2 (mC (.bl true))))))))
noncomputable def dU:Fn:=fnM [false,false] 9 fY
theorem sc_l_are_signs:FnScope ["_law_many","_law_thing","_law_threes_here","_law_told","_law_i","_law_j","_law_k","_law_h","_law_row"] ["_law_many","_law_thing"] (ak dP):=⟨rfl,rfl,rfl,by decide +kernel,rfl,by decide +kernel,by decide +kernel⟩
theorem kJ (B:Bl mg) (D:Def K mg "_law_are_signs" dP) (C__law_threes:aP P w K mg base "_law_threes" 1 ["_law_many"] cx) (C__law_whole:aP P w K mg base "_law_whole" 1 ["_law_thing"] eW):aP P w K mg base "_law_are_signs" 2 ["_law_many","_law_thing"] dU :=
 ba (k:=1) D sc_l_are_signs rfl rfl (hb2 fun _ _ _ _ _ _ _ _=>rfl) fun cdv A outer s H E f G hr hp =>
  (ai (aF 2 sc_l_are_signs.nd rfl (Or.inl rfl) (av C__law_threes (hr.mono (by decide)) (aa (rvl 0) ae rfl) rfl (by decide) rfl rfl) rfl (Or.inl rfl) (by rw [hp];rfl)) (ai (dG (oP (iZ (cQ (cP (gA dC rfl B.isinstance (eK (v:=V.ty "tuple") rfl B.tuple eR rfl (by decide) (by decide)) (rvl 1) rfl rfl rfl) (fun _=>rfl))) (ic (bO (il hr.units) io (aJ aH cv rfl B.len eg (aa (rvl 1) ae rfl) (by decide) (by decide) rfl rfl) (aJ aH cv rfl B.len eg (aa (rvl 2) ae rfl) (by decide) (by decide) rfl rfl) (bb _))))) (am (aL 2 (fun i hi=>by rw [hp];exact aE (by simpa using hi)) c8)) bE) (ai (dG (cQ (cP (aJ (ee rfl) iJ rfl B.all kC (aa (bF ["_law_one"] [none] rfl (cR (rvl 1)) (fun s H C fp=>bU) (fun s H C fp=>(lq (av C__law_whole (hr.mono (by decide)) (aa (rvl 0) ae rfl) rfl (by decide) rfl rfl) (jU (ji (fT hr.units) fU (au cS b6 (rvl 0) (rvl 0)) af (bb _))))) (by rfl) (b9 (by decide)) (fun _=>rfl) ⟨_,aU rfl,fun s H C fp=>bj (i:=0) (show (["_law_one"]:List Str).Nodup by decide +kernel) rfl (Or.inl rfl) (Or.inr rfl)⟩) ae rfl) (by decide) (by decide) rfl rfl) (fun _=>rfl))) (am (aL 2 (fun i hi=>by rw [hp];exact aE (by simpa using hi)) c8)) bE) (ai (aF 3 sc_l_are_signs.nd rfl (Or.inl rfl) (nz rfl hr.units rfl B.dict rfl B.zip (aa (rvl 2) (aa (rvl 1) ae rfl) rfl) rfl rfl rfl) rfl (Or.inl rfl) (by rw [hp];rfl)) (ai (cp PassesOwn.never rfl (cR (rvl 2)) (qp rfl (dY (a9 4 sc_l_are_signs.nd rfl (Or.inl rfl) (Or.inl rfl) (by rw [hp];rfl)) (dY (a9 5 sc_l_are_signs.nd rfl (Or.inl rfl) (Or.inl rfl) (by rw [hp];rfl)) (dY (a9 6 sc_l_are_signs.nd rfl (Or.inl rfl) (Or.inl rfl) (by rw [hp];rfl)) nw rfl) rfl) rfl) rfl rfl) (am (cp PassesOwn.never rfl (b5 rfl B.range (aa (rvl 4) ae rfl) rfl) (a9 7 sc_l_are_signs.nd rfl (Or.inl rfl) (Or.inl rfl) (by rw [hp];rfl)) (ai (aF 8 sc_l_are_signs.nd rfl (Or.inr rfl) (bV (aa (aM (aB hr.hu) ay (rvl 3) (aQ (aa (rvl 7) (aa (rvl 4) (aa (rvl 5) ae rfl) rfl) rfl)) (fun _ _=>rfl)) (aa (aM (aB hr.hu) ay (rvl 3) (aQ (aa (rvl 7) (aa (rvl 4) (aa (rvl 6) ae rfl) rfl) rfl)) (fun _ _=>rfl)) (aa (aM (aB hr.hu) ay (rvl 3) (aQ (aa (rvl 7) (aa (rvl 5) (aa (rvl 6) ae rfl) rfl) rfl)) (fun _ _=>rfl)) (aa (aM (aB hr.hu) ay (rvl 3) (aQ (aa (rvl 4) (aa (rvl 5) (aa (rvl 6) ae rfl) rfl) rfl)) (fun _ _=>rfl)) ae rfl) rfl) rfl) rfl)) rfl (Or.inl rfl) (by rw [hp];rfl)) (am (dG (bO yS yT (aJ aH cv rfl B.len eg (aa (bF ["_law_at","_law_row"] [none,some 8] rfl (b5 rfl B.range (aa af ae rfl) rfl) (fun s H C fp=>(gc (bO (il hr.units) io (aM (aB hr.hu) ay (rvc 1) (rvl 0) (fun _ _=>rfl)) (aM (aB hr.hu) ay (rvc 1) (au aI aR (rvl 0) af) (fun _ _=>rfl)) (bb _)))) (fun s H C fp=>(rvl 0)) (by rfl) (b9 (by decide)) (fun _=>rfl) ⟨_,aU rfl,fun s H C fp=>bj (i:=0) (show (["_law_at","_law_row"]:List Str).Nodup by decide +kernel) rfl (Or.inl rfl) (Or.inr rfl)⟩) ae rfl) (by decide) (by decide) rfl rfl) af (bb _)) (am (aL 2 (fun i hi=>by rw [hp];exact aE (by simpa using hi)) c8)) bE))) (fun _=>rfl))) (fun _=>rfl)) (am (aL 2 (fun i hi=>by rw [hp];exact aE (by simpa using hi)) c8)))))))
noncomputable def cf:M3 Bool:=(gK (cB (aA fD (ab (ac 2) (ab (bc (ab (ac 3) (ab (ac 4) ah))) ah)))))
noncomputable def cL:SM:=(aW 4 (aj bC (ac 4) (mC (.int 1))))
noncomputable def cJ:M3 Bool:=(cB (aj ltI (aG d6 (ab (ac 2) ah)) (ac 1)))
noncomputable def cK:SM:=(aK (aW 3 (aj bC (aj aw (aj aw (ac 2) (mUn jD (mC (.int 1)))) (mC (.int 0))) (mC (.int 1)))) (aK (aW 4 (aA aV (ab (ac 0) (ab (mC (.int 30)) ah)))) (aK (fc cf cL) (aW 2 (aj bC (ac 2) (bc (ab (bc (ab (ac 3) (ab (ac 4) ah))) ah)))))))
noncomputable def jG:SM:=(aK (aW 2 (aA iT (ab (ac 0) (ab (mC (.int 9)) ah)))) (aK (fc cJ cK) (bv 2 (mSl slD (ac 2) oX (eD (ac 1))))))
noncomputable def eT:Fn:=fnM [false,false] 5 jG
theorem sc_l_sheet_of:FnScope ["_law_box_here","_law_many","_law_sheet_here","_law_x","_law_y"] ["_law_box_here","_law_many"] (ak eI):=⟨rfl,rfl,rfl,by decide +kernel,rfl,by decide +kernel,by decide +kernel⟩
theorem lP (B:Bl mg) (D:Def K mg "_law_sheet_of" eI) (C__law_free:aP P w K mg base "_law_free" 2 ["_law_found","_law_point"] fD) (C__law_sheet:aP P w K mg base "_law_sheet" 3 ["_law_box_here","_law_most"] iT) (C__law_take:aP P w K mg base "_law_take" 1 ["_law_box_here","_law_many"] aV):aP P w K mg base "_law_sheet_of" 4 ["_law_box_here","_law_many"] eT :=
 ba (k:=3) D sc_l_sheet_of rfl rfl (hb2 fun _ _ _ _ _ _ _ _=>rfl) fun cdv A outer s H E f G hr hp =>
  (ai (aF 2 sc_l_sheet_of.nd rfl (Or.inl rfl) (av C__law_sheet (hr.mono (by decide)) (aa (rvl 0) (aa af ae rfl) rfl) rfl (by decide) rfl rfl) rfl (Or.inl rfl) (by rw [hp];rfl)) (ai (lg PassesOwn.never (bO kn lx (aJ aH cv rfl B.len eg (aa (rvl 2) ae rfl) (by decide) (by decide) rfl rfl) (rvl 1) (bb _)) (ai (aF 3 sc_l_sheet_of.nd rfl (Or.inl rfl) (au aI aR (aM (aB hr.hu) ay (aM (aB hr.hu) ay (rvl 2) (ik eX eY af) (fun _ _=>rfl)) af (fun _ _=>rfl)) af) rfl (Or.inl rfl) (by rw [hp];rfl)) (ai (aF 4 sc_l_sheet_of.nd rfl (Or.inl rfl) (av C__law_take (hr.mono (by decide)) (aa (rvl 0) (aa af ae rfl) rfl) rfl (by decide) rfl rfl) rfl (Or.inl rfl) (by rw [hp];rfl)) (ai (lg PassesOwn.never (cQ (cP (av C__law_free (hr.mono (by decide)) (aa (rvl 2) (aa (aQ (aa (rvl 3) (aa (rvl 4) ae rfl) rfl)) ae rfl) rfl) rfl (by decide) rfl rfl) (fun _=>rfl))) (am (aF 4 sc_l_sheet_of.nd rfl (Or.inl rfl) (au aI aR (rvl 4) af) rfl (Or.inl rfl) (by rw [hp];rfl)))) (am (aF 2 sc_l_sheet_of.nd rfl (Or.inl rfl) (au aI aR (rvl 2) (aQ (aa (aQ (aa (rvl 3) (aa (rvl 4) ae rfl) rfl)) ae rfl))) rfl (Or.inl rfl) (by rw [hp];rfl))))))) (am (aL 2 (fun i hi=>by rw [hp];exact aE (by simpa using hi)) (ff (rvl 2) nq (c7 (rvl 1)))))))
noncomputable def cT:EM:=(aj jv (mC (.int 0)) (ac 0))
noncomputable def fq:EM:=(bP (cu (mSl slD (ac 2) (eD (ac 4)) (eD (aj bC (ac 4) (mC (.int 1)))))) (ao 0) dD cT [none])
noncomputable def b7:SM:=(aK (aW 4 (aA aV (ab (ac 0) (ab (aj bC (aG d6 (ab (ac 2) ah)) (mC (.int 1))) ah)))) (aK (aW 5 (aj bC (aj bC (mSl slD (ac 2) oX (eD (ac 4))) (aG m9 (ab fq ah))) (mSl slD (ac 2) (eD (aj bC (ac 4) (mC (.int 1)))) oX))) (sIf (cB (aA dU (ab (ac 1) (ab (ac 5) ah)))) (aW 2 (ac 5)) fF)))
noncomputable def gQ:SM:=(aK (aW 2 (aA gr (ab (aA eT (ab (ac 0) (ab (ac 1) ah))) ah))) (aK (ci (aT bQ (ab (aA aV (ab (ac 0) (ab (mC (.int 4)) ah))) ah)) (ao 3) b7) (bv 2 (ac 2))))
noncomputable def cg:Fn:=fnM [false,false] 6 gQ
theorem sc_l_drawn_signs:FnScope ["_law_box_here","_law_many","_law_found","_law_lap","_law_at","_law_some"] ["_law_box_here","_law_many"] (ak cI):=⟨rfl,rfl,rfl,by decide +kernel,rfl,by decide +kernel,by decide +kernel⟩
theorem jP (B:Bl mg) (D:Def K mg "_law_drawn_signs" cI) (C__law_are_signs:aP P w K mg base "_law_are_signs" 2 ["_law_many","_law_thing"] dU) (C__law_sheet_of:aP P w K mg base "_law_sheet_of" 4 ["_law_box_here","_law_many"] eT) (C__law_signs:aP P w K mg base "_law_signs" 2 ["_law_sheet_here"] gr) (C__law_take:aP P w K mg base "_law_take" 1 ["_law_box_here","_law_many"] aV):aP P w K mg base "_law_drawn_signs" 5 ["_law_box_here","_law_many"] cg :=
 ba (k:=4) D sc_l_drawn_signs rfl rfl (hb2 fun _ _ _ _ _ _ _ _=>rfl) fun cdv A outer s H E f G hr hp =>
  (ai (aF 2 sc_l_drawn_signs.nd rfl (Or.inl rfl) (av C__law_signs (hr.mono (by decide)) (aa (av C__law_sheet_of (hr.mono (by decide)) (aa (rvl 0) (aa (rvl 1) ae rfl) rfl) rfl (by decide) rfl rfl) ae rfl) rfl (by decide) rfl rfl) rfl (Or.inl rfl) (by rw [hp];rfl)) (ai (cp PassesOwn.never rfl (b5 rfl B.range (aa (av C__law_take (hr.mono (by decide)) (aa (rvl 0) (aa af ae rfl) rfl) rfl (by decide) rfl rfl) ae rfl) rfl) (a9 3 sc_l_drawn_signs.nd rfl (Or.inl rfl) (Or.inl rfl) (by rw [hp];rfl)) (ai (aF 4 sc_l_drawn_signs.nd rfl (Or.inl rfl) (av C__law_take (hr.mono (by decide)) (aa (rvl 0) (aa (au aI aR (aJ aH cv rfl B.len eg (aa (rvl 2) ae rfl) (by decide) (by decide) rfl rfl) af) ae rfl) rfl) rfl (by decide) rfl rfl) rfl (Or.inl rfl) (by rw [hp];rfl)) (ai (aF 5 sc_l_drawn_signs.nd rfl (Or.inl rfl) (au aI aR (au aI aR (ff (rvl 2) nq (c7 (rvl 4))) (dL cH lO rfl B.tuple eR (aa (bF ["_law_one"] [none] rfl (cR (ff (rvl 2) (c7 (rvl 4)) (c7 (au aI aR (rvl 4) af)))) (fun s H C fp=>bU) (fun s H C fp=>(au dM cC af (rvl 0))) (by rfl) (b9 (by decide)) (fun _=>rfl) ⟨_,aU rfl,fun s H C fp=>bj (i:=0) (show (["_law_one"]:List Str).Nodup by decide +kernel) rfl (Or.inl rfl) (Or.inr rfl)⟩) ae rfl) (by decide) (by decide) rfl rfl)) (ff (rvl 2) (c7 (au aI aR (rvl 4) af)) nq)) rfl (Or.inl rfl) (by rw [hp];rfl)) (am (dG (cP (av C__law_are_signs (hr.mono (by decide)) (aa (rvl 1) (aa (rvl 5) ae rfl) rfl) rfl (by decide) rfl rfl) (fun _=>rfl)) (am (aF 2 sc_l_drawn_signs.nd rfl (Or.inl rfl) (rvl 5) rfl (Or.inl rfl) (by rw [hp];rfl))) bE)))) (fun _=>rfl)) (am (aL 2 (fun i hi=>by rw [hp];exact aE (by simpa using hi)) (rvl 2)))))
noncomputable def dg:M3 Bool:=(cB (aj eqX (aj aw (ac 2) (bc (ab (aj aw (ac 3) (mC (.int 0))) (ab (ac 0) (ab (aj aw (ac 3) (mUn jD (mC (.int 1)))) ah))))) (ac 1)))
noncomputable def fh:EM:=(ac 0)
noncomputable def iA:EM:=(bP (cu (mSl slD (ac 1) (eD (mC (.int 1))) (eD (mUn jD (mC (.int 1)))))) (ao 0) dg fh [none,some 2,some 0,some 1])
noncomputable def fj:M3 Bool:=(cB (aj neX (aj aw (ac 2) (bc (ab (aj aw (ac 3) (aj jv (ac 0) (mC (.int 2)))) (ab (aj aw (ac 3) (aj jv (ac 0) (mC (.int 1)))) (ab (aj aw (ac 3) (ac 0)) ah))))) (ac 1)))
noncomputable def iB:EM:=(ac 0)
noncomputable def iz:EM:=(bP (aT ie (ab (mC (.int 2)) (ab (aG d6 (ab (ac 3) ah)) ah))) (ao 0) fj iB [none,some 2,some 0,some 3])
noncomputable def bW:SM:=(aK (aW 3 (aj bC (aj bC (cU (ab (aj aw (ac 1) (mC (.int 0))) ah)) iA) (cU (ab (aj aw (ac 1) (mUn jD (mC (.int 1)))) ah)))) (sIf (cB (aj neX iz (cU ah))) (bv 2 (mC (.bl false))) fF))
noncomputable def fL:SM:=(aK (ci (cu (bc (ab (mC (.int 1)) (ab (mUn jD (mC (.int 1))) ah)))) (ao 2) bW) (bv 2 (mC (.bl true))))
noncomputable def fS:Fn:=fnM [false,false] 4 fL
theorem sc_l_ring_so:FnScope ["_law_told","_law_row","_law_sign","_law_side"] ["_law_told","_law_row"] (ak fI):=⟨rfl,rfl,rfl,by decide +kernel,rfl,by decide +kernel,by decide +kernel⟩
theorem md (B:Bl mg) (D:Def K mg "_law_ring_so" fI):aP P w K mg base "_law_ring_so" 1 ["_law_told","_law_row"] fS :=
 ba (k:=0) D sc_l_ring_so rfl rfl (hb2 fun _ _ _ _ _ _ _ _=>rfl) fun cdv A outer s H E f G hr hp =>
  (ai (cp PassesOwn.never rfl (cR (aQ (aa af (aa (ik eX eY af) ae rfl) rfl))) (a9 2 sc_l_ring_so.nd rfl (Or.inr rfl) (Or.inl rfl) (by rw [hp];rfl)) (ai (aF 3 sc_l_ring_so.nd rfl (Or.inr rfl) (au aI aR (au aI aR (bV (aa (aM (aB hr.hu) ay (rvc 1) af (fun _ _=>rfl)) ae rfl)) (bF ["_law_j","_law_sign","_law_told","_law_row"] [none,some 2,some 0,some 1] rfl (cR (ff (rvc 1) (c7 af) (c7 (ik eX eY af)))) (fun s H C fp=>(gc (bO (fT hr.units) fU (aM (aB hr.hu) ay (rvc 2) (aQ (aa (aM (aB hr.hu) ay (rvc 3) af (fun _ _=>rfl)) (aa (rvl 0) (aa (aM (aB hr.hu) ay (rvc 3) (ik eX eY af) (fun _ _=>rfl)) ae rfl) rfl) rfl)) (fun _ _=>rfl)) (rvc 1) (bb _)))) (fun s H C fp=>(rvl 0)) (by rfl) (b9 (by decide)) (fun _=>rfl) ⟨_,aU rfl,fun s H C fp=>bj (i:=0) (show (["_law_j","_law_sign","_law_told","_law_row"]:List Str).Nodup by decide +kernel) rfl (Or.inl rfl) (Or.inr rfl)⟩)) (bV (aa (aM (aB hr.hu) ay (rvc 1) (ik eX eY af) (fun _ _=>rfl)) ae rfl))) rfl (Or.inl rfl) (by rw [hp];rfl)) (am (dG (bO (il hr.units) io (bF ["_law_k","_law_sign","_law_told","_law_side"] [none,some 2,some 0,some 3] rfl (iP rfl B.range (aa af (aa (aJ aH cv rfl B.len eg (aa (rvc 3) ae rfl) (by decide) (by decide) rfl rfl) ae rfl) rfl) rfl rfl) (fun s H C fp=>(gc (bO (il hr.units) io (aM (aB hr.hu) ay (rvc 2) (aQ (aa (aM (aB hr.hu) ay (rvc 3) (au dM cC (rvl 0) af) (fun _ _=>rfl)) (aa (aM (aB hr.hu) ay (rvc 3) (au dM cC (rvl 0) af) (fun _ _=>rfl)) (aa (aM (aB hr.hu) ay (rvc 3) (rvl 0) (fun _ _=>rfl)) ae rfl) rfl) rfl)) (fun _ _=>rfl)) (rvc 1) (bb _)))) (fun s H C fp=>(rvl 0)) (by rfl) (b9 (by decide)) (fun _=>rfl) ⟨_,aU rfl,fun s H C fp=>bj (i:=0) (show (["_law_k","_law_sign","_law_told","_law_side"]:List Str).Nodup by decide +kernel) rfl (Or.inl rfl) (Or.inr rfl)⟩) (bV ae) (bb _)) (am (aL 2 (fun i hi=>by rw [hp];exact aE (by simpa using hi)) c8)) bE))) (fun _=>rfl)) (am (aL 2 (fun i hi=>by rw [hp];exact aE (by simpa using hi)) c8)))
noncomputable def fk:EM:=(aA eW (ab (ac 0) ah))
noncomputable def iC:EM:=(bP (cu (ac 2)) (ao 0) dD fk [none])
noncomputable def iD:SM:=(aK (sIf (cOr (gK (cB (mUn (j0 "tuple") (ac 2)))) (cOr (cB (aj ltI (aG d6 (ab (ac 2) ah)) (mC (.int 3)))) (gK (cB (aG lU (ab iC ah)))))) (bv 3 (mC (.bl false))) fF) (aK (sIf (cOr (cB (aj neX (aG ssD (ab (ac 2) ah)) (aG Ao (ab (ac 2) ah)))) (cOr (cB (aj ltI (aj aw (ac 2) (mC (.int 0))) (mC (.int 0)))) (cB (aj geI (aj aw (ac 2) (mUn jD (mC (.int 1)))) (ac 0))))) (bv 3 (mC (.bl false))) fF) (bv 3 (aA fS (ab (ac 1) (ab (ac 2) ah))))))
noncomputable def cy:Fn:=fnM [false,false,false] 3 iD
theorem nk:FnScope ["_law_many","_law_told","_law_thing"] ["_law_many","_law_told","_law_thing"] (ak fJ):=⟨rfl,rfl,rfl,by decide +kernel,rfl,by decide +kernel,by decide +kernel⟩
theorem me (B:Bl mg) (D:Def K mg "_law_is_ring" fJ) (C__law_ring_so:aP P w K mg base "_law_ring_so" 1 ["_law_told","_law_row"] fS) (C__law_whole:aP P w K mg base "_law_whole" 1 ["_law_thing"] eW):aP P w K mg base "_law_is_ring" 2 ["_law_many","_law_told","_law_thing"] cy :=
 ba (k:=1) D nk rfl rfl (hb3 fun _ _ _ _ _ _ _ _ _=>rfl) fun cdv A outer s H E f G hr hp =>
  (ai (dG (oP (iZ (cQ (cP (gA dC rfl B.isinstance (eK (v:=V.ty "tuple") rfl B.tuple eR rfl (by decide) (by decide)) (rvl 2) rfl rfl rfl) (fun _=>rfl))) (iZ (bO kn lx (aJ aH cv rfl B.len eg (aa (rvl 2) ae rfl) (by decide) (by decide) rfl rfl) af (bb _)) (ic (cQ (cP (aJ (ee rfl) iJ rfl B.all kC (aa (bF ["_law_one"] [none] rfl (cR (rvl 2)) (fun s H C fp=>bU) (fun s H C fp=>(av C__law_whole (hr.mono (by decide)) (aa (rvl 0) ae rfl) rfl (by decide) rfl rfl)) (by rfl) (b9 (by decide)) (fun _=>rfl) ⟨_,aU rfl,fun s H C fp=>bj (i:=0) (show (["_law_one"]:List Str).Nodup by decide +kernel) rfl (Or.inl rfl) (Or.inr rfl)⟩) ae rfl) (by decide) (by decide) rfl rfl) (fun _=>rfl))))))) (am (aL 3 (fun i hi=>by rw [hp];exact aE (by simpa using hi)) c8)) bE) (ai (dG (oP (iZ (bO (il hr.units) io (re_ss rfl rfl B.sorted wy rfl B.set b_set (rvl 2) (by decide) (by decide) (by decide) (by decide) rfl rfl) (dL n4 AG rfl B.list AJ (aa (rvl 2) ae rfl) (by decide) (by decide) rfl rfl) (bb _)) (iZ (bO kn lx (aM (aB hr.hu) ay (rvl 2) af (fun _ _=>rfl)) af (bb _)) (ic (bO op_ge od_ge (aM (aB hr.hu) ay (rvl 2) (ik eX eY af) (fun _ _=>rfl)) (rvl 0) (bb _)))))) (am (aL 3 (fun i hi=>by rw [hp];exact aE (by simpa using hi)) c8)) bE) (am (aL 3 (fun i hi=>by rw [hp];exact aE (by simpa using hi)) (av C__law_ring_so (hr.mono (by decide)) (aa (rvl 1) (aa (rvl 2) ae rfl) rfl) rfl (by decide) rfl rfl)))))
noncomputable def vI:M3 Bool:=(cB (aj eqX (aj andI (aj shrI (ac 1) (ac 0)) (mC (.int 1))) (mC (.int 1))))
noncomputable def vH:EM:=(ac 0)
noncomputable def vG:EM:=(bP (aT bQ (ab (ac 3) ah)) (ao 0) vI vH [none,some 7])
noncomputable def de:SM:=(ib (nJ isL ug 6 (ab (aG m9 (ab vG ah)) ah)))
noncomputable def iy:SM:=(aK (aW 9 (aA cb (ab (ac 8) (ab (ac 3) (ab (ac 4) ah))))) (sIf (cOr (gK (cB (mUn (j0 "bool") (ac 9)))) (cB (aj neX (ac 9) (aA cy (ab (ac 3) (ab (ac 5) (ab (ac 8) ah))))))) (bv 1 (mC (.bl false))) fF))
noncomputable def jF:SM:=(aK (aW 2 (aA kX (ab (ac 0) (ab (ac 1) ah)))) (aK (aW 3 (aj bC (mC (.int 1)) (aA aV (ab (ac 2) (ab (mC (.int 7)) ah))))) (aK (aW 4 (aA cg (ab (ac 2) (ab (ac 3) ah)))) (aK (aW 5 (pv (ab (aA cx (ab (ac 3) ah)) (ab (ac 4) ah)))) (aK (aW 6 (cU (ab (bc ah) (ab (bc (ab (mC (.int 0)) (ab (mC (.int 1)) (ab (ac 3) ah)))) (ab (bc (ab (mC (.int 1)) (ab (mC (.int 0)) (ab (mC (.int 2)) ah)))) (ab (cU (ab (mC (.int 0)) (ab (mC (.int 1)) (ab (mC (.int 2)) ah)))) (ab (bc (ab (mC (.int 0)) (ab (mC (.int 1)) (ab (mC (.bl true)) ah)))) (ab (bc (ab (mUn jD (mC (.int 1))) (ab (mC (.int 0)) (ab (mC (.int 1)) ah)))) (ab (aA kW (ab (ac 2) ah)) ah))))))))) (aK (ci (aT bQ (ab (aj lY (mC (.int 1)) (ac 3)) ah)) (ao 7) de) (ci (cu (ac 6)) (ao 8) iy)))))))
noncomputable def yW:SM:=(aK (ci (aT bQ (ab (aG yV (ab (mC (.int 1)) (ab (aG yU (ab (aG d6 (ab (ac 0) ah)) (ab (mC (.int 4)) ah))) ah))) ah)) (ao 1) jF) (bv 1 (mC (.bl true))))
noncomputable def zd:Fn:=fnM [false] 10 yW
theorem sc_law:FnScope ["_law_script","_law_k","_law_box_here","_law_many","_law_signs_here","_law_told","_law_things","_law_lot","_law_thing","_law_found"] ["_law_script"] (ak hV):=⟨rfl,rfl,rfl,by decide +kernel,rfl,by decide +kernel,by decide +kernel⟩
theorem yq {f:Addr} {fd:FuncData} (B:Bl mg) (D:Fun K "law" "law" hV f fd) (C__law_box:aP P w K mg base "_law_box" 1 ["_law_script","_law_k"] kX) (C__law_drawn_signs:aP P w K mg base "_law_drawn_signs" 5 ["_law_box_here","_law_many"] cg) (C__law_is_ring:aP P w K mg base "_law_is_ring" 2 ["_law_many","_law_told","_law_thing"] cy) (C__law_odd:aP P w K mg base "_law_odd" 2 ["_law_box_here"] kW) (C__law_take:aP P w K mg base "_law_take" 1 ["_law_box_here","_law_many"] aV) (C__law_threes:aP P w K mg base "_law_threes" 1 ["_law_many"] cx) (C_is_ring_by_signs:aP P w K mg base "is_ring_by_signs" 5 ["thing","many","signs"] cb):FnOk P w K mg base CX0 6 f fd ["_law_script"] (sJ K zd) :=
 AB (k:=5) D sc_law rfl rfl fun cdv A outer s H E f G hr hp =>
  (ai (cp PassesOwn.never rfl (b5 rfl B.range (aa (aJ (t9 rfl) yx rfl B.max b_max (aa af (aa (aJ (t8 rfl) yw rfl B.min b_min (aa (aJ aH cv rfl B.len eg (aa (rvl 0) ae rfl) (by decide) (by decide) rfl rfl) (aa af ae rfl) rfl) (by decide) (by decide) rfl rfl) ae rfl) rfl) (by decide) (by decide) rfl rfl) ae rfl) rfl) (a9 1 sc_law.nd rfl (Or.inl rfl) (Or.inl rfl) (by rw [hp];rfl)) (ai (aF 2 sc_law.nd rfl (Or.inl rfl) (av C__law_box (hr.mono (by decide)) (aa (rvl 0) (aa (rvl 1) ae rfl) rfl) rfl (by decide) rfl rfl) rfl (Or.inl rfl) (by rw [hp];rfl)) (ai (aF 3 sc_law.nd rfl (Or.inl rfl) (au aI aR af (av C__law_take (hr.mono (by decide)) (aa (rvl 2) (aa af ae rfl) rfl) rfl (by decide) rfl rfl)) rfl (Or.inl rfl) (by rw [hp];rfl)) (ai (aF 4 sc_law.nd rfl (Or.inl rfl) (av C__law_drawn_signs (hr.mono (by decide)) (aa (rvl 2) (aa (rvl 3) ae rfl) rfl) rfl (by decide) rfl rfl) rfl (Or.inl rfl) (by rw [hp];rfl)) (ai (aF 5 sc_law.nd rfl (Or.inl rfl) (nz rfl hr.units rfl B.dict rfl B.zip (aa (av C__law_threes (hr.mono (by decide)) (aa (rvl 3) ae rfl) rfl (by decide) rfl rfl) (aa (rvl 4) ae rfl) rfl) rfl rfl rfl) rfl (Or.inl rfl) (by rw [hp];rfl)) (ai (aF 6 sc_law.nd rfl (Or.inl rfl) (bV (aa (aQ ae) (aa (aQ (aa af (aa af (aa (rvl 3) ae rfl) rfl) rfl)) (aa (aQ (aa af (aa af (aa af ae rfl) rfl) rfl)) (aa (bV (aa af (aa af (aa af ae rfl) rfl) rfl)) (aa (aQ (aa af (aa af (aa c8 ae rfl) rfl) rfl)) (aa (aQ (aa (ik eX eY af) (aa af (aa af ae rfl) rfl) rfl)) (aa (av C__law_odd (hr.mono (by decide)) (aa (rvl 2) ae rfl) rfl (by decide) rfl rfl) ae rfl) rfl) rfl) rfl) rfl) rfl) rfl)) rfl (Or.inl rfl) (by rw [hp];rfl)) (ai (cp PassesOwn.never rfl (b5 rfl B.range (aa (au Ab Ag af (rvl 3)) ae rfl) rfl) (a9 7 sc_law.nd rfl (Or.inr rfl) (Or.inl rfl) (by rw [hp];rfl)) (am (gz (jC (ok:=isL) PySem.F.plainAttrs_list PySem.F.slot_list_append PySem.F.type_list_append jW qD lG (jj (i:=6) rfl (Or.inl rfl) (by decide) (by decide)) (aa (dL cH lO rfl B.tuple eR (aa (bF ["_law_one","_law_lot"] [none,some 7] rfl (b5 rfl B.range (aa (rvl 3) ae rfl) rfl) (fun s H C fp=>(gc (bO (fT hr.units) fU (au Ad Ah (au Aa Af (rvc 1) (rvl 0)) af) af (bb _)))) (fun s H C fp=>(rvl 0)) (by rfl) (b9 (by decide)) (fun _=>rfl) ⟨_,aU rfl,fun s H C fp=>bj (i:=0) (show (["_law_one","_law_lot"]:List Str).Nodup by decide +kernel) rfl (Or.inl rfl) (Or.inr rfl)⟩) ae rfl) (by decide) (by decide) rfl rfl) ae rfl) rfl rfl rfl rfl rfl) rfl)) (fun _=>rfl)) (am (cp PassesOwn.never rfl (cR (rvl 6)) (a9 8 sc_law.nd rfl (Or.inl rfl) (Or.inl rfl) (by rw [hp];rfl)) (ai (aF 9 sc_law.nd rfl (Or.inl rfl) (av C_is_ring_by_signs (hr.mono (by decide)) (aa (rvl 8) (aa (rvl 3) (aa (rvl 4) ae rfl) rfl) rfl) rfl (by decide) rfl rfl) rfl (Or.inl rfl) (by rw [hp];rfl)) (am (dG (oP (iZ (cQ (cP (gA f9 rfl B.isinstance (eK (v:=V.ty "bool") rfl B.bool re rfl (by decide) (by decide)) (rvl 9) rfl rfl rfl) (fun _=>rfl))) (ic (bO (il hr.units) io (rvl 9) (av C__law_is_ring (hr.mono (by decide)) (aa (rvl 3) (aa (rvl 5) (aa (rvl 8) ae rfl) rfl) rfl) rfl (by decide) rfl rfl) (bb _))))) (am (aL 1 (fun i hi=>by rw [hp];exact aE (by simpa using hi)) c8)) bE))) (fun _=>rfl))))))))) (fun _=>rfl)) (am (aL 1 (fun i hi=>by rw [hp];exact aE (by simpa using hi)) c8)))
end
set_option tactic.hygienic true in
theorem jS (i:Int):cz [(.int i,.z)]=some (.ok (.bl true,.z),[(.int i,.z)]):=by
 apply bg (ρ:=[some (.int i,.z)]) rfl rfl
 ·(repeat' (first | infer_instance | eq_refl))
 ·rfl
theorem rW {f f':L3.D->L3.D->Option (L3.D × Fl)} {ma mb mc:EM} {ra rb rc:R3} {ρ ρ1 ρ2 ρ3:Sto} {da db db2 dc d:L3.D} {fl fl2:Fl} (h1:ma ρ=some (.ok ra,ρ1)) (h2:mb ρ1=some (.ok rb,ρ2)) (h3:der ra ρ2=some (.ok da,ρ2)) (h4:der rb ρ2=some (.ok db,ρ2)) (h5:f da db=some (.bl true,fl)) (h6:mc ρ2=some (.ok rc,ρ3)) (h7:der rb ρ3=some (.ok db2,ρ3)) (h8:der rc ρ3=some (.ok dc,ρ3)) (h9:f' db2 dc=some (d,fl2)):jn f f' ma mb mc ρ=some (.ok (.val d fl2),ρ3):=by
 simp only [jn,ag,h1,h2,h3,h4,h5,bB,Option.bind_some,asB,Bm,if_true,h6,h7,h8,h9]
theorem en {xs:List L3.D} {k:Int} {d:L3.D} (h:L2.atI xs k=some d):aw (.tup xs) (.int k)=some (d,.z):=by
 show orD ixD rZ (.tup xs) (.int k)=_
 simp [orD,ixD,h]
theorem rp {xs:List L3.D} {k:Int} {d:L3.D} (h:L2.atI xs k=some d):aw (.lst xs) (.int k)=some (d,.z):=by
 show orD ixD rZ (.lst xs) (.int k)=_
 simp [orD,ixD,h]
set_option tactic.hygienic true in
theorem oF {n i j:Nat} (xs:List L3.D) (hn:n<=25) (hj:j < n) (elt:EM) (he:∀ (a b c:L3.D),elt [some (c,.z),some (a,.z),some (b,.z)]=some (.ok (.val (.tup [a,b,c]) .z),[some (c,.z),some (a,.z),some (b,.z)])) :
  bP (aT ie (ab (aj bC (ac 3) (mC (.int 1))) (ab (ac 0) ah))) (ao 0) dD elt [none,some 2,some 3] [some (.int n,.z),some (.lst xs,.u),some (.int i,.z),some (.int j,.z)]=some (.ok (.val (.lst ((jT i j (n - (j+1))).map Td)) .u),[some (.int n,.z),some (.lst xs,.u),some (.int i,.z),some (.int j,.z)]):=by
 obtain ⟨τ',e,a,rfl⟩:=fB (bnd:=ao 0) (c:=dD) (elt:=elt) (fun τ=>∃ a,τ=[a,some (.int i,.z),some (.int j,.z)]) (fun _=>true) (fun d=>.tup [.int i,.int j,d]) (ds:=bx ((j:Int)+1) (n - (j+1))) (τ:=[none,some (.int i,.z),some (.int j,.z)]) ⟨none,rfl⟩ (by
  rintro d hd τ ⟨a,rfl⟩
  exact ⟨[some (d,.z),some (.int i,.z),some (.int j,.z)],_,rfl,rfl,(fun h=>by cases h),fun _=>⟨_,_,(.tup [.int i,.int j,d],.z),_,he _ _ _,rfl,rfl,_,rfl⟩⟩)
 have e4:((bx ((j:Int)+1) (n - (j+1))).filter fun _=>true).map (fun d=>L3.D.tup [.int i,.int j,d])=(jT i j (n - (j+1))).map Td:=by
  rw [By.mpr (fun _ _=>rfl)]
  simp [bx,jT,Function.comp_def]
 rw [e4] at e
 have hr:ie [.int ((j:Int)+1),.int n]=some (bx ((j:Int)+1) (n - (j+1))):=kP (by omega) (by omega) (by omega)
 exact bp (rs:=[]) (by (repeat' (first | with_reducible apply d7 (h3:=hr) | infer_instance | eq_refl))) e (by rw [ce];omega) rfl
theorem vZ {A B:List L3.D} (h:A.length+B.length<=16777216):tQ (.lst A) [.lst B]=some (.lst (A ++ B),.non):=by simp [tQ,h]
theorem wE {A:List L3.D} {d:L3.D} (h:A.length < 16777216):ug (.lst A) [d]=some (.lst (A ++ [d]),.non):=by simp [ug,h]
theorem nY {A B:List L3.D} (h:A.length+B.length<=16777216):bC (.lst A) (.lst B)=some (.lst (A ++ B),.u):=by simp [orD,cV,yA,yz,yB,h]
theorem iS {A B:List L3.D} (h:A.length+B.length<=16777216):bC (.tup A) (.tup B)=some (.tup (A ++ B),.z):=by simp [orD,cV,yA,yz,yB,h]
set_option tactic.hygienic true in
theorem mr {n:Nat} (hn:n<=25) {b1 b2:SM} (h2:b2=ci (aT ie (ab (aj bC (ac 2) (mC (.int 1))) (ab (ac 0) ah))) (ao 3) b1)
  (h1:∀ (i j:Nat) (xs:List L3.D),j < n->xs.length<=20000->b1 [some (.int n,.z),some (.lst xs,.u),some (.int i,.z),some (.int j,.z)]=some (.ok .nx,[some (.int n,.z),some (.lst (xs ++ (jT i j (n - (j+1))).map Td),.u),some (.int i,.z),some (.int j,.z)])) :
  ∃ v2 v3,ci (aT bQ (ab (ac 0) ah)) (ao 2) b2 [some (.int n,.z),some (.lst [],.u),none,none]=some (.ok .nx,[some (.int n,.z),some (.lst ((aD n).map Td),.u),v2,v3]):=by
 have inner:∀ (i:Nat) (xs:List Tri) (v3:Option (L3.D × Fl)),i < n->xs.length<=15625->∃ v3',b2 [some (.int n,.z),some (.lst (xs.map Td),.u),some (.int i,.z),v3]=some (.ok .nx,[some (.int n,.z),some (.lst ((xs ++ jh n i (n - (i+1))).map Td),.u),some (.int i,.z),v3']):=by
  intro i xs v3 hi hx
  obtain ⟨ρ',e,v3',rfl⟩:=cG (bnd:=ao 3) (b:=b1) (fun m ρ=>∃ v3,ρ=[some (.int n,.z),some (.lst ((xs ++ jh n i m).map Td),.u),some (.int i,.z),v3]) (ds:=bx ((i:Int)+1) (n - (i+1))) (ρ:=[some (.int n,.z),some (.lst (xs.map Td),.u),some (.int i,.z),v3]) (k:=0) ⟨v3,by simp [jh]⟩ (by
   rintro m d ρ hd ⟨v3,rfl⟩
   obtain ⟨hm,rfl⟩:=dX hd
   have hx2:((xs ++ jh n i m).map Td).length<=20000:=by
    have:=qm (n:=n) (i:=i) (m:=m) hn (by omega)
    simp only [A2,Bi]
    omega
   have c:=h1 i (i+1+m) ((xs ++ jh n i m).map Td) (by omega) hx2
   rw [show ((i+1+m:Nat):Int)=(i:Int)+1+m by omega,<- List.map_append,List.append_assoc,<- mz] at c
   exact ⟨_,_,by rw [Bg];rfl,.inl c,_,by rw [Bg]⟩)
  refine ⟨v3',?_⟩
  rw [ce,Bg] at e
  have hr:ie [.int ((i:Int)+1),.int n]=some (bx ((i:Int)+1) (n - (i+1))):=kP (by omega) (by omega) (by omega)
  rw [h2]
  apply fA
  ·(repeat' (first | with_reducible apply d7 (h3:=hr) | infer_instance | eq_refl))
  ·rfl
  ·exact e
 obtain ⟨ρ',e,v2,v3,rfl⟩:=cG (bnd:=ao 2) (b:=b2) (fun m ρ=>∃ v2 v3,ρ=[some (.int n,.z),some (.lst ((l6 n m).map Td),.u),v2,v3]) (ds:=bx 0 n) (ρ:=[some (.int n,.z),some (.lst [],.u),none,none]) (k:=0) ⟨none,none,rfl⟩ (by
  rintro m d ρ hd ⟨v2,v3,rfl⟩
  obtain ⟨hm,rfl⟩:=dX hd
  rw [Bg,Int.zero_add]
  obtain ⟨v3',e⟩:=inner m (l6 n m) v3 hm (lj hn (by omega))
  rw [<- mB] at e
  exact ⟨_,_,rfl,.inl e,_,_,rfl⟩)
 rw [ce,Bg] at e
 have hr:bQ [.int (n:Int)]=some (bx 0 n):=dR (by omega) (by omega)
 refine ⟨v2,v3,?_⟩
 apply fA
 ·(repeat' (first | with_reducible apply d7 (h3:=hr) | infer_instance | eq_refl))
 ·rfl
 ·exact e
set_option tactic.hygienic true in
theorem jg (n:Nat) (hn:n<=25):eh [(.int n,.z)]=some (.ok (.lst ((aD n).map Td),.u),[(.int n,.z)]):=by
 obtain ⟨v2,v3,e⟩:=mr (n:=n) hn (b1:=iu) (b2:=kr) rfl (by
  intro i j xs hj hx
  have c:=oF (n:=n) (i:=i) (j:=j) xs hn hj ir (fun a b c=>by unfold ir;(repeat' (first | infer_instance | eq_refl)))
  have hl:xs.length+((jT i j (n - (j+1))).map Td).length<=16777216:=by
   rw [A2,lh];omega
  unfold iu ko
  (repeat' (first | with_reducible exact c | infer_instance | exact vZ hl | eq_refl)))
 apply bg (ρ:=[some (.int n,.z),none,none,none]) rfl rfl
 ·apply aq
  ·(repeat' (first | infer_instance | eq_refl))
  ·apply aq
   ·exact e
   ·(repeat' (first | infer_instance | eq_refl))
 ·rfl
theorem nG {i j:Int}:neX (.int i) (.int j)=some (.bl (!decide (i=j)),.z):=rfl
noncomputable def eC (p q r:Pt):Int:=if 0 < aZ p q r then 1 else -1
noncomputable def gg (ps:List Pt) (i:Nat):Pt:=ps.getD i (0,0)
theorem c9 {ps:List Pt} {i:Nat} (h:i < ps.length):ps[i]?=some (gg ps i):=by
 simp [gg,List.getD,h]
set_option tactic.hygienic true in
theorem fe (n m:Int) (h:0 < m/\m < 1073741824):aV [(.lst [.int n],.u),(.int m,.z)]=some (.ok (.int (n % m),.z),[(.lst [.int (n / m)],.u),(.int m,.z)]):=by
 have hd:wj [.int n,.int m]=some (.tup [.int (n / m),.int (n % m)],.z):=by simp [c2,pC,h]
 apply bg (ρ:=[some (.lst [.int n],.u),some (.int m,.z),none,none]) rfl rfl
 ·apply aq
  ·(repeat' (first | infer_instance | exact hd | eq_refl))
  ·apply aq
   ·(repeat' (first | infer_instance | eq_refl))
   ·(repeat' (first | infer_instance | eq_refl))
 ·rfl
set_option tactic.hygienic true in
theorem oO (p q r:Int × Int) (h1:-18446744073709551616 < q.1 - p.1/\q.1 - p.1 < 18446744073709551616) (h2:-18446744073709551616 < q.2 - p.2/\q.2 - p.2 < 18446744073709551616):fE [(Pd p,.z),(Pd q,.z),(Pd r,.z)]=some (.ok (.int (aZ p q r),.z),[(Pd p,.z),(Pd q,.z),(Pd r,.z)]):=by
 apply bg (ρ:=[some (Pd p,.z),some (Pd q,.z),some (Pd r,.z),none]) rfl rfl
 ·apply aq
  ·(repeat' (first | infer_instance | exact jE h1 | eq_refl))
  ·(repeat' (first | infer_instance | exact jE h2 | eq_refl))
 ·rfl
theorem dB (c:Int) (m:Int) (h:0 < m):0<=c % m/\c % m < m:=⟨Int.emod_nonneg _ (by omega),Int.emod_lt_of_pos _ h⟩
set_option tactic.hygienic true in
theorem wv (S kk:L3.D) (c n j:Int) (v5:Option (L3.D × Fl)):∃ n' p',gG [some (S,.z),some (kk,.z),some (.int c,.z),some (.int n,.z),some (.int j,.z),v5]=some (.ok .nx,[some (S,.z),some (kk,.z),some (.int c,.z),some (.int n',.z),some (.int j,.z),some (.int p',.z)]):=by
 have b:∀ x:Int,-18446744073709551616 < x % 2147483647/\x % 2147483647 < 18446744073709551616:=fun x=>by have:=dB x 2147483647 (by decide);omega
 have b2:∀ x:Int,-18446744073709551616 < x % 2147483629/\x % 2147483629 < 18446744073709551616:=fun x=>by have:=dB x 2147483629 (by decide);omega
 apply Exists.intro
 apply Exists.intro
 apply aq
 ·(repeat' (first | infer_instance | exact vC (by decide) | exact jE (by decide) | eq_refl))
 ·apply aq
  ·(repeat' (first | infer_instance | exact jE (b _) | eq_refl))
  ·(repeat' (first | infer_instance | exact vC (by decide) | exact jE (b2 _) | eq_refl))
set_option tactic.hygienic true in
theorem pV (S kk:L3.D) (c:Int):∃ (n:Int) (v3 v4 v5:Option (L3.D × Fl)),(aK (sIf (cB (aj eqX (aj pc (ac 2) (mC (.int 2))) (mC (.int 0)))) (bv 2 (cU (ab (aj AD (ac 2) (mC (.int 2))) ah))) fF) (aK (aW 3 (mC (.int 0))) (aK (ci (aT bQ (ab (mC (.int 16)) ah)) (ao 4) gG) (bv 2 (cU (ab (ac 3) ah)))))) [some (S,.z),some (kk,.z),some (.int c,.z),none,none,none]=some (.ok (.rt (.lst [.int n]) .u),[some (S,.z),some (kk,.z),some (.int c,.z),v3,v4,v5]):=by
 by_cases h:c % 2=0
 ·refine ⟨c / 2,none,none,none,?_⟩
  apply jf
  apply jL
  ·(repeat' (first | infer_instance | eq_refl))
  ·exact Bd h
  ·(repeat' (first | infer_instance | eq_refl))
 ·obtain ⟨ρ',e,n,v4,v5,rfl⟩:=cG (bnd:=ao 4) (b:=gG) (fun _ ρ=>∃ (n:Int) (v4 v5:Option (L3.D × Fl)),ρ=[some (S,.z),some (kk,.z),some (.int c,.z),some (.int n,.z),v4,v5]) (ds:=bx 0 16) (ρ:=[some (S,.z),some (kk,.z),some (.int c,.z),some (.int 0,.z),none,none]) (k:=0) ⟨0,none,none,rfl⟩ (by
   rintro i d ρ hd ⟨n,v4,v5,rfl⟩
   obtain ⟨hi,rfl⟩:=dX hd
   obtain ⟨n',p',e⟩:=wv S kk c n (0+(i:Int)) v5
   exact ⟨_,_,rfl,.inl e,_,_,_,rfl⟩)
  refine ⟨n,some (.int n,.z),v4,v5,?_⟩
  apply aq
  ·apply dI
   ·(repeat' (first | infer_instance | eq_refl))
   ·exact Be h
   ·rfl
  apply aq
  ·(repeat' (first | infer_instance | eq_refl))
  apply aq
  ·apply fA
   ·exact d7 (by (repeat' (first | infer_instance | eq_refl))) rfl (dR (n:=16) (by decide) (by decide))
   ·rfl
   ·exact e
  ·(repeat' (first | infer_instance | eq_refl))
set_option tactic.hygienic true in
theorem xu (ns:List Int) (k:Nat):∃ n:Int,kX [(.fls (ns.map .int),.z),(.int k,.z)]=some (.ok (.lst [.int n],.u),[(.fls (ns.map .int),.z),(.int k,.z)]):=by
 by_cases h:k < ns.length
 ·obtain ⟨n,v3,v4,v5,e⟩:=pV (.fls (ns.map .int)) (.int k) ns[k]
  refine ⟨n,?_⟩
  have a:aw (.fls (ns.map .int)) (.int (k:Int))=some (.int ns[k],.z):=by
   have:L2.atI (ns.map L3.D.int) (k:Int)=some (.int ns[k]):=sB (by simp [h])
   simp [orD,ixD,this]
  have hk:(k:Int) < ((ns.map L3.D.int).length:Int):=by simp;omega
  generalize (k:Int)=kk at *
  apply bg (ρ:=[some (.fls (ns.map .int),.z),some (.int kk,.z),none,none,none,none]) rfl rfl
  ·apply aq
   ·(repeat' (first | infer_instance | exact jE (by decide) | eq_refl))
   apply aq
   ·apply jL
    ·(repeat' (first | infer_instance | eq_refl))
    ·exact Bd hk
    ·(repeat' (first | infer_instance | exact a | eq_refl))
   ·exact e
  ·rfl
 ·obtain ⟨n,v3,v4,v5,e⟩:=pV (.fls (ns.map .int)) (.int k) (7919 * (k:Int)+13)
  refine ⟨n,?_⟩
  have hk:¬ (k:Int) < ((ns.map L3.D.int).length:Int):=by simp;omega
  generalize (k:Int)=kk at *
  apply bg (ρ:=[some (.fls (ns.map .int),.z),some (.int kk,.z),none,none,none,none]) rfl rfl
  ·apply aq
   ·(repeat' (first | infer_instance | exact jE (by decide) | eq_refl))
   apply aq
   ·apply dI
    ·(repeat' (first | infer_instance | eq_refl))
    ·exact Be hk
    ·rfl
   ·exact e
  ·rfl
set_option tactic.hygienic true in
theorem yp {X Z:L3.D} {f:Fl} {k j:Int} {p q z:L3.D} {b:Int} (a1:aw X (.int j)=some (p,.z)) (a2:aw X (.int k)=some (q,.z)) (hb:fE [(p,.z),(q,.z),(Z,.z)]=some (.ok (.int b,.z),[(p,.z),(q,.z),(Z,.z)])) :
  fM [some (X,f),some (Z,.z),some (.int k,.z),some (.int j,.z)]=some (.ok (if b=0 then .rt (.bl false) .z else .nx),[some (X,f),some (Z,.z),some (.int k,.z),some (.int j,.z)]):=by
 by_cases h:b=0
 ·rw [if_pos h]
  apply jL
  ·(repeat' (first | infer_instance | with_reducible apply aC (hb) | exact a1 | exact a2 | eq_refl))
  ·exact Bd h
  ·(repeat' (first | infer_instance | eq_refl))
 ·rw [if_neg h]
  apply dI
  ·(repeat' (first | infer_instance | with_reducible apply aC (hb) | exact a1 | exact a2 | eq_refl))
  ·exact Be h
  ·rfl
set_option tactic.hygienic true in
theorem mR (ps:List Pt) (z:Pt) (hs:∀ p ∈ ps,Small p) (hl:ps.length<=24) {X:L3.D} {f:Fl} (hlen:d6 [X]=some (.int (ps.length:Int),.z)) (hix:∀ (i:Nat) (p:Pt),ps[i]?=some p->aw X (.int i)=some (Pd p,.z)) :
  ∃ (b:Bool) (v2 v3:Option (L3.D × Fl)),pq [some (X,f),some (Pd z,.z),none,none]=some (.ok (.rt (.bl b) .z),[some (X,f),some (Pd z,.z),v2,v3])/\(b=true->rm ps z)/\(b=false->∃ (i j:Nat) (p q:Pt),i < j/\ps[i]?=some p/\ps[j]?=some q/\aZ p q z=0):=by
 have inner:∀ (i:Nat) (q:Pt) (v3:Option (L3.D × Fl)),ps[i]?=some q->∃ v3',cq [some (X,f),some (Pd z,.z),some (.int (0+(i:Int)),.z),v3]=some (.ok .nx,[some (X,f),some (Pd z,.z),some (.int (0+(i:Int)),.z),v3'])/\(∀ j p,j < i->ps[j]?=some p->aZ p q z ≠ 0) \/
   cq [some (X,f),some (Pd z,.z),some (.int (0+(i:Int)),.z),v3]=some (.ok (.rt (.bl false) .z),[some (X,f),some (Pd z,.z),some (.int (0+(i:Int)),.z),v3'])/\∃ j p,j < i/\ps[j]?=some p/\aZ p q z=0:=by
  intro i q v3 hq
  have hi:i < ps.length:=(A3.mp hq).1
  have hq2:aw X (.int (0+(i:Int)))=some (Pd q,.z):=by rw [Int.zero_add];exact hix i q hq
  have hr:bQ [.int (0+(i:Int))]=some (bx 0 i):=dR (by omega) (by omega)
  obtain ⟨ρ',h⟩:=jM (bnd:=ao 3) (b:=fM) (fun m ρ=>∃ v3,ρ=[some (X,f),some (Pd z,.z),some (.int (0+(i:Int)),.z),v3]/\∀ j p,j < m->ps[j]?=some p->aZ p q z ≠ 0)
   (fun m r fl ρ=>r=.bl false/\fl=.z/\∃ v3,ρ=[some (X,f),some (Pd z,.z),some (.int (0+(i:Int)),.z),v3]/\∃ p,ps[m]?=some p/\aZ p q z=0)
   (ds:=bx 0 i) (ρ:=[some (X,f),some (Pd z,.z),some (.int (0+(i:Int)),.z),v3]) (k:=0) ⟨v3,rfl,fun j p h=>absurd h (Nat.not_lt_zero _)⟩ (by
    rintro m d ρ hd ⟨v3,rfl,hn⟩
    obtain ⟨hm,rfl⟩:=dX hd
    have hp:ps[m]?=some (ps[m]'(by omega)):=AY _
    generalize (ps[m]'(by omega))=p at hp
    have hp2:aw X (.int (0+(m:Int)))=some (Pd p,.z):=by rw [Int.zero_add];exact hix m p hp
    have sm:=Small.sub (hs p (A4 hp)) (hs q (A4 hq))
    have rb:=yp (f:=f) (z:=.non) hp2 hq2 (oO p q z sm.1 sm.2)
    by_cases h0:aZ p q z=0
    ·rw [if_pos h0] at rb
     exact ⟨_,_,rfl,.inr ⟨.bl false,.z,rb,rfl,rfl,_,rfl,p,by rw [Bg];exact hp,h0⟩⟩
    ·rw [if_neg h0] at rb
     refine ⟨_,_,rfl,.inl ⟨.inl rb,_,rfl,fun j p' hj hp1=>?_⟩⟩
     by_cases e:j=m
     ·subst e;rw [hp] at hp1;cases hp1;exact h0
     ·exact hn j p' (by omega) hp1)
  have wrap:∀ {o:Except L3.D Flw} {ρ2:Sto},dA (ao 3) fM (bx 0 i) [some (X,f),some (Pd z,.z),some (.int (0+(i:Int)),.z),v3]=some (o,ρ2)->cq [some (X,f),some (Pd z,.z),some (.int (0+(i:Int)),.z),v3]=some (o,ρ2):=fun e=>by
   apply fA
   ·(repeat' (first | with_reducible apply d7 (h3:=hr) | infer_instance | eq_refl))
   ·rfl
   ·exact e
  rcases h with ⟨e,v3',rfl,h⟩ | ⟨m,r,fl,hm,e,rfl,rfl,v3',rfl,p,hp,h0⟩
  ·exact ⟨v3',.inl ⟨wrap e,fun j p hj=>h j p (by rw [ce];omega)⟩⟩
  ·exact ⟨v3',.inr ⟨wrap e,m,p,by rw [ce] at hm;exact hm,by rw [Bg] at hp;exact hp,h0⟩⟩
 obtain ⟨ρ',h⟩:=jM (bnd:=ao 2) (b:=cq) (fun m ρ=>∃ v2 v3,ρ=[some (X,f),some (Pd z,.z),v2,v3]/\∀ i j p q,i < j->j < m->ps[i]?=some p->ps[j]?=some q->aZ p q z ≠ 0)
   (fun m r fl ρ=>r=.bl false/\fl=.z/\∃ v2 v3,ρ=[some (X,f),some (Pd z,.z),v2,v3]/\∃ (i j:Nat) (p q:Pt),i < j/\ps[i]?=some p/\ps[j]?=some q/\aZ p q z=0)
   (ds:=bx 0 ps.length) (ρ:=[some (X,f),some (Pd z,.z),none,none]) (k:=0) ⟨_,_,rfl,fun i j p q _ h=>absurd h (Nat.not_lt_zero _)⟩ (by
    rintro m d ρ hd ⟨v2,v3,rfl,hn⟩
    obtain ⟨hm,rfl⟩:=dX hd
    have hq:ps[m]?=some (ps[m]'(by omega)):=AY _
    generalize (ps[m]'(by omega))=q at hq
    obtain ⟨v3',h⟩:=inner m q v3 hq
    rcases h with ⟨e,h⟩ | ⟨e,j,p,hj,hp,h0⟩
    ·refine ⟨_,_,rfl,.inl ⟨.inl e,_,_,rfl,fun i j p q' hij hj hi hj'=>?_⟩⟩
     by_cases ej:j=m
     ·subst ej;rw [hq] at hj';cases hj';exact h i p hij hi
     ·exact hn i j p q' hij (by omega) hi hj'
    ·exact ⟨_,_,rfl,.inr ⟨.bl false,.z,e,rfl,rfl,_,_,rfl,j,m,p,q,hj,hp,hq,h0⟩⟩)
 have hr:bQ [.int (ps.length:Int)]=some (bx 0 ps.length):=dR (by omega) (by omega)
 have hf:∀ {o:Except L3.D Flw} {ρ2:Sto},dA (ao 2) cq (bx 0 ps.length) [some (X,f),some (Pd z,.z),none,none]=some (o,ρ2)->ci (aT bQ (ab (aG d6 (ab (ac 0) ah)) ah)) (ao 2) cq [some (X,f),some (Pd z,.z),none,none]=some (o,ρ2):=fun e=>by
  apply fA
  ·exact d7 (bJ (fQ (bJ (bf rfl) eE) rfl hlen) eE) rfl hr
  ·rfl
  ·exact e
 rcases h with ⟨e,v2,v3,rfl,h⟩ | ⟨m,r,fl,hm,e,rfl,rfl,v2,v3,rfl,hx⟩
 ·refine ⟨true,v2,v3,?_,fun _ i j p q hij hi hj=>h i j p q hij ?_ hi hj,fun h=>by cases h⟩
  ·apply aq
   ·exact hf e
   ·(repeat' (first | infer_instance | eq_refl))
  ·have:=(A3.mp hj).1
   rw [ce];omega
 ·refine ⟨false,v2,v3,?_,fun h=>(by cases h),fun _=>hx⟩
  apply jf
  exact hf e
theorem uS (ps:List Pt) (z:Pt) (hs:∀ p ∈ ps,Small p) (hl:ps.length<=24):∃ b:Bool,fD [(.lst (ps.map Pd),.u),(Pd z,.z)]=some (.ok (.bl b,.z),[(.lst (ps.map Pd),.u),(Pd z,.z)])/\(b=true->rm ps z)/\(b=false->∃ (i j:Nat) (p q:Pt),i < j/\ps[i]?=some p/\ps[j]?=some q/\aZ p q z=0):=by
 obtain ⟨b,v2,v3,e,h1,h2⟩:=mR ps z hs hl (X:=.lst (ps.map Pd)) (f:=.u) (by simp [c1,vM]) (fun i p h=>rp (wB h))
 refine ⟨b,?_,h1,h2⟩
 apply bg (ρ:=[some (.lst (ps.map Pd),.u),some (Pd z,.z),none,none]) rfl rfl
 ·exact e
 ·rfl
theorem sS (ps:List Pt) (z:Pt) (hs:∀ p ∈ ps,Small p) (hl:ps.length<=24):∃ b:Bool,fD [(.tup (ps.map Pd),.z),(Pd z,.z)]=some (.ok (.bl b,.z),[(.tup (ps.map Pd),.z),(Pd z,.z)])/\(b=true->rm ps z)/\(b=false->∃ (i j:Nat) (p q:Pt),i < j/\ps[i]?=some p/\ps[j]?=some q/\aZ p q z=0):=by
 obtain ⟨b,v2,v3,e,h1,h2⟩:=mR ps z hs hl (X:=.tup (ps.map Pd)) (f:=.z) (by simp [c1,vM]) (fun i p h=>en (wB h))
 refine ⟨b,?_,h1,h2⟩
 apply bg (ρ:=[some (.tup (ps.map Pd),.z),some (Pd z,.z),none,none]) rfl rfl
 ·exact e
 ·rfl
noncomputable abbrev eG (n most many kd x:Int) (ps:List Pt) (v6 v7 v8:Option (L3.D × Fl)):Sto:=[some (.lst [.int n],.u),some (.int most,.z),some (.int many,.z),some (.int kd,.z),some (.int x,.z),some (.lst (ps.map Pd),.u),v6,v7,v8]
theorem m6 (ps:List Pt) (x y:Int) (hl:ps.length<=12):above ps x y<=144:=by
 have h1:=wH ps x y
 have h2:ps.length * ps.length<=12 * 12:=Nat.mul_le_mul hl hl
 omega
set_option tactic.hygienic true in
theorem qi {n most many kd x y0:Int} {ps:List Pt} {v6 v7:Option (L3.D × Fl)} (R:Rising ps) (hs:∀ p ∈ ps,Small p) (hl:ps.length<=12) :
  ∃ y,fc df eP (eG n most many kd x ps v6 v7 (some (.int y0,.z)))=some (.ok .nx,eG n most many kd x ps v6 v7 (some (.int y,.z)))/\rm ps (x,y)/\y0<=y/\y<=y0+144:=by
 have ablt:=m6 ps x y0 hl
 obtain ⟨ρ',e,y,rfl,hf,h1,h2⟩:=jQ (c:=df) (b:=eP) (fun m ρ=>∃ y:Int,ρ=eG n most many kd x ps v6 v7 (some (.int y,.z))/\m=above ps x y/\y0<=y/\y+(above ps x y:Int)<=y0+(above ps x y0:Int))
  (fun ρ=>∃ y:Int,ρ=eG n most many kd x ps v6 v7 (some (.int y,.z))/\rm ps (x,y)/\y0<=y/\y<=y0+144) (ρ:=eG n most many kd x ps v6 v7 (some (.int y0,.z))) ⟨y0,rfl,rfl,Int.le_refl _,Int.le_refl _⟩ (by
   rintro m ρ ⟨y,rfl,rfl,h1,h2⟩
   obtain ⟨b,eb,ht,hf⟩:=uS ps (x,y) hs (by omega)
   have et:df (eG n most many kd x ps v6 v7 (some (.int y,.z)))=some (.ok (!b),eG n most many kd x ps v6 v7 (some (.int y,.z))):=by
    unfold df
    (repeat' (first | infer_instance | with_reducible apply aC (eb) | eq_refl))
   cases b with
   | true=>exact .inl ⟨_,et,y,rfl,ht rfl,h1,by omega⟩
   | false =>
    obtain ⟨i,j,p,q,hij,e1,e2,h0⟩:=hf rfl
    have hlt:=p8 R hij e1 e2 h0
    exact .inr ⟨_,eG n most many kd x ps v6 v7 (some (.int (y+1),.z)),_,et,.inl (by unfold eP;(repeat' (first | infer_instance | eq_refl))),hlt,y+1,rfl,rfl,by omega,by omega⟩)
 exact ⟨y,e,hf,h1,h2⟩
theorem sq_le {x:Int} (h0:-40<=x) (h1:x<=40):0<=x * x/\x * x<=1600:=by
 have a:x * x=(x.natAbs * x.natAbs:Nat):=by rw [Int.natCast_mul];exact (Int.natAbs_mul_self' x).symm
 have b:x.natAbs * x.natAbs<=40 * 40:=Nat.mul_le_mul (by omega) (by omega)
 omega
theorem yC {x k:Int}:∃ b:Int,aw (.lst [.int (x * x),.int (0 - x * x)]) (.int (k % 2))=some (.int b,.z)/\(b=x * x\/b=0 - x * x):=by
 rcases Int.emod_two_eq k with e | e
 ·rw [e];exact ⟨_,rfl,.inl rfl⟩
 ·rw [e];exact ⟨_,rfl,.inr rfl⟩
theorem y_at {a b c d e kd:Int} (h0:0<=kd) (h1:kd < 5):∃ y:Int,aw (.lst [.int a,.int b,.int c,.int d,.int e]) (.int kd)=some (.int y,.z)/\(y=a\/y=b\/y=c\/y=d\/y=e):=by
 obtain ⟨j,rfl⟩:∃ j:Nat,kd=(j:Int):=⟨kd.toNat,by omega⟩
 match j,h1 with
 | 0,_=>exact ⟨_,rfl,.inl rfl⟩
 | 1,_=>exact ⟨_,rfl,.inr (.inl rfl)⟩
 | 2,_=>exact ⟨_,rfl,.inr (.inr (.inl rfl))⟩
 | 3,_=>exact ⟨_,rfl,.inr (.inr (.inr (.inl rfl)))⟩
 | 4,_=>exact ⟨_,rfl,.inr (.inr (.inr (.inr rfl)))⟩
 | j+5,h=>exact absurd h (by omega)
set_option tactic.hygienic true in
theorem uN {n most many kd x k:Int} {ps:List Pt} {v7 v8:Option (L3.D × Fl)} (R:Rising ps) (hs:∀ p ∈ ps,Small p) (hl:ps.length<=12) (k0:0<=kd) (k1:kd < 5) (x0:-9<=x) (x1:x<=36) :
  ∃ (n' d y:Int) (v7' v8':Option (L3.D × Fl)),eO (eG n most many kd x ps (some (.int k,.z)) v7 v8)=some (.ok .nx,eG n' most many kd (x+1+d) (ps ++ [(x+1+d,y)]) (some (.int k,.z)) v7' v8')/\0<=d/\d < 3/\rm ps (x+1+d,y)/\-2000<=y/\y<=2000:=by
 have d0:=dB n 3 (by decide)
 have a0:=dB (n / 3) 40 (by decide)
 have c0:=dB (n / 3 / 40) 6 (by decide)
 have t:=fe
 generalize hX:x+1+n % 3=X at *
 have sq:=sq_le (x:=X) (by omega) (by omega)
 obtain ⟨bt,hb,hb2⟩:=yC (x:=X) (k:=k)
 obtain ⟨y0,hy,hy2⟩:=y_at (a:=n / 3 % 40) (b:=X * X) (c:=9 - X * X) (d:=bt) (e:=n / 3 / 40 % 6) k0 k1
 have hm:-18446744073709551616 < X/\X < 18446744073709551616:=by omega
 obtain ⟨y,ew,hf,h1,h2⟩:=qi (n:=n / 3 / 40 / 6) (most:=most) (many:=many) (kd:=kd) (x:=X) (y0:=y0) (ps:=ps) (v6:=some (.int k,.z)) (v7:=some (.int bt,.z)) R hs hl
 have yb:-1700<=y0/\y0<=1700:=by
  rcases hb2 with e | e <;> rcases hy2 with e2 | e2 | e2 | e2 | e2 <;> omega
 refine ⟨n / 3 / 40 / 6,n % 3,y,some (.int bt,.z),some (.int y,.z),?_,d0.1,d0.2,by rw [hX];exact hf,by omega,by omega⟩
 rw [hX]
 have m3:(ps.map Pd).length < 16777216:=by simp;omega
 have ha:=wE (d:=Pd (X,y)) m3
 rw [show ps.map Pd ++ [Pd (X,y)]=(ps ++ [(X,y)]).map Pd by simp] at ha
 apply aq (ρ1:=eG (n / 3) most many kd X ps (some (.int k,.z)) v7 v8)
 ·rw [<- hX]
  (repeat' (first | infer_instance | with_reducible apply aC (t _ _ (by decide)) | eq_refl))
 apply aq (ρ1:=eG (n / 3) most many kd X ps (some (.int k,.z)) (some (.int bt,.z)) v8)
 ·(repeat' (first | infer_instance | exact hb | exact jE hm | eq_refl))
 apply aq (ρ1:=eG (n / 3 / 40 / 6) most many kd X ps (some (.int k,.z)) (some (.int bt,.z)) (some (.int y0,.z)))
 ·(repeat' (first | infer_instance | with_reducible apply aC (t _ _ (by decide)) | exact hy | exact jE hm | eq_refl))
 apply aq
 ·exact ew
 ·(repeat' (first | infer_instance | exact ha | eq_refl))
set_option tactic.hygienic true in
theorem uQ {n most many kd x:Int} (hm:0<=many/\many<=12) (k0:0<=kd) (k1:kd < 5) (x0:-8<=x) (x1:x<=0) :
  ∃ (n' x':Int) (ps:List Pt) (v6 v7 v8:Option (L3.D × Fl)),ci (aT bQ (ab (ac 2) ah)) (ao 6) eO (eG n most many kd x [] none none none)=some (.ok .nx,eG n' most many kd x' ps v6 v7 v8)/\(ps.length:Int)=many/\Rising ps/\NoLine ps/\(∀ q ∈ ps,-9<=q.1/\q.1<=100/\-2000<=q.2/\q.2<=2000):=by
 obtain ⟨ρ',e,n',x',ps,v6,v7,v8,rfl,hl,ris,nl,bnd,h1,h2⟩:=cG (bnd:=ao 6) (b:=eO) (fun i ρ=>∃ (n x:Int) (ps:List Pt) (v6 v7 v8:Option (L3.D × Fl)),ρ=eG n most many kd x ps v6 v7 v8/\ps.length=i/\Rising ps/\NoLine ps/\(∀ q ∈ ps,q.1<=x/\-9<=q.1/\-2000<=q.2/\q.2<=2000)/\-8<=x/\x<=3 * (i:Int))
  (ds:=bx 0 many.toNat) (ρ:=eG n most many kd x [] none none none) (k:=0) ⟨n,x,[],none,none,none,rfl,rfl,fun _ _ _ _ _ e _=>by simp at e,fun _ _ _ _ _ _ _ _ e _ _=>by simp at e,fun _ e=>by simp at e,by omega,by omega⟩ (by
   rintro i d ρ hd ⟨n,x,ps,v6,v7,v8,rfl,hl,ris,nl,bnd,h1,h2⟩
   obtain ⟨hi,rfl⟩:=dX hd
   have smp:∀ q ∈ ps,Small q:=fun q hq=>by
    obtain ⟨a1,a2,a3,a4⟩:=bnd q hq
    exact ⟨by omega,by omega,by omega,by omega⟩
   obtain ⟨n',dd,y,v7',v8',e,d0,d1,fr,y0,y1⟩:=uN (n:=n) (most:=most) (many:=many) (kd:=kd) (x:=x) (k:=0+(i:Int)) (ps:=ps) (v7:=v7) (v8:=v8) ris smp (by omega) k0 k1 (by omega) (by omega)
   refine ⟨_,_,rfl,.inl e,n',x+1+dd,ps ++ [(x+1+dd,y)],_,_,_,rfl,by simp;omega,ris.snoc fun q hq=>?_,nl.snoc fr,fun q hq=>?_,by omega,by omega⟩
   ·show q.1 < x+1+dd
    have:=(bnd q hq).1
    omega
   ·rcases A0.mp hq with hq | hq
    ·obtain ⟨a1,a2,a3,a4⟩:=bnd q hq
     exact ⟨by omega,by omega,by omega,by omega⟩
    ·have e:q=(x+1+dd,y):=by simpa using hq
     subst e
     exact ⟨Int.le_refl _,by show -9<=x+1+dd;omega,by show -2000<=y;omega,by show y<=2000;omega⟩)
 rw [ce] at hl h2
 have hr:bQ [.int many]=some (bx 0 many.toNat):=dR (by omega) rfl
 refine ⟨n',x',ps,v6,v7,v8,?_,by omega,ris,nl,fun q hq=>?_⟩
 ·apply fA
  ·(repeat' (first | with_reducible apply d7 (h3:=hr) | infer_instance | eq_refl))
  ·rfl
  ·exact e
 ·obtain ⟨a1,a2,a3,a4⟩:=bnd q hq
  exact ⟨by omega,by omega,by omega,by omega⟩
noncomputable def cO (p:Pt):Pt:=(p.1 * 1000000000000,p.2 * 1000000000000000+7)
theorem pY (p q r:Pt):aZ (cO p) (cO q) (cO r)=1000000000000000000000000000 * aZ p q r:=by
 unfold aZ cO
 dsimp only
 have e1:q.1 * 1000000000000 - p.1 * 1000000000000=(q.1 - p.1) * 1000000000000:=by omega
 have e2:r.1 * 1000000000000 - p.1 * 1000000000000=(r.1 - p.1) * 1000000000000:=by omega
 have e3:r.2 * 1000000000000000+7 - (p.2 * 1000000000000000+7)=(r.2 - p.2) * 1000000000000000:=by omega
 have e4:q.2 * 1000000000000000+7 - (p.2 * 1000000000000000+7)=(q.2 - p.2) * 1000000000000000:=by omega
 rw [e1,e2,e3,e4]
 generalize q.1 - p.1=a
 generalize r.2 - p.2=b
 generalize q.2 - p.2=c
 generalize r.1 - p.1=d
 have h:∀ a b:Int,a * 1000000000000 * (b * 1000000000000000)=1000000000000000000000000000 * (a * b):=fun a b=>by
  rw [Int.mul_assoc,Int.mul_left_comm 1000000000000 b,<- Int.mul_assoc,show (1000000000000:Int) * 1000000000000000=1000000000000000000000000000 from rfl,Int.mul_comm]
 rw [h,Int.mul_comm (c * 1000000000000000),h,Int.mul_comm d c,<- Int.mul_sub]
theorem qo {ps:List Pt} (R:Rising ps):Rising (ps.map cO):=fun i j p q hij h1 h2=>by
 rw [A7] at h1 h2
 obtain ⟨p',e1,rfl⟩:=AU.mp h1
 obtain ⟨q',e2,rfl⟩:=AU.mp h2
 have:=R i j p' q' hij e1 e2
 show p'.1 * 1000000000000 < q'.1 * 1000000000000
 omega
theorem qB {ps:List Pt} (N:NoLine ps):NoLine (ps.map cO):=fun i j k p q r hij hjk h1 h2 h3=>by
 rw [A7] at h1 h2 h3
 obtain ⟨p',e1,rfl⟩:=AU.mp h1
 obtain ⟨q',e2,rfl⟩:=AU.mp h2
 obtain ⟨r',e3,rfl⟩:=AU.mp h3
 rw [pY]
 exact Int.mul_ne_zero (by decide) (N i j k p' q' r' hij hjk e1 e2 e3)
theorem pow12:qu (.int 10) (.int 12)=some (.int 1000000000000,.z):=rfl
theorem pow15:qu (.int 10) (.int 15)=some (.int 1000000000000000,.z):=rfl
set_option tactic.hygienic true in
theorem sQ (ps:List Pt) (hl:ps.length<=24) {n most many kd x:Int} {v6 v7 v8:Option (L3.D × Fl)}:aW 5 eM (eG n most many kd x ps v6 v7 v8)=some (.ok .nx,eG n most many kd x (ps.map cO) v6 v7 v8):=by
 obtain ⟨τ',e,a,b,rfl⟩:=bY (bnd:=mf 2 (cw (ao 0) (cw (ao 1) mh))) (c:=dD) (elt:=gF) (fun τ=>∃ a b,τ=[a,b]) Pd (fun _=>true) (fun p=>Pd (cO p)) (xs:=ps) (τ:=[none,none]) ⟨none,none,rfl⟩ (by
  rintro p hp τ ⟨a,b,rfl⟩
  exact ⟨[some (.int p.1,.z),some (.int p.2,.z)],_,rfl,rfl,(fun h=>by cases h),fun _=>⟨.val (Pd (cO p)) .z,[some (.int p.1,.z),some (.int p.2,.z)],(Pd (cO p),.z),_,by unfold gF;(repeat' (first | infer_instance | exact pow12 | exact pow15 | exact vC (by decide) | eq_refl)),rfl,rfl,_,_,rfl⟩⟩)
 rw [By.mpr (fun _ _=>rfl)] at e
 have e2:eM (eG n most many kd x ps v6 v7 v8)=some (.ok (.val (.lst (ps.map fun p=>Pd (cO p))) .u),eG n most many kd x ps v6 v7 v8):=bp (rs:=[.pl 5]) (ρ1:=eG n most many kd x ps v6 v7 v8) (ρ2:=[some (.lst [.int n],.u),some (.int most,.z),some (.int many,.z),some (.int kd,.z),some (.int x,.z),some (.lst (ps.map Pd),.l),v6,v7,v8]) rfl e (by simp;omega) rfl
 rw [show (ps.map fun p=>Pd (cO p))=(ps.map cO).map Pd by simp] at e2
 exact mQ e2 rfl (Nat.le_of_ble_eq_true rfl) rfl
set_option tactic.hygienic true in
theorem sP (n most:Int) (h1:1<=most) (h2:most<=12):∃ (n':Int) (ps:List Pt),iT [(.lst [.int n],.u),(.int most,.z)]=some (.ok (.tup (ps.map Pd),.z),[(.lst [.int n'],.u),(.int most,.z)])/\GoodSh ps/\(ps.length:Int)<=most/\∀ q ∈ ps,(-(2 ^ 61) < q.2/\q.2 < 2 ^ 61)/\-(2 ^ 50) < q.1/\q.1 < 2 ^ 50:=by
 have t:=fe
 have a0:=dB n most (by omega)
 have b0:=dB (n / most) 5 (by decide)
 have x9:=dB (n / most / 5) 9 (by decide)
 obtain ⟨n',x',ps,v6,v7,v8,e,hl,ris,nln,bnd⟩:=uQ (n:=n / most / 5 / 9) (most:=most) (many:=1+n % most) (kd:=n / most % 5) (x:=0 - n / most / 5 % 9) ⟨by omega,by omega⟩ b0.1 b0.2 (by omega) (by omega)
 have good:GoodSh ps:=⟨by omega,by omega,fun q hq=>by
  obtain ⟨a1,a2,a3,a4⟩:=bnd q hq
  exact ⟨by omega,by omega,by omega,by omega⟩,ris,nln⟩
 have goodS:GoodSh (ps.map cO):=⟨by simpa using good.pos,by simpa using good.most,fun q hq=>by
  obtain ⟨r,hr,rfl⟩:=A6.mp hq
  obtain ⟨a1,a2,a3,a4⟩:=bnd r hr
  exact ⟨by show -(2 ^ 62) < r.1 * 1000000000000;omega,by show r.1 * 1000000000000 < 2 ^ 62;omega,by show -(2 ^ 62) < r.2 * 1000000000000000+7;omega,by show r.2 * 1000000000000000+7 < 2 ^ 62;omega⟩,qo ris,qB nln⟩
 have pre:∀ {r:Option (Except L3.D Flw × Sto)},aK (sIf (cB (aj eqX (aA aV (ab (ac 0) (ab (mC (.int 6)) ah))) (mC (.int 5)))) (aW 5 eM) fF) (bv 2 (aG m9 (ab (ac 5) ah))) (eG n' most (1+n % most) (n / most % 5) x' ps v6 v7 v8)=r->mL [some (.lst [.int n],.u),some (.int most,.z),none,none,none,none,none,none,none]=r:=by
  intro r hr
  apply aq (ρ1:=[some (.lst [.int (n / most)],.u),some (.int most,.z),some (.int (1+n % most),.z),none,none,none,none,none,none])
  ·(repeat' (first | infer_instance | with_reducible apply aC (t n most (by omega)) | eq_refl))
  apply aq (ρ1:=[some (.lst [.int (n / most / 5)],.u),some (.int most,.z),some (.int (1+n % most),.z),some (.int (n / most % 5),.z),none,none,none,none,none])
  ·(repeat' (first | infer_instance | with_reducible apply aC (t _ _ (by decide)) | eq_refl))
  apply aq (ρ1:=[some (.lst [.int (n / most / 5 / 9)],.u),some (.int most,.z),some (.int (1+n % most),.z),some (.int (n / most % 5),.z),some (.int (0 - n / most / 5 % 9),.z),none,none,none,none])
  ·(repeat' (first | infer_instance | with_reducible apply aC (t _ _ (by decide)) | eq_refl))
  apply aq (ρ1:=eG (n / most / 5 / 9) most (1+n % most) (n / most % 5) (0 - n / most / 5 % 9) [] none none none)
  ·(repeat' (first | infer_instance | eq_refl))
  exact aq e hr
 by_cases h5:n' % 6=5
 ·refine ⟨n' / 6,ps.map cO,?_,goodS,by rw [A2];omega,fun q hq=>?_⟩
  ·apply bg (ρ:=[some (.lst [.int n],.u),some (.int most,.z),none,none,none,none,none,none,none]) rfl rfl
   ·apply pre
    apply aq
    ·apply jL
     ·(repeat' (first | infer_instance | with_reducible apply aC (t _ _ (by decide)) | eq_refl))
     ·exact Bd h5
     ·exact sQ ps (by omega)
    ·(repeat' (first | infer_instance | eq_refl))
   ·rfl
  ·obtain ⟨r,hr,rfl⟩:=A6.mp hq
   obtain ⟨a1,a2,a3,a4⟩:=bnd r hr
   exact ⟨⟨by show -(2 ^ 61) < r.2 * 1000000000000000+7;omega,by show r.2 * 1000000000000000+7 < 2 ^ 61;omega⟩,by show -(2 ^ 50) < r.1 * 1000000000000;omega,by show r.1 * 1000000000000 < 2 ^ 50;omega⟩
 ·refine ⟨n' / 6,ps,?_,good,by omega,fun q hq=>?_⟩
  ·apply bg (ρ:=[some (.lst [.int n],.u),some (.int most,.z),none,none,none,none,none,none,none]) rfl rfl
   ·apply pre
    apply aq
    ·apply dI
     ·(repeat' (first | infer_instance | with_reducible apply aC (t _ _ (by decide)) | eq_refl))
     ·exact Be h5
     ·rfl
    ·(repeat' (first | infer_instance | eq_refl))
   ·rfl
  ·obtain ⟨a1,a2,a3,a4⟩:=bnd q hq
   exact ⟨⟨by omega,by omega⟩,by omega,by omega⟩
noncomputable def tp (ps:List Pt) (t:Tri):Int:=eC (gg ps t.1) (gg ps t.2.1) (gg ps t.2.2)
set_option tactic.hygienic true in
theorem lf (n:Nat) (hn:n<=25):cx [(.int n,.z)]=some (.ok (.lst ((aD n).map Td),.u),[(.int n,.z)]):=by
 obtain ⟨v2,v3,e⟩:=mr (n:=n) hn (b1:=fX) (b2:=i7) rfl (by
  intro i j xs hj hx
  have c:=oF (n:=n) (i:=i) (j:=j) xs hn hj fW (fun a b c=>by unfold fW;(repeat' (first | infer_instance | eq_refl)))
  have hl:xs.length+((jT i j (n - (j+1))).map Td).length<=16777216:=by
   rw [A2,lh];omega
  unfold fX i6
  exact mQ (d8 (bf rfl) c rfl rfl (nY hl)) rfl (Nat.le_of_ble_eq_true rfl) rfl)
 apply bg (ρ:=[some (.int n,.z),none,none,none]) rfl rfl
 ·apply aq
  ·(repeat' (first | infer_instance | eq_refl))
  ·apply aq
   ·exact e
   ·(repeat' (first | infer_instance | eq_refl))
 ·rfl
theorem eZ {n:Nat} (hn:n<=25):(aD n).length<=15625:=lj hn hn
theorem zE {b:Int}:aw (.lst [.int (-1),.int 1]) (.int (if decide (0 < b)=true then 1 else 0))=some (.int (if 0 < b then 1 else -1),.z):=by
 by_cases h:0 < b
 ·simp only [h,decide_true,if_true];rfl
 ·simp only [h,decide_false,Bq,if_false];rfl
set_option tactic.hygienic true in
theorem xc {S:List L3.D} {xs:List L3.D} {i j k:Int} {p q r:Pt} (a1:aw (.tup S) (.int i)=some (Pd p,.z)) (a2:aw (.tup S) (.int j)=some (Pd q,.z)) (a3:aw (.tup S) (.int k)=some (Pd r,.z)) (hp:Small p) (hq:Small q) (hx:xs.length < 16777216):eL [some (.tup S,.z),some (.lst xs,.u),some (.int i,.z),some (.int j,.z),some (.int k,.z)]=some (.ok .nx,[some (.tup S,.z),some (.lst (xs ++ [.int (eC p q r)]),.u),some (.int i,.z),some (.int j,.z),some (.int k,.z)]):=by
 have b:=oO p q r (Small.sub hp hq).1 (Small.sub hp hq).2
 have ha:=wE (A:=xs) (d:=.int (eC p q r)) hx
 have hs:=zE (b:=aZ p q r)
 unfold eL
 apply vS
 apply yZ
 ·rfl
 ·rfl
 ·apply bJ
  ·apply d8 (h5:=hs)
   ·(repeat' (first | infer_instance | eq_refl))
   ·(repeat' (first | infer_instance | with_reducible apply aC (b) | exact a1 | exact a2 | exact a3 | eq_refl))
   ·rfl
   ·rfl
  ·exact eE
 ·rfl
 ·rfl
 ·exact ha
 ·rfl
set_option tactic.hygienic true in
theorem sO (ps:List Pt) (hl:ps.length<=24) (hs:∀ p ∈ ps,Small p):gr [(Shd ps,.z)]=some (.ok (.tup ((aD ps.length).map fun t=>.int (tp ps t)),.z),[(Shd ps,.z)]):=by
 have ht:=lf ps.length (by omega)
 rw [show (ps.length:Int)=((ps.map Pd).length:Int) by rw [A2]] at ht
 have sm:=eZ (n:=ps.length) (by omega)
 obtain ⟨ρ',e,v2,v3,v4,rfl⟩:=cG (bnd:=mf 3 (cw (ao 2) (cw (ao 3) (cw (ao 4) mh)))) (b:=eL) (fun m ρ=>∃ v2 v3 v4,ρ=[some (Shd ps,.z),some (.lst (((aD ps.length).take m).map fun t=>.int (tp ps t)),.u),v2,v3,v4]) (ds:=(aD ps.length).map Td) (ρ:=[some (Shd ps,.z),some (.lst [],.u),none,none,none]) (k:=0) ⟨none,none,none,rfl⟩ (by
  rintro m d ρ hd ⟨v2,v3,v4,rfl⟩
  rw [A7,AU] at hd
  obtain ⟨t,ht,rfl⟩:=hd
  obtain ⟨m1,m2,m3⟩:=gh (A4 ht)
  have q1:=c9 (ps:=ps) (i:=t.1) (by omega)
  have q2:=c9 (ps:=ps) (i:=t.2.1) (by omega)
  have q3:=c9 (ps:=ps) (i:=t.2.2) (by omega)
  have b:=xc (xs:=((aD ps.length).take (0+m)).map fun t=>L3.D.int (tp ps t)) (en (wB q1)) (en (wB q2)) (en (wB q3)) (hs _ (A4 q1)) (hs _ (A4 q2)) (by rw [A2,Bk];omega)
  have e3:((aD ps.length).take (0+m)).map (fun t=>L3.D.int (tp ps t)) ++ [.int (eC (gg ps t.1) (gg ps t.2.1) (gg ps t.2.2))]=((aD ps.length).take (0+m+1)).map fun t=>.int (tp ps t):=by
   rw [List.take_succ,Bg,ht]
   simp [tp]
  rw [e3] at b
  exact ⟨_,_,rfl,.inl b,_,_,_,rfl⟩)
 rw [A2,Bg,List.take_length] at e
 apply bg (ρ:=[some (Shd ps,.z),none,none,none,none]) rfl rfl
 ·apply aq
  ·(repeat' (first | infer_instance | eq_refl))
  apply aq
  ·apply fA
   ·(repeat' (first | infer_instance | with_reducible apply aC (ht) | eq_refl))
   ·rfl
   ·exact e
  ·(repeat' (first | infer_instance | eq_refl))
 ·rfl
set_option tactic.hygienic true in
theorem ld (i:Int):eW [(.int i,.z)]=some (.ok (.bl true,.z),[(.int i,.z)]):=by
 apply bg (ρ:=[some (.int i,.z)]) rfl rfl
 ·(repeat' (first | infer_instance | eq_refl))
 ·rfl
noncomputable abbrev k2 (i j:Nat):List Key:=[.inl (i:Int),.inl (j:Int)]
noncomputable abbrev k3 (i j k:Nat):List Key:=[.inl (i:Int),.inl (j:Int),.inl (k:Int)]
theorem kE {kvs:List (List Key × L3.D)} {i j k:Nat} {d:L3.D} (h:lJ kvs (k3 i j k)=some d):aw (.dt kvs) (.tup [.int i,.int j,.int k])=some (d,.z):=by
 show (lJ kvs (k3 i j k)).map (fun d=>(d,Fl.z))=_
 rw [h];rfl
theorem yt (a b:Int):eqX (.int a) (.int b)=some (.bl (decide (a=b)),.z):=rfl
structure Sg where
 length:Nat
 f:Nat->Nat->Nat->Int
noncomputable def trn (ps:Sg) (i j k:Nat):Int:=ps.f i j k
noncomputable def jc (ps:Sg) (T:List (List Key × L3.D)):Prop:=∀ i j k,i < j->j < k->k < ps.length->lJ T (k3 i j k)=some (.int (trn ps i j k))
theorem mJ {n i j k:Nat} (h1:i < j) (h2:j < k) (h3:k < n):(i,j,k) ∈ aD n:=by
 refine Bz.mpr ⟨i,List.mem_range.mpr (by omega),Bz.mpr ⟨j - (i+1),List.mem_range.mpr (by omega),A6.mpr ⟨k - (j+1),List.mem_range.mpr (by omega),?_⟩⟩⟩
 refine Prod.ext rfl (Prod.ext ?_ ?_) <;> simp <;> omega
theorem Aw {i j k a b c:Nat} (h:k3 i j k=k3 a b c):i=a/\j=b/\k=c:=by
 simp only [k3,List.cons.injEq,Sum.inl.injEq,and_true] at h
 omega
noncomputable def tn (ps:Sg) (t:Tri):Int:=trn ps t.1 t.2.1 t.2.2
noncomputable abbrev kT (t:Tri):List Key:=k3 t.1 t.2.1 t.2.2
theorem qK {t u:Tri} (h:kT t=kT u):t=u:=by
 obtain ⟨h1,h2,h3⟩:=Aw h
 exact Prod.ext h1 (Prod.ext h2 h3)
theorem xw (i j m:Nat):(jT i j m).Nodup:=by
 unfold jT List.Nodup
 rw [List.pairwise_map]
 exact List.pairwise_lt_range.imp fun {a b} h e=>by
  have:=congrArg (fun t:Tri=>t.2.2) e
  simp only at this
  omega
theorem xx (n i m:Nat):(jh n i m).Nodup:=by
 unfold jh List.Nodup
 refine List.pairwise_flatMap.mpr ⟨fun a _=>xw _ _ _,List.pairwise_lt_range.imp fun {a b} h x hx y hy e=>?_⟩
 obtain ⟨u,_,rfl⟩:=A6.mp hx
 obtain ⟨v,_,rfl⟩:=A6.mp hy
 have:=congrArg (fun t:Tri=>t.2.1) e
 simp only at this
 omega
theorem nb (n:Nat):(aD n).Nodup:=by
 unfold aD l6 List.Nodup
 refine List.pairwise_flatMap.mpr ⟨fun a _=>xx _ _ _,List.pairwise_lt_range.imp fun {a b} h x hx y hy e=>?_⟩
 obtain ⟨u,_,hx⟩:=Bz.mp hx
 obtain ⟨u',_,rfl⟩:=A6.mp hx
 obtain ⟨v,_,hy⟩:=Bz.mp hy
 obtain ⟨v',_,rfl⟩:=A6.mp hy
 have:=congrArg (fun t:Tri=>t.1) e
 simp only at this
 omega
theorem jZ:∀ l:List Tri,i9 (l.map Td)=some (l.map kT)
 | []=>rfl
 | t :: l=>by
  have:=jZ l
  rw [Bc,Bc]
  show (match dO [.int t.1,.int t.2.1,.int t.2.2],i9 (l.map Td) with | some k,some ks=>some (k :: ks) | _,_=>none)=_
  rw [this]
  rfl
theorem rY {v:Tri->L3.D}:∀ {l:List Tri} {t:Tri},t ∈ l->lJ ((l.map kT).zip (l.map v)) (kT t)=some (v t)
 | u :: l,t,h=>by
  unfold lJ
  rw [Bc,Bc,List.zip_cons_cons,List.find?_cons]
  by_cases e:kT u=kT t
  ·have:=qK e
   subst this
   simp
  ·have hm:t ∈ l:=by
    rcases AX.mp h with rfl | h
    ·exact absurd rfl e
    ·exact h
   have:=rY (v:=v) hm
   unfold lJ at this
   simp only [e,decide_false]
   exact this
noncomputable def T0 (ps:Sg):List (List Key × L3.D):=((aD ps.length).map kT).zip ((aD ps.length).map fun t=>L3.D.int (tn ps t))
theorem lV (ps:Sg):jc ps (T0 ps):=fun i j k h1 h2 h3=>rY (v:=fun t=>L3.D.int (tn ps t)) (t:=(i,j,k)) (mJ h1 h2 h3)
noncomputable abbrev Fo:=Tri × Nat
noncomputable def Qd (f:Fo):L3.D:=.tup [.int f.1.1,.int f.1.2.1,.int f.1.2.2,.int f.2]
noncomputable def nv (n:Nat) (t:Tri):List Fo:=(List.range (n - (t.2.2+1))).map fun m=>(t,t.2.2+1+m)
noncomputable def frs (n:Nat) (l:List Tri):List Fo:=l.flatMap (nv n)
theorem oU (n:Nat) (t:Tri):(nv n t).length=n - (t.2.2+1):=by simp [nv]
theorem nU {n:Nat}:∀ l:List Tri,(frs n l).length<=n * l.length
 | []=>by simp [frs]
 | t :: l=>by
  have:=nU (n:=n) l
  have h:(frs n (t :: l)).length=(nv n t).length+(frs n l).length:=by simp [frs]
  rw [h,oU,Bj,Nat.mul_succ]
  omega
theorem xX {n:Nat} {f:Fo} (h:f ∈ frs n (aD n)):f.1.1 < f.1.2.1/\f.1.2.1 < f.1.2.2/\f.1.2.2 < f.2/\f.2 < n:=by
 obtain ⟨t,ht,hf⟩:=Bz.mp h
 obtain ⟨m,hm,rfl⟩:=A6.mp hf
 obtain ⟨h1,h2,h3⟩:=gh ht
 have:=List.mem_range.mp hm
 refine ⟨h1,h2,?_,?_⟩
 ·show t.2.2 < t.2.2+1+m
  omega
 ·show t.2.2+1+m < n
  omega
set_option tactic.hygienic true in
theorem tM {n:Nat} (hn:n<=25) {t:Tri} (ht:t ∈ aD n) {xs:List L3.D} (hx:xs.length<=1000000):gH [some (.int n,.z),some (.lst xs,.u),some (Td t,.z)]=some (.ok .nx,[some (.int n,.z),some (.lst (xs ++ (nv n t).map Qd),.u),some (Td t,.z)]):=by
 obtain ⟨h1,h2,h3⟩:=gh ht
 obtain ⟨i,j,k⟩:=t
 dsimp only at h1 h2 h3
 obtain ⟨τ',e,a,rfl⟩:=fB (bnd:=ao 0) (c:=dD) (elt:=jm) (fun τ=>∃ a,τ=[a,some (Td (i,j,k),.z)]) (fun _=>true) (fun d=>.tup [.int i,.int j,.int k,d]) (ds:=bx ((k:Int)+1) (n - (k+1))) (τ:=[none,some (Td (i,j,k),.z)]) ⟨none,rfl⟩ (by
  rintro d hd τ ⟨a,rfl⟩
  have hc:bC (Td (i,j,k)) (.tup [d])=some (.tup [.int i,.int j,.int k,d],.z):=iS (A:=[.int i,.int j,.int k]) (B:=[d]) (by simp)
  exact ⟨[some (d,.z),some (Td (i,j,k),.z)],_,rfl,rfl,(fun h=>by cases h),fun _=>⟨.val (.tup [.int i,.int j,.int k,d]) .z,[some (d,.z),some (Td (i,j,k),.z)],(.tup [.int i,.int j,.int k,d],.z),_,by unfold jm;(repeat' (first | infer_instance | exact hc | eq_refl)),rfl,rfl,_,rfl⟩⟩)
 have e4:((bx ((k:Int)+1) (n - (k+1))).filter fun _=>true).map (fun d=>L3.D.tup [.int i,.int j,.int k,d])=(nv n (i,j,k)).map Qd:=by
  rw [By.mpr (fun _ _=>rfl)]
  simp [bx,nv,Function.comp_def,Qd]
 rw [e4] at e
 have hr:ie [.int ((k:Int)+1),.int n]=some (bx ((k:Int)+1) (n - (k+1))):=kP (by omega) (by omega) (by omega)
 have hk:aw (Td (i,j,k)) (.int 2)=some (.int k,.z):=rfl
 have c:lD [some (.int n,.z),some (.lst xs,.u),some (Td (i,j,k),.z)]=some (.ok (.val (.lst ((nv n (i,j,k)).map Qd)) .u),[some (.int n,.z),some (.lst xs,.u),some (Td (i,j,k),.z)]):=bp (rs:=[]) (by (repeat' (first | with_reducible apply d7 (h3:=hr) | infer_instance | exact hk | eq_refl))) e (by rw [ce];omega) rfl
 have hl:xs.length+((nv n (i,j,k)).map Qd).length<=16777216:=by
  rw [A2,oU];dsimp only;omega
 unfold gH
 (repeat' (first | with_reducible exact c | infer_instance | exact vZ hl | eq_refl))
set_option tactic.hygienic true in
theorem sT (n:Nat) (hn:n<=25):kY [(.int n,.z)]=some (.ok (.lst ((frs n (aD n)).map Qd),.u),[(.int n,.z)]):=by
 have th:=jg n hn
 have sm:=eZ hn
 obtain ⟨ρ',e,v2,rfl⟩:=cG (bnd:=ao 2) (b:=gH) (fun m ρ=>∃ v2,ρ=[some (.int n,.z),some (.lst ((frs n ((aD n).take m)).map Qd),.u),v2]) (ds:=(aD n).map Td) (ρ:=[some (.int n,.z),some (.lst [],.u),none]) (k:=0) ⟨none,rfl⟩ (by
  rintro m d ρ hd ⟨v2,rfl⟩
  rw [A7] at hd
  obtain ⟨t,ht,rfl⟩:=AU.mp hd
  have hm:=A4 ht
  have hx:((frs n ((aD n).take m)).map Qd).length<=1000000:=by
   rw [A2]
   have h1:=nU (n:=n) ((aD n).take m)
   have h2:((aD n).take m).length<=15625:=by rw [Bk];omega
   have h3:n * ((aD n).take m).length<=25 * 15625:=Nat.mul_le_mul hn h2
   omega
  rw [Bg]
  refine ⟨_,_,rfl,.inl (tM hn hm hx),some (Td t,.z),?_⟩
  rw [List.take_add_one,ht]
  simp [frs])
 rw [A2,Bg,List.take_length] at *
 apply bg (ρ:=[some (.int n,.z),none,none]) rfl rfl
 ·apply aq
  ·(repeat' (first | infer_instance | eq_refl))
  ·apply aq
   ·apply fA
    ·(repeat' (first | infer_instance | with_reducible apply aC (th) | eq_refl))
    ·rfl
    ·exact e
   ·(repeat' (first | infer_instance | eq_refl))
 ·rfl
theorem qv {b B s:Int} (hb:0 < b) (e:b * B=s) (hs:0 < s):0 < B:=by
 rcases Int.lt_or_le 0 B with h | h
 ·exact h
 ·have:=Int.mul_le_mul_of_nonneg_left h (Int.le_of_lt hb)
  rw [Int.mul_zero] at this
  omega
theorem nF {b B s:Int} (hb:0 < b) (e:b * B=s) (hs:s<=0):¬ 0 < B:=fun h=>by
 have:=Int.mul_pos hb h
 omega
theorem nH {u v A C:Int} (hu:0 < u) (hv:0 < v) (hA:0 < A) (hC:0 < C):0 < u * A+v * C:=by
 have h1:=Int.mul_pos hu hA
 have h2:=Int.mul_pos hv hC
 omega
theorem ly {u v A C:Int} (hu:0 < u) (hv:0 < v) (hA:¬ 0 < A) (hC:¬ 0 < C):u * A+v * C<=0:=by
 have h1:=Int.mul_le_mul_of_nonneg_left (show A<=0 by omega) (Int.le_of_lt hu)
 have h2:=Int.mul_le_mul_of_nonneg_left (show C<=0 by omega) (Int.le_of_lt hv)
 rw [Int.mul_zero] at h1 h2
 omega
theorem quad1 (h i j k:Pt):(j.1 - h.1) * aZ h i k=(k.1 - h.1) * aZ h i j+(i.1 - h.1) * aZ h j k:=by
 simp only [aZ];grind
theorem quad2 (h i j k:Pt):(k.1 - i.1) * aZ h j k=(k.1 - h.1) * aZ i j k+(k.1 - j.1) * aZ h i k:=by
 simp only [aZ];grind
theorem quad3 (h i j k:Pt):(j.1 - i.1) * aZ h i k=(k.1 - i.1) * aZ h i j+(i.1 - h.1) * aZ i j k:=by
 simp only [aZ];grind
noncomputable def chg (a b c d:Int):Nat:=(if a=b then 0 else 1)+(if b=c then 0 else 1)+(if c=d then 0 else 1)
theorem AF {h i j k:Pt} (h1:h.1 < i.1) (h2:i.1 < j.1) (h3:j.1 < k.1):chg (eC h i j) (eC h i k) (eC h j k) (eC i j k)<=1:=by
 have q1:=quad1 h i j k
 have q2:=quad2 h i j k
 have q3:=quad3 h i j k
 have p1:0 < j.1 - h.1:=by omega
 have p2:0 < k.1 - h.1:=by omega
 have p3:0 < i.1 - h.1:=by omega
 have p4:0 < k.1 - i.1:=by omega
 have p5:0 < k.1 - j.1:=by omega
 have p6:0 < j.1 - i.1:=by omega
 unfold eC
 generalize aZ h i j=A at *
 generalize aZ h i k=B at *
 generalize aZ h j k=C at *
 generalize aZ i j k=D at *
 by_cases a:0 < A <;> by_cases b:0 < B <;> by_cases c:0 < C <;> by_cases d:0 < D <;> simp only [a,b,c,d,if_true,if_false] <;> first
  | decide
  | exact absurd (qv p1 q1 (nH p2 p3 a c)) b
  | exact absurd b (nF p1 q1 (ly p2 p3 a c))
  | exact absurd (qv p4 q2 (nH p2 p5 d b)) c
  | exact absurd c (nF p4 q2 (ly p2 p5 d b))
  | exact absurd (qv p6 q3 (nH p4 p3 a d)) b
  | exact absurd b (nF p6 q3 (ly p4 p3 a d))
structure OkS (s:Sg):Prop where
 pos:0 < s.length
 most:s.length<=24
 sgn:∀ i j k,i < j->j < k->k < s.length->s.f i j k=1\/s.f i j k = -1
 chg1:∀ h i j k,h < i->i < j->j < k->k < s.length->chg (trn s h i j) (trn s h i k) (trn s h j k) (trn s i j k)<=1
noncomputable abbrev R4 (a b c d:Int):L3.D:=.lst [.int a,.int b,.int c,.int d]
noncomputable def g4 (a b c d:Int):L3.D->Bool
 | .int i=>if i=0 then !decide (a=b) else if i=1 then !decide (b=c) else !decide (c=d)
 | _=>true
set_option tactic.hygienic true in
theorem c4 {a b c d i x y:Int} (h1:aw (R4 a b c d) (.int i)=some (.int x,.z)) (h2:aw (R4 a b c d) (.int (i+1))=some (.int y,.z)):aO [some (.int i,.z),some (R4 a b c d,.u)]=some (.ok (!decide (x=y)),[some (.int i,.z),some (R4 a b c d,.u)]):=by
 have hn:=nG (i:=x) (j:=y)
 unfold aO
 (repeat' (first | infer_instance | exact h1 | exact h2 | exact hn | eq_refl))
theorem oS (a b c d:Int):∃ out τ',cn (ao 0) aO bm [.int 0,.int 1,.int 2] [none,some (R4 a b c d,.u)]=some (.ok out,τ')/\(∃ v,τ'=[v,some (R4 a b c d,.u)])/\out.length=chg a b c d:=by
 obtain ⟨τ',e,v,rfl⟩:=fB (bnd:=ao 0) (c:=aO) (elt:=bm) (fun τ=>∃ v,τ=[v,some (R4 a b c d,.u)]) (g4 a b c d) (fun d=>d) (ds:=[.int 0,.int 1,.int 2]) (τ:=[none,some (R4 a b c d,.u)]) ⟨none,rfl⟩ (by
  have step:∀ {i x y:Int} (v:Option (L3.D × Fl)),aw (R4 a b c d) (.int i)=some (.int x,.z)->aw (R4 a b c d) (.int (i+1))=some (.int y,.z)->g4 a b c d (.int i) = !decide (x=y)->∃ τ1 τ2,ao 0 (.int i) [v,some (R4 a b c d,.u)]=some τ1/\aO τ1=some (.ok (g4 a b c d (.int i)),τ2)/\(g4 a b c d (.int i)=false->∃ v,τ2=[v,some (R4 a b c d,.u)])/\(g4 a b c d (.int i)=true->∃ r τ3 p τ4,bm τ2=some (.ok r,τ3)/\gP r τ3=some (.ok p,τ4)/\p.1=.int i/\∃ v,τ4=[v,some (R4 a b c d,.u)]):=fun {i x y} v h1 h2 h3 =>
   ⟨[some (.int i,.z),some (R4 a b c d,.u)],[some (.int i,.z),some (R4 a b c d,.u)],rfl,by rw [h3];exact c4 h1 h2,fun _=>⟨_,rfl⟩,fun _=>⟨.pl 0,[some (.int i,.z),some (R4 a b c d,.u)],(.int i,.z),[some (.int i,.z),some (R4 a b c d,.u)],rfl,rfl,rfl,_,rfl⟩⟩
  rintro d' hd τ ⟨v,rfl⟩
  rcases AX.mp hd with rfl | hd
  ·exact step (x:=a) (y:=b) v rfl rfl rfl
  rcases AX.mp hd with rfl | hd
  ·exact step (x:=b) (y:=c) v rfl rfl rfl
  rcases AX.mp hd with rfl | hd
  ·exact step (x:=c) (y:=d) v rfl rfl rfl
  ·cases hd)
 refine ⟨_,_,e,⟨v,rfl⟩,?_⟩
 have k:∀ (x y:Int),(if x=y then 0 else 1:Nat)=bif decide (x=y) then 0 else 1:=fun x y=>by by_cases h:x=y <;> simp [h]
 have g0:g4 a b c d (.int 0) = !decide (a=b):=rfl
 have g1:g4 a b c d (.int 1) = !decide (b=c):=rfl
 have g2:g4 a b c d (.int 2) = !decide (c=d):=rfl
 unfold chg
 rw [k a b,k b c,k c d]
 simp only [A2,List.filter_cons,List.filter_nil,g0,g1,g2]
 generalize decide (a=b)=p
 generalize decide (b=c)=q
 generalize decide (c=d)=r
 cases p <;> cases q <;> cases r <;> rfl
set_option tactic.hygienic true in
theorem qk {ps:Sg} {T:List (List Key × L3.D)} (hT:jc ps T) (g:OkS ps) {f:Fo} (hf:f ∈ frs ps.length (aD ps.length)):bH [(.dt T,.u),(Qd f,.z)]=some (.ok (.bl true,.z),[(.dt T,.u),(Qd f,.z)]):=by
 obtain ⟨h1,h2,h3,h4⟩:=xX hf
 obtain ⟨⟨h,i,j⟩,k⟩:=f
 dsimp only at h1 h2 h3 h4
 have t1:aw (.dt T) (.tup [.int h,.int i,.int j])=some (.int (trn ps h i j),.z):=kE (hT h i j h1 h2 (by omega))
 have t2:aw (.dt T) (.tup [.int h,.int i,.int k])=some (.int (trn ps h i k),.z):=kE (hT h i k h1 (by omega) h4)
 have t3:aw (.dt T) (.tup [.int h,.int j,.int k])=some (.int (trn ps h j k),.z):=kE (hT h j k (by omega) h3 h4)
 have t4:aw (.dt T) (.tup [.int i,.int j,.int k])=some (.int (trn ps i j k),.z):=kE (hT i j k h2 h3 h4)
 have hc:chg (trn ps h i j) (trn ps h i k) (trn ps h j k) (trn ps i j k)<=1:=g.chg1 h i j k h1 h2 h3 h4
 generalize trn ps h i j=a at *
 generalize trn ps h i k=b at *
 generalize trn ps h j k=c at *
 generalize trn ps i j k=d at *
 obtain ⟨out,τ',e,⟨v,rfl⟩,hl⟩:=oS a b c d
 have q0:aw (Qd ((h,i,j),k)) (.int 0)=some (.int h,.z):=rfl
 have q1:aw (Qd ((h,i,j),k)) (.int 1)=some (.int i,.z):=rfl
 have q2:aw (Qd ((h,i,j),k)) (.int 2)=some (.int j,.z):=rfl
 have q3:aw (Qd ((h,i,j),k)) (.int 3)=some (.int k,.z):=rfl
 have hr:bQ [.int 3]=some [.int 0,.int 1,.int 2]:=rfl
 generalize Qd ((h,i,j),k)=Q at *
 generalize L3.D.int (h:Int)=dh at *
 generalize L3.D.int (i:Int)=di at *
 generalize L3.D.int (j:Int)=dj at *
 generalize L3.D.int (k:Int)=dk at *
 have e2:cF [some (.dt T,.u),some (Q,.z),some (dh,.z),some (di,.z),some (dj,.z),some (dk,.z),some (R4 a b c d,.u)]=some (.ok (.val (.lst out) .u),[some (.dt T,.u),some (Q,.z),some (dh,.z),some (di,.z),some (dj,.z),some (dk,.z),some (R4 a b c d,.u)]):=bp (rs:=[]) (by (repeat' (first | with_reducible apply d7 (h3:=hr) | infer_instance | eq_refl))) e (by decide) rfl
 have hle:leI (.int (out.length:Int)) (.int 1)=some (.bl true,.z):=by
  simp [cV];omega
 have l1:aj aw (ac 0) (bc (ab (ac 2) (ab (ac 3) (ab (ac 4) ah)))) [some (.dt T,.u),some (Q,.z),some (dh,.z),some (di,.z),some (dj,.z),some (dk,.z),none]=some (.ok (.val (.int a) .z),[some (.dt T,.u),some (Q,.z),some (dh,.z),some (di,.z),some (dj,.z),some (dk,.z),none]):=by (repeat' (first | infer_instance | exact t1 | eq_refl))
 have l2:aj aw (ac 0) (bc (ab (ac 2) (ab (ac 3) (ab (ac 5) ah)))) [some (.dt T,.u),some (Q,.z),some (dh,.z),some (di,.z),some (dj,.z),some (dk,.z),none]=some (.ok (.val (.int b) .z),[some (.dt T,.u),some (Q,.z),some (dh,.z),some (di,.z),some (dj,.z),some (dk,.z),none]):=by (repeat' (first | infer_instance | exact t2 | eq_refl))
 have l3:aj aw (ac 0) (bc (ab (ac 2) (ab (ac 4) (ab (ac 5) ah)))) [some (.dt T,.u),some (Q,.z),some (dh,.z),some (di,.z),some (dj,.z),some (dk,.z),none]=some (.ok (.val (.int c) .z),[some (.dt T,.u),some (Q,.z),some (dh,.z),some (di,.z),some (dj,.z),some (dk,.z),none]):=by (repeat' (first | infer_instance | exact t3 | eq_refl))
 have l4:aj aw (ac 0) (bc (ab (ac 3) (ab (ac 4) (ab (ac 5) ah)))) [some (.dt T,.u),some (Q,.z),some (dh,.z),some (di,.z),some (dj,.z),some (dk,.z),none]=some (.ok (.val (.int d) .z),[some (.dt T,.u),some (Q,.z),some (dh,.z),some (di,.z),some (dj,.z),some (dk,.z),none]):=by (repeat' (first | infer_instance | exact t4 | eq_refl))
 apply bg (ρ:=[some (.dt T,.u),some (Q,.z),none,none,none,none,none]) rfl rfl
 ·unfold dH
  apply aq (ρ1:=[some (.dt T,.u),some (Q,.z),some (dh,.z),none,none,none,none])
  ·(repeat' (first | infer_instance | exact q0 | eq_refl))
  apply aq (ρ1:=[some (.dt T,.u),some (Q,.z),some (dh,.z),some (di,.z),none,none,none])
  ·(repeat' (first | infer_instance | exact q1 | eq_refl))
  apply aq (ρ1:=[some (.dt T,.u),some (Q,.z),some (dh,.z),some (di,.z),some (dj,.z),none,none])
  ·(repeat' (first | infer_instance | exact q2 | eq_refl))
  apply aq (ρ1:=[some (.dt T,.u),some (Q,.z),some (dh,.z),some (di,.z),some (dj,.z),some (dk,.z),none])
  ·(repeat' (first | infer_instance | exact q3 | eq_refl))
  apply aq (ρ1:=[some (.dt T,.u),some (Q,.z),some (dh,.z),some (di,.z),some (dj,.z),some (dk,.z),some (R4 a b c d,.u)])
  ·(repeat' (first | with_reducible exact l1 | with_reducible exact l2 | with_reducible exact l3 | with_reducible exact l4 | infer_instance | eq_refl))
  ·apply cX
   ·(repeat' (first | with_reducible exact e2 | infer_instance | exact hle | eq_refl))
   ·rfl
 ·rfl
set_option tactic.hygienic true in
theorem rq {ps:Sg} (hn:ps.length<=25):bh [(.int ps.length,.z),(.tup ((aD ps.length).map fun t=>.int (tn ps t)),.z)]=some (.ok (.dt (T0 ps),.u),[(.int ps.length,.z),(.tup ((aD ps.length).map fun t=>.int (tn ps t)),.z)]):=by
 have th:=jg ps.length hn
 have hz:dzD [.lst ((aD ps.length).map Td),.tup ((aD ps.length).map fun t=>.int (tn ps t))]=some (.dt (T0 ps),.u):=by
  show ((i9 ((aD ps.length).map Td)).bind fun ks=>if ks.length=((aD ps.length).map fun t=>L3.D.int (tn ps t)).length/\ks.Nodup then some ((.dt (ks.zip ((aD ps.length).map fun t=>L3.D.int (tn ps t))),.u):L3.D × Fl) else none)=_
  rw [jZ]
  show (if ((aD ps.length).map kT).length=((aD ps.length).map fun t=>L3.D.int (tn ps t)).length/\((aD ps.length).map kT).Nodup then _ else _)=_
  rw [if_pos]
  ·rfl
  refine ⟨by simp,?_⟩
  unfold List.Nodup
  rw [List.pairwise_map]
  exact (nb _).imp fun h e=>h (qK e)
 generalize (aD ps.length).map (fun t=>L3.D.int (tn ps t))=S at *
 generalize T0 ps=T at *
 apply bg (ρ:=[some (.int ps.length,.z),some (.tup S,.z)]) rfl rfl
 ·apply cX
  ·(repeat' (first | infer_instance | with_reducible apply aC (th) | exact hz | eq_refl))
  ·rfl
 ·rfl
set_option tactic.hygienic true in
theorem xn {k lo hi:Int} (h1:lo<=k) (h2:k<=hi):dE [(.int k,.z),(.int lo,.z),(.int hi,.z)]=some (.ok (.non,.z),[(.int k,.z),(.int lo,.z),(.int hi,.z)]):=by
 have l1:leI (.int lo) (.int k)=some (.bl true,.z):=by simp [cV,h1]
 have l2:leI (.int k) (.int hi)=some (.bl true,.z):=by simp [cV,h2]
 have f:=jS k
 apply F_nx (ρ:=[some (.int k,.z),some (.int lo,.z),some (.int hi,.z)]) rfl rfl
 ·apply dI
  ·apply gp (b:=false)
   ·apply dy (b:=true)
    (repeat' (first | infer_instance | with_reducible apply aC (f) | eq_refl))
   ·rfl
   ·exact dy (lH (rW (bf rfl) (bf rfl) rfl rfl l1 (bf rfl) rfl rfl l2) rfl)
  ·rfl
  ·rfl
 ·rfl
set_option tactic.hygienic true in
theorem qj {s:Int} (h:s=1\/s = -1):iU [(.int s,.z)]=some (.ok (.bl true,.z),[(.int s,.z)]):=by
 have f:=jS s
 rcases h with rfl | rfl
 ·apply bg (ρ:=[some (.int 1,.z)]) rfl rfl
  ·apply cX
   ·apply jK (b:=true)
    ·(repeat' (first | infer_instance | with_reducible apply aC (f) | eq_refl))
    ·rfl
    ·rfl
    ·apply Ay (b:=true)
     ·exact d8 (bf rfl) i_c rfl rfl rfl
     ·rfl
     ·rfl
   ·rfl
  ·rfl
 ·apply bg (ρ:=[some (.int (-1),.z)]) rfl rfl
  ·apply cX
   ·apply jK (b:=true)
    ·(repeat' (first | infer_instance | with_reducible apply aC (f) | eq_refl))
    ·rfl
    ·rfl
    ·apply Az (b:=false)
     ·exact d8 (bf rfl) i_c rfl rfl rfl
     ·rfl
     ·rfl
     ·exact d8 (bf rfl) i_c rfl rfl rfl
   ·rfl
  ·rfl
set_option tactic.hygienic true in
theorem xv {ps:Sg} (g:OkS ps):dF [(.int ps.length,.z),(.tup ((aD ps.length).map fun t=>.int (tn ps t)),.z)]=some (.ok (.bl true,.z),[(.int ps.length,.z),(.tup ((aD ps.length).map fun t=>.int (tn ps t)),.z)]):=by
 have hn:ps.length<=25:=by have:=g.most;omega
 have sm:=eZ (n:=ps.length) hn
 have fm:(frs ps.length (aD ps.length)).length < 16777216:=by
  have h1:=nU (n:=ps.length) (aD ps.length)
  have h3:ps.length * (aD ps.length).length<=25 * 15625:=Nat.mul_le_mul hn sm
  omega
 generalize hS:(aD ps.length).map (fun t=>L3.D.int (tn ps t))=S
 have th:=jg ps.length hn
 have fo:=sT ps.length hn
 have hb:=rq hn
 rw [hS] at hb
 have hT:=lV ps
 generalize T0 ps=T at *
 have hlen:neX (.int (S.length:Int)) (.int (((aD ps.length).map Td).length:Int))=some (.bl false,.z):=by
  rw [nG,<- hS];simp
 obtain ⟨τ1,e1,a1,rfl⟩:=fB (bnd:=ao 0) (c:=dD) (elt:=dm) (fun τ=>∃ a,τ=[a]) (fun _=>true) (fun _=>.bl true) (ds:=S) (τ:=[none]) ⟨none,rfl⟩ (by
  rintro d hd τ ⟨a,rfl⟩
  rw [<- hS] at hd
  obtain ⟨t,ht,rfl⟩:=A6.mp hd
  have ht:=gh ht
  have f:=qj (g.sgn t.1 t.2.1 t.2.2 ht.1 ht.2.1 ht.2.2:tn ps t=1\/tn ps t = -1)
  exact ⟨[some (.int (tn ps t),.z)],_,rfl,rfl,(fun h=>by cases h),fun _=>⟨.val (.bl true) .z,[some (.int (tn ps t),.z)],(.bl true,.z),[some (.int (tn ps t),.z)],by unfold dm;(repeat' (first | infer_instance | with_reducible apply aC (f) | eq_refl)),rfl,rfl,_,rfl⟩⟩)
 have a3:=kg (ds:=(S.filter fun _=>true).map fun _=>.bl true) (fun d hd=>by obtain ⟨_,_,rfl⟩:=A6.mp hd;rfl)
 generalize (S.filter fun _=>true).map (fun _=>L3.D.bl true)=o1 at *
 obtain ⟨τ2,e2,a2,rfl⟩:=fB (bnd:=ao 0) (c:=dD) (elt:=dl) (fun τ=>∃ a,τ=[a,some (.dt T,.u)]) (fun _=>true) (fun _=>.bl true) (ds:=(frs ps.length (aD ps.length)).map Qd) (τ:=[none,some (.dt T,.u)]) ⟨none,rfl⟩ (by
  rintro d hd τ ⟨a,rfl⟩
  obtain ⟨q,hq,rfl⟩:=A6.mp hd
  have f:=qk hT g hq
  exact ⟨[some (Qd q,.z),some (.dt T,.u)],_,rfl,rfl,(fun h=>by cases h),fun _=>⟨.val (.bl true) .z,[some (Qd q,.z),some (.dt T,.u)],(.bl true,.z),[some (Qd q,.z),some (.dt T,.u)],by unfold dl;(repeat' (first | infer_instance | with_reducible apply aC (f) | eq_refl)),rfl,rfl,_,rfl⟩⟩)
 have a4:=kg (ds:=(((frs ps.length (aD ps.length)).map Qd).filter fun _=>true).map fun _=>.bl true) (fun d hd=>by obtain ⟨_,_,rfl⟩:=A6.mp hd;rfl)
 generalize (((frs ps.length (aD ps.length)).map Qd).filter fun _=>true).map (fun _=>L3.D.bl true)=o2 at *
 have hSl:S.length < 16777216:=by rw [<- hS,A2];omega
 have c1:fO [some (.int ps.length,.z),some (.tup S,.z),none]=some (.ok (.val (.lst o1) .u),[some (.int ps.length,.z),some (.tup S,.z),none]):=bp (im:=cu (ac 1)) (ix:=[none]) (ρ1:=[some (.int ps.length,.z),some (.tup S,.z),none]) (ρ2:=[some (.int ps.length,.z),some (.tup S,.z),none]) (rs:=[.pl 1]) (by (repeat' (first | infer_instance | eq_refl))) e1 hSl rfl
 have c2:fN [some (.int ps.length,.z),some (.tup S,.z),some (.dt T,.u)]=some (.ok (.val (.lst o2) .u),[some (.int ps.length,.z),some (.tup S,.z),some (.dt T,.u)]):=bp (ρ1:=[some (.int ps.length,.z),some (.tup S,.z),some (.dt T,.u)]) (rs:=[.val (.lst ((frs ps.length (aD ps.length)).map Qd)) .u]) (by (repeat' (first | infer_instance | with_reducible apply aC (fo) | eq_refl))) e2 (by rw [A2];exact fm) rfl
 generalize hN:L3.D.int (ps.length:Int)=N at *
 apply bg (ρ:=[some (N,.z),some (.tup S,.z),none]) rfl rfl
 ·unfold iE
  apply aq (ρ1:=[some (N,.z),some (.tup S,.z),none])
  ·apply dI
   ·apply gp (b:=false)
    ·apply dy (b:=true)
     (repeat' (first | infer_instance | eq_refl))
    ·rfl
    ·apply dy (b:=true)
     (repeat' (first | with_reducible exact c1 | infer_instance | exact a3 | eq_refl))
   ·rfl
   ·rfl
  apply aq (ρ1:=[some (N,.z),some (.tup S,.z),none])
  ·apply dI
   ·(repeat' (first | infer_instance | with_reducible apply aC (th) | exact hlen | eq_refl))
   ·rfl
   ·rfl
  apply aq (ρ1:=[some (N,.z),some (.tup S,.z),some (.dt T,.u)])
  ·(repeat' (first | infer_instance | with_reducible apply aC (hb) | eq_refl))
  ·apply cX
   ·(repeat' (first | with_reducible exact c2 | infer_instance | exact a4 | eq_refl))
   ·rfl
 ·rfl
noncomputable abbrev SgD (s:Sg):List L3.D:=(aD s.length).map fun t=>L3.D.int (tn s t)
set_option tactic.hygienic true in
theorem xt {ps:Sg} (g:OkS ps):dW [(.int ps.length,.z),(.int 24,.z),(.tup (SgD ps),.z)]=some (.ok (.non,.z),[(.int ps.length,.z),(.int 24,.z),(.tup (SgD ps),.z)]):=by
 have f1:=xn (k:=(ps.length:Int)) (lo:=1) (hi:=24) (by have:=g.pos;omega) (by have:=g.most;omega)
 have f2:=xv g
 unfold SgD
 generalize (aD ps.length).map (fun t=>L3.D.int (tn ps t))=S at *
 generalize L3.D.int (ps.length:Int)=N at *
 apply F_nx (ρ:=[some (N,.z),some (.int 24,.z),some (.tup S,.z)]) rfl rfl
 ·unfold i8
  apply aq (ρ1:=[some (N,.z),some (.int 24,.z),some (.tup S,.z)])
  ·(repeat' (first | infer_instance | with_reducible apply aC (f1) | eq_refl))
  ·apply dI
   ·(repeat' (first | infer_instance | with_reducible apply aC (f2) | eq_refl))
   ·rfl
   ·rfl
 ·rfl
theorem vB {d:L3.D} {p:PyData} (hS:eqS d d=none) (h:pyD d=some p) (hc:p.canLay0=true) (hd:p.depth<=30):neX d d=some (.bl false,.z):=by
 have h1:eqA d d=some true:=by
  unfold eqA
  rw [hS]
  exact wb h hc hd
 show (eqA d d).map _=_
 rw [h1];rfl
theorem sj (xs:List L3.D) (a:Nat):slD (.tup xs) none (some (a:Int))=some (.tup (xs.take a),.z):=by
 have e:fG xs none (some (a:Int))=xs.take a:=by
  unfold fG
  rw [HT.sIx_none,HT.sIx_nat,List.drop_zero,Nat.sub_zero]
  by_cases h:a<=xs.length
  ·rw [Nat.min_eq_left h]
  ·rw [Nat.min_eq_right (by omega),List.take_length,Bx (by omega)]
 show some ((.tup (fG xs none (some (a:Int))),.z):L3.D × Fl)=_
 rw [e]
theorem tX (xs:List L3.D) (a:Nat):slD (.tup xs) (some (a:Int)) none=some (.tup (xs.drop a),.z):=by
 have e:fG xs (some (a:Int)) none=xs.drop a:=by
  unfold fG
  rw [HT.sIx_none,HT.sIx_nat]
  by_cases h:a<=xs.length
  ·rw [Nat.min_eq_left h,Bx (by rw [List.length_drop];omega)]
  ·rw [Nat.min_eq_right (by omega),List.drop_length,List.drop_of_length_le (by omega),List.take_nil]
 show some ((.tup (fG xs (some (a:Int)) none),.z):L3.D × Fl)=_
 rw [e]
theorem wn (xs:List L3.D) (a:Nat):slD (.tup xs) (some (a:Int)) (some ((a:Int)+1))=some (.tup ((xs.drop a).take 1),.z):=by
 have e:fG xs (some (a:Int)) (some ((a:Int)+1))=(xs.drop a).take 1:=by
  unfold fG
  rw [show ((a:Int)+1)=((a+1:Nat):Int) by omega,HT.sIx_nat,HT.sIx_nat]
  by_cases h:a+1<=xs.length
  ·rw [show min a xs.length=a by omega,show min (a+1) xs.length=a+1 by omega,show a+1 - a=1 by omega]
  ·rw [show min a xs.length=xs.length by omega,List.drop_length,List.drop_of_length_le (by omega),List.take_nil,List.take_nil]
 show some ((.tup (fG xs (some (a:Int)) (some ((a:Int)+1))),.z):L3.D × Fl)=_
 rw [e]
noncomputable abbrev stO (n many:Int) (ps:List Pt) (v3 v4:Option (L3.D × Fl)):Sto:=[some (.lst [.int n],.u),some (.int many,.z),some (Shd ps,.z),v3,v4]
set_option tactic.hygienic true in
theorem sK {n many x y0:Int} {ps:List Pt} (R:Rising ps) (hs:∀ p ∈ ps,Small p) (hl:ps.length<=12) :
  ∃ y,fc cf cL (stO n many ps (some (.int x,.z)) (some (.int y0,.z)))=some (.ok .nx,stO n many ps (some (.int x,.z)) (some (.int y,.z)))/\y0<=y/\y<=y0+144:=by
 have ablt:=m6 ps x y0 hl
 obtain ⟨ρ',e,y,rfl,h1,h2⟩:=jQ (c:=cf) (b:=cL) (fun m ρ=>∃ y:Int,ρ=stO n many ps (some (.int x,.z)) (some (.int y,.z))/\m=above ps x y/\y0<=y/\y+(above ps x y:Int)<=y0+(above ps x y0:Int))
  (fun ρ=>∃ y:Int,ρ=stO n many ps (some (.int x,.z)) (some (.int y,.z))/\y0<=y/\y<=y0+144) (ρ:=stO n many ps (some (.int x,.z)) (some (.int y0,.z))) ⟨y0,rfl,rfl,Int.le_refl _,Int.le_refl _⟩ (by
   rintro m ρ ⟨y,rfl,rfl,h1,h2⟩
   obtain ⟨b,eb,ht,hf⟩:=sS ps (x,y) hs (by omega)
   have et:cf (stO n many ps (some (.int x,.z)) (some (.int y,.z)))=some (.ok (!b),stO n many ps (some (.int x,.z)) (some (.int y,.z))):=by
    unfold cf
    (repeat' (first | infer_instance | with_reducible apply aC (eb) | eq_refl))
   cases b with
   | true=>exact .inl ⟨_,et,y,rfl,h1,by omega⟩
   | false =>
    obtain ⟨i,j,p,q,hij,e1,e2,h0⟩:=hf rfl
    have hlt:=p8 R hij e1 e2 h0
    exact .inr ⟨_,stO n many ps (some (.int x,.z)) (some (.int (y+1),.z)),_,et,.inl (by unfold cL;(repeat' (first | infer_instance | eq_refl))),hlt,y+1,rfl,rfl,by omega,by omega⟩)
 exact ⟨y,e,h1,h2⟩
structure Rsm (ps:List Pt):Prop where
 pos:0 < ps.length
 most:ps.length<=12
 rise:Rising ps
 lo:∀ q ∈ ps,-(2 ^ 50) < q.1/\q.1 < 2 ^ 50+(ps.length:Int)
 hi:∀ q ∈ ps,-(2 ^ 61) < q.2/\q.2 < 2 ^ 61
theorem Rsm.small {ps:List Pt} (r:Rsm ps):∀ q ∈ ps,Small q:=fun q hq=>by
 have:=r.lo q hq
 have:=r.hi q hq
 have:=r.most
 refine ⟨by omega,by omega,by omega,by omega⟩
set_option tactic.hygienic true in
theorem xa {n many:Int} {qs:List Pt} {z:Pt} (r:Rsm (qs ++ [z])) (hl:(qs ++ [z]).length < 12) {v3 v4:Option (L3.D × Fl)}:∃ n' y v3' v4',cK (stO n many (qs ++ [z]) v3 v4)=some (.ok .nx,stO n' many (qs ++ [z] ++ [(z.1+1,y)]) v3' v4')/\Rsm (qs ++ [z] ++ [(z.1+1,y)]):=by
 have d0:=dB n 30 (by decide)
 have t:=fe n 30 (by decide)
 obtain ⟨y,ew,h1,h2⟩:=sK (n:=n / 30) (many:=many) (x:=z.1+1) (y0:=n % 30) r.rise r.small (by omega)
 have hz:z ∈ qs ++ [z]:=by simp
 have la:aw (Shd (qs ++ [z])) (.int (-1))=some (Pd z,.z):=by
  refine en ?_
  rw [List.map_append]
  exact wC _ _
 have l0:aw (Pd z) (.int 0)=some (.int z.1,.z):=rfl
 have ct:bC (Shd (qs ++ [z])) (.tup [Pd (z.1+1,y)])=some (Shd (qs ++ [z] ++ [(z.1+1,y)]),.z):=by
  have:=iS (A:=(qs ++ [z]).map Pd) (B:=[Pd (z.1+1,y)]) (by simp at hl ⊢;omega)
  rw [this];simp [Shd]
 have up:∀ q ∈ qs ++ [z],q.1<=z.1:=fun q hq=>by
  rcases A0.mp hq with h | h
  ·obtain ⟨i,hi⟩:=List.getElem?_of_mem h
   have hi':i < qs.length:=(A3.mp hi).1
   have:=r.rise i qs.length q z hi' (by rw [Bs hi'];exact hi) (by simp)
   omega
  ·rw [Bp.mp h];exact Int.le_refl _
 refine ⟨n / 30,y,some (.int (z.1+1),.z),some (.int y,.z),?_,?_⟩
 ·unfold cK
  generalize qs ++ [z]=ps at *
  apply aq (ρ1:=stO n many ps (some (.int (z.1+1),.z)) v4)
  ·(repeat' (first | infer_instance | exact la | exact l0 | eq_refl))
  apply aq (ρ1:=stO (n / 30) many ps (some (.int (z.1+1),.z)) (some (.int (n % 30),.z)))
  ·(repeat' (first | infer_instance | with_reducible apply aC (t) | eq_refl))
  apply aq
  ·exact ew
  ·exact mQ (d8 (bf rfl) (qO (bJ (qO (bJ (bf rfl) (bJ (bf rfl) eE)) rfl (show 2<=16777216 by decide)) eE) rfl (show 1<=16777216 by decide)) rfl rfl ct) rfl (show 2 < 5 by decide) rfl
 ·have zl:=r.lo z hz
  refine ⟨by simp,by simp at hl ⊢;omega,r.rise.snoc fun p hp=>by have:=up p hp;show p.1 < z.1+1;omega,fun q hq=>?_,fun q hq=>?_⟩
  ·rcases A0.mp hq with h | h
   ·have:=r.lo q h
    rw [Bi]
    simp only [Bj,List.length_nil]
    omega
   ·rw [Bp.mp h,Bi]
    simp only [Bj,List.length_nil]
    omega
  ·rcases A0.mp hq with h | h
   ·exact r.hi q h
   ·rw [Bp.mp h]
    show -(2 ^ 61) < y/\y < 2 ^ 61
    omega
set_option tactic.hygienic true in
theorem xl (n:Int) (many:Nat) (h1:1<=many) (h2:many<=8):∃ (n':Int) (ps:List Pt),eT [(.lst [.int n],.u),(.int (many:Int),.z)]=some (.ok (Shd ps,.z),[(.lst [.int n'],.u),(.int (many:Int),.z)])/\ps.length=many/\Rising ps/\∀ q ∈ ps,Small q:=by
 obtain ⟨n1,ps,e1,g,hl,hb⟩:=sP n 9 (by decide) (by decide)
 have r:Rsm ps:=⟨g.pos,by omega,g.rising,fun q hq=>by have:=hb q hq;have:=g.pos;omega,fun q hq=>(hb q hq).1⟩
 obtain ⟨ρ',ew,n2,ps2,v3,v4,rfl,r2,l2⟩:=jQ (c:=cJ) (b:=cK) (fun m ρ=>∃ n ps v3 v4,ρ=stO n (many:Int) ps v3 v4/\Rsm ps/\m=many - ps.length)
  (fun ρ=>∃ n ps v3 v4,ρ=stO n (many:Int) ps v3 v4/\Rsm ps/\many<=ps.length) (ρ:=stO n1 (many:Int) ps none none) (n:=many - ps.length) ⟨n1,ps,none,none,rfl,r,rfl⟩ (by
   rintro m ρ ⟨n,ps,v3,v4,rfl,r,rfl⟩
   have hlen:d6 [Shd ps]=some (.int (ps.length:Nat),.z):=by simp [vM,c1]
   have te:cJ (stO n (many:Int) ps v3 v4)=some (.ok (decide ((ps.length:Int) < (many:Int))),stO n (many:Int) ps v3 v4):=by
    unfold cJ
    (repeat' (first | infer_instance | exact hlen | eq_refl))
   by_cases h:ps.length < many
   ·rw [Bd (by omega)] at te
    obtain ⟨qs,z,rfl⟩:∃ qs z,ps=qs ++ [z]:=⟨ps.dropLast,ps.getLast (fun e=>by have:=r.pos;rw [e] at this;cases this),(List.dropLast_concat_getLast _).symm⟩
    obtain ⟨n',y,v3',v4',e,r'⟩:=xa (n:=n) (many:=(many:Int)) (v3:=v3) (v4:=v4) r (by omega)
    exact .inr ⟨_,_,many - (qs ++ [z] ++ [(z.1+1,y)]).length,te,.inl e,by simp only [Bi,Bj,List.length_nil] at *;omega,n',_,v3',v4',rfl,r',rfl⟩
   ·rw [Be (by omega)] at te
    exact .inl ⟨_,te,n,ps,v3,v4,rfl,r,by omega⟩)
 have ct:=sj (ps2.map Pd) many
 rw [<- List.map_take] at ct
 have lt:(ps2.take many).length=many:=by rw [Bk];omega
 refine ⟨n2,ps2.take many,?_,lt,?_,fun q hq=>r2.small q (List.mem_of_mem_take hq)⟩
 ·apply bg (ρ:=[some (.lst [.int n],.u),some (.int (many:Int),.z),none,none,none]) rfl rfl
  ·unfold jG
   apply aq (ρ1:=stO n1 (many:Int) ps none none)
   ·(repeat' (first | infer_instance | with_reducible apply aC (e1) | eq_refl))
   apply aq
   ·exact ew
   ·(repeat' (first | infer_instance | exact ct | eq_refl))
  ·rfl
 ·intro i j p q hij hp hq
  rw [List.getElem?_take] at hp hq
  split at hp
  ·split at hq
   ·exact r2.rise i j p q hij hp hq
   ·cases hq
  ·cases hp
theorem za (s:Sg):dzD [.lst ((aD s.length).map Td),.tup (SgD s)]=some (.dt (T0 s),.u):=by
 show ((i9 ((aD s.length).map Td)).bind fun ks=>if ks.length=((aD s.length).map fun t=>L3.D.int (tn s t)).length/\ks.Nodup then some ((.dt (ks.zip ((aD s.length).map fun t=>L3.D.int (tn s t))),.u):L3.D × Fl) else none)=_
 rw [jZ]
 show (if ((aD s.length).map kT).length=((aD s.length).map fun t=>L3.D.int (tn s t)).length/\((aD s.length).map kT).Nodup then _ else _)=_
 rw [if_pos]
 ·rfl
 refine ⟨by simp,?_⟩
 unfold List.Nodup
 rw [List.pairwise_map]
 exact (nb _).imp fun h e=>h (qK e)
noncomputable abbrev stA (N:L3.D) (S R:List L3.D) (T:List (List Key × L3.D)) (v4 v5 v6 v7 v8:Option (L3.D × Fl)):Sto:=[some (N,.z),some (.tup S,.z),some (.lst R,.l),some (.dt T,.u),v4,v5,v6,v7,v8]
section
variable {s:Sg} {T:List (List Key × L3.D)} {N:L3.D} {S R:List L3.D}
set_option tactic.hygienic true in
theorem Aq (hT:jc s T) {h i j k:Nat} (h1:h < i) (h2:i < j) (h3:j < k) (h4:k < s.length) {v8:Option (L3.D × Fl)}:∃ v8',
  (chg (trn s h i j) (trn s h i k) (trn s h j k) (trn s i j k)<=1->bz (stA N S R T (some (.int i,.z)) (some (.int j,.z)) (some (.int k,.z)) (some (.int h,.z)) v8)=some (.ok .nx,stA N S R T (some (.int i,.z)) (some (.int j,.z)) (some (.int k,.z)) (some (.int h,.z)) v8')) /\
  (¬ chg (trn s h i j) (trn s h i k) (trn s h j k) (trn s i j k)<=1->bz (stA N S R T (some (.int i,.z)) (some (.int j,.z)) (some (.int k,.z)) (some (.int h,.z)) v8)=some (.ok (.rt (.bl false) .z),stA N S R T (some (.int i,.z)) (some (.int j,.z)) (some (.int k,.z)) (some (.int h,.z)) v8')):=by
 have t1:aw (.dt T) (.tup [.int h,.int i,.int j])=some (.int (trn s h i j),.z):=kE (hT h i j h1 h2 (by omega))
 have t2:aw (.dt T) (.tup [.int h,.int i,.int k])=some (.int (trn s h i k),.z):=kE (hT h i k h1 (by omega) h4)
 have t3:aw (.dt T) (.tup [.int h,.int j,.int k])=some (.int (trn s h j k),.z):=kE (hT h j k (by omega) h3 h4)
 have t4:aw (.dt T) (.tup [.int i,.int j,.int k])=some (.int (trn s i j k),.z):=kE (hT i j k h2 h3 h4)
 generalize trn s h i j=a at *
 generalize trn s h i k=b at *
 generalize trn s h j k=c at *
 generalize trn s i j k=d at *
 obtain ⟨out,τ',e,⟨v,rfl⟩,hl⟩:=oS a b c d
 have e:cn (ao 0) gm gk [.int 0,.int 1,.int 2] [none,some (R4 a b c d,.u)]=some (.ok out,[v,some (R4 a b c d,.u)]):=e
 have hr:bQ [.int 3]=some [.int 0,.int 1,.int 2]:=rfl
 generalize L3.D.int (h:Int)=dh at *
 generalize L3.D.int (i:Int)=di at *
 generalize L3.D.int (j:Int)=dj at *
 generalize L3.D.int (k:Int)=dk at *
 have e2:dN (stA N S R T (some (di,.z)) (some (dj,.z)) (some (dk,.z)) (some (dh,.z)) (some (R4 a b c d,.u)))=some (.ok (.val (.lst out) .u),stA N S R T (some (di,.z)) (some (dj,.z)) (some (dk,.z)) (some (dh,.z)) (some (R4 a b c d,.u))):=bp (rs:=[]) (by (repeat' (first | with_reducible apply d7 (h3:=hr) | infer_instance | eq_refl))) e (by decide) rfl
 have hg:gtI (.int (out.length:Int)) (.int 1)=some (.bl (!decide (chg a b c d<=1)),.z):=by
  rw [<- hl]
  simp [cV]
  by_cases q:out.length<=1
  ·simp [q];omega
  ·simp [q];omega
 have set:aW 8 (cU (ab (aj aw (ac 3) (bc (ab (ac 7) (ab (ac 4) (ab (ac 5) ah))))) (ab (aj aw (ac 3) (bc (ab (ac 7) (ab (ac 4) (ab (ac 6) ah))))) (ab (aj aw (ac 3) (bc (ab (ac 7) (ab (ac 5) (ab (ac 6) ah))))) (ab (aj aw (ac 3) (bc (ab (ac 4) (ab (ac 5) (ab (ac 6) ah))))) ah))))) (stA N S R T (some (di,.z)) (some (dj,.z)) (some (dk,.z)) (some (dh,.z)) v8)=some (.ok .nx,stA N S R T (some (di,.z)) (some (dj,.z)) (some (dk,.z)) (some (dh,.z)) (some (R4 a b c d,.u))):=by
  have l1:aj aw (ac 3) (bc (ab (ac 7) (ab (ac 4) (ab (ac 5) ah)))) (stA N S R T (some (di,.z)) (some (dj,.z)) (some (dk,.z)) (some (dh,.z)) v8)=some (.ok (.val (.int a) .z),stA N S R T (some (di,.z)) (some (dj,.z)) (some (dk,.z)) (some (dh,.z)) v8):=by (repeat' (first | infer_instance | exact t1 | eq_refl))
  have l2:aj aw (ac 3) (bc (ab (ac 7) (ab (ac 4) (ab (ac 6) ah)))) (stA N S R T (some (di,.z)) (some (dj,.z)) (some (dk,.z)) (some (dh,.z)) v8)=some (.ok (.val (.int b) .z),stA N S R T (some (di,.z)) (some (dj,.z)) (some (dk,.z)) (some (dh,.z)) v8):=by (repeat' (first | infer_instance | exact t2 | eq_refl))
  have l3:aj aw (ac 3) (bc (ab (ac 7) (ab (ac 5) (ab (ac 6) ah)))) (stA N S R T (some (di,.z)) (some (dj,.z)) (some (dk,.z)) (some (dh,.z)) v8)=some (.ok (.val (.int c) .z),stA N S R T (some (di,.z)) (some (dj,.z)) (some (dk,.z)) (some (dh,.z)) v8):=by (repeat' (first | infer_instance | exact t3 | eq_refl))
  have l4:aj aw (ac 3) (bc (ab (ac 4) (ab (ac 5) (ab (ac 6) ah)))) (stA N S R T (some (di,.z)) (some (dj,.z)) (some (dk,.z)) (some (dh,.z)) v8)=some (.ok (.val (.int d) .z),stA N S R T (some (di,.z)) (some (dj,.z)) (some (dk,.z)) (some (dh,.z)) v8):=by (repeat' (first | infer_instance | exact t4 | eq_refl))
  (repeat' (first | with_reducible exact l1 | with_reducible exact l2 | with_reducible exact l3 | with_reducible exact l4 | infer_instance | eq_refl))
 have cnd:cB (aj gtI (aG d6 (ab dN ah)) (mC (.int 1))) (stA N S R T (some (di,.z)) (some (dj,.z)) (some (dk,.z)) (some (dh,.z)) (some (R4 a b c d,.u)))=some (.ok (!decide (chg a b c d<=1)),stA N S R T (some (di,.z)) (some (dj,.z)) (some (dk,.z)) (some (dh,.z)) (some (R4 a b c d,.u))):=by
  (repeat' (first | with_reducible exact e2 | infer_instance | exact hg | eq_refl))
 refine ⟨some (R4 a b c d,.u),fun q=>?_,fun q=>?_⟩
 ·rw [Bd q] at cnd
  unfold bz
  exact aq set (dI cnd rfl rfl)
 ·rw [Be q] at cnd
  unfold bz
  exact aq set (jL cnd rfl (cX i_c rfl))
set_option tactic.hygienic true in
theorem Ap (hT:jc s T) {i j k:Nat} (h2:i < j) (h3:j < k) (h4:k < s.length) (hl:s.length<=24) {v7 v8:Option (L3.D × Fl)}:∃ v7' v8',
  (bX (stA N S R T (some (.int i,.z)) (some (.int j,.z)) (some (.int k,.z)) v7 v8)=some (.ok .nx,stA N S R T (some (.int i,.z)) (some (.int j,.z)) (some (.int k,.z)) v7' v8')/\∀ h,h < i->chg (trn s h i j) (trn s h i k) (trn s h j k) (trn s i j k)<=1) \/
  bX (stA N S R T (some (.int i,.z)) (some (.int j,.z)) (some (.int k,.z)) v7 v8)=some (.ok (.rt (.bl false) .z),stA N S R T (some (.int i,.z)) (some (.int j,.z)) (some (.int k,.z)) v7' v8'):=by
 obtain ⟨ρ',hh⟩:=jM (bnd:=ao 7) (b:=bz) (fun m ρ=>∃ v7 v8,ρ=stA N S R T (some (.int i,.z)) (some (.int j,.z)) (some (.int k,.z)) v7 v8/\∀ h,h < m->chg (trn s h i j) (trn s h i k) (trn s h j k) (trn s i j k)<=1) (fun _ r f ρ=>r=.bl false/\f=.z/\∃ v7 v8,ρ=stA N S R T (some (.int i,.z)) (some (.int j,.z)) (some (.int k,.z)) v7 v8) (ds:=bx 0 i) (ρ:=stA N S R T (some (.int i,.z)) (some (.int j,.z)) (some (.int k,.z)) v7 v8) (k:=0) ⟨v7,v8,rfl,fun h hh=>by omega⟩ (by
  rintro m d ρ hd ⟨v7,v8,rfl,hm⟩
  obtain ⟨hmi,rfl⟩:=dX hd
  rw [Bg] at hm ⊢
  obtain ⟨v8',g1,g2⟩:=Aq (N:=N) (S:=S) (R:=R) (v8:=v8) hT (h:=m) hmi h2 h3 h4
  refine ⟨stA N S R T (some (.int i,.z)) (some (.int j,.z)) (some (.int k,.z)) (some (.int m,.z)) v8,stA N S R T (some (.int i,.z)) (some (.int j,.z)) (some (.int k,.z)) (some (.int m,.z)) v8',by rw [Int.zero_add];rfl,?_⟩
  by_cases q:chg (trn s m i j) (trn s m i k) (trn s m j k) (trn s i j k)<=1
  ·refine .inl ⟨.inl (g1 q),_,_,rfl,fun h hh=>?_⟩
   by_cases e:h=m
   ·subst e;exact q
   ·exact hm h (by omega)
  ·exact .inr ⟨_,_,g2 q,rfl,rfl,_,_,rfl⟩)
 have hr:bQ [.int (i:Int)]=some (bx 0 i):=dR (by omega) (by omega)
 have im:aT bQ (ab (ac 4) ah) (stA N S R T (some (.int i,.z)) (some (.int j,.z)) (some (.int k,.z)) v7 v8)=some (.ok ([],bx 0 i),stA N S R T (some (.int i,.z)) (some (.int j,.z)) (some (.int k,.z)) v7 v8):=by (repeat' (first | with_reducible apply d7 (h3:=hr) | infer_instance | eq_refl))
 rcases hh with ⟨e,v7',v8',rfl,hm⟩ | ⟨_,r,f,_,e,rfl,rfl,v7',v8',rfl⟩
 ·rw [ce,Bg] at hm
  exact ⟨v7',v8',.inl ⟨fA im rfl e,hm⟩⟩
 ·exact ⟨v7',v8',.inr (fA im rfl e)⟩
set_option tactic.hygienic true in
theorem xq (h0:0 < s.length) (hl:s.length<=24) (hs:∀ i j k,i < j->j < k->k < s.length->s.f i j k=1\/s.f i j k = -1):∃ b:Bool,dU [(.int (s.length:Int),.z),(.tup (SgD s),.z)]=some (.ok (.bl b,.z),[(.int (s.length:Int),.z),(.tup (SgD s),.z)])/\(b=true->OkS s):=by
 have th:=lf s.length (by omega)
 have sm:=eZ (n:=s.length) (by omega)
 have dz:=za s
 have hT:=lV s
 generalize T0 s=T at *
 obtain ⟨τ1,e1,a1,rfl⟩:=bY (bnd:=ao 0) (c:=dD) (elt:=cD) (fun τ=>∃ a,τ=[a]) (fun t:Tri=>L3.D.int (tn s t)) (fun _=>true) (fun _=>.bl true) (xs:=aD s.length) (τ:=[none]) ⟨none,rfl⟩ (by
  rintro t ht τ ⟨a,rfl⟩
  have ht:=gh ht
  have hv:tn s t=1\/tn s t = -1:=hs t.1 t.2.1 t.2.2 ht.1 ht.2.1 ht.2.2
  have f:=ld (tn s t)
  have m1:gD (.int (tn s t)) (.int (tn s t))=some (.int 1,.z):=by rcases hv with h | h <;> rw [h] <;> rfl
  refine ⟨[some (.int (tn s t),.z)],_,rfl,rfl,(fun h=>by cases h),fun _=>⟨.val (.bl true) .z,[some (.int (tn s t),.z)],(.bl true,.z),[some (.int (tn s t),.z)],?_,rfl,rfl,_,rfl⟩⟩
  unfold cD
  apply jK (b:=true)
  ·(repeat' (first | infer_instance | with_reducible apply aC (f) | eq_refl))
  ·rfl
  ·rfl
  ·(repeat' (first | infer_instance | exact m1 | exact yt _ _ | eq_refl)))
 rw [By.mpr (fun _ _=>rfl)] at e1
 have a3:=kg (ds:=(aD s.length).map fun _=>.bl true) (fun d hd=>by obtain ⟨_,_,rfl⟩:=A6.mp hd;rfl)
 generalize (aD s.length).map (fun _=>L3.D.bl true)=o1 at *
 have hlen:neX (.int ((SgD s).length:Int)) (.int (((aD s.length).map Td).length:Int))=some (.bl false,.z):=by
  rw [nG];simp
 have hSl:(SgD s).length < 16777216:=by simp;omega
 have e1:cn (ao 0) dD cD (SgD s) [none]=some (.ok o1,[a1]):=e1
 obtain ⟨ρ',hh⟩:=jM (bnd:=mf 3 (cw (ao 4) (cw (ao 5) (cw (ao 6) mh)))) (b:=bX) (fun m ρ=>∃ v4 v5 v6 v7 v8,ρ=stA (.int (s.length:Int)) (SgD s) ((aD s.length).map Td) T v4 v5 v6 v7 v8/\∀ t ∈ (aD s.length).take m,∀ h,h < t.1->chg (trn s h t.1 t.2.1) (trn s h t.1 t.2.2) (trn s h t.2.1 t.2.2) (trn s t.1 t.2.1 t.2.2)<=1) (fun _ r f ρ=>r=.bl false/\f=.z/\∃ v4 v5 v6 v7 v8,ρ=stA (.int (s.length:Int)) (SgD s) ((aD s.length).map Td) T v4 v5 v6 v7 v8) (ds:=(aD s.length).map Td) (ρ:=stA (.int (s.length:Int)) (SgD s) ((aD s.length).map Td) T none none none none none) (k:=0) ⟨none,none,none,none,none,rfl,fun t ht=>absurd (List.take_zero (l:=aD s.length) ▸ ht) List.not_mem_nil⟩ (by
  rintro m d ρ hd ⟨v4,v5,v6,v7,v8,rfl,hm⟩
  rw [A7,AU] at hd
  obtain ⟨⟨i,j,k⟩,ht,rfl⟩:=hd
  obtain ⟨m1,m2,m3⟩:=gh (A4 ht)
  rw [Bg] at hm ⊢
  obtain ⟨v7',v8',hb⟩:=Ap (N:=.int (s.length:Int)) (S:=SgD s) (R:=(aD s.length).map Td) (v7:=v7) (v8:=v8) hT (i:=i) (j:=j) (k:=k) m1 m2 m3 hl
  generalize SgD s=S at *
  refine ⟨stA (.int (s.length:Int)) S ((aD s.length).map Td) T (some (.int i,.z)) (some (.int j,.z)) (some (.int k,.z)) v7 v8,stA (.int (s.length:Int)) S ((aD s.length).map Td) T (some (.int i,.z)) (some (.int j,.z)) (some (.int k,.z)) v7' v8',rfl,?_⟩
  rcases hb with ⟨e,q⟩ | e
  ·refine .inl ⟨.inl e,_,_,_,_,_,rfl,fun t htm=>?_⟩
   rw [List.take_add_one,ht] at htm
   rcases A0.mp htm with h | h
   ·exact hm t h
   ·rw [Option.toList_some,Bp] at h
    subst h
    exact q
  ·exact .inr ⟨_,_,e,rfl,rfl,_,_,_,_,_,rfl⟩)
 have c1:gj [some (.int (s.length:Int),.z),some (.tup (SgD s),.z),some (.lst ((aD s.length).map Td),.u),none,none,none,none,none,none]=some (.ok (.val (.lst o1) .u),[some (.int (s.length:Int),.z),some (.tup (SgD s),.z),some (.lst ((aD s.length).map Td),.u),none,none,none,none,none,none]):=bp (im:=cu (ac 1)) (ix:=[none]) (ρ1:=[some (.int (s.length:Int),.z),some (.tup (SgD s),.z),some (.lst ((aD s.length).map Td),.u),none,none,none,none,none,none]) (ρ2:=[some (.int (s.length:Int),.z),some (.tup (SgD s),.z),some (.lst ((aD s.length).map Td),.u),none,none,none,none,none,none]) (rs:=[.pl 1]) (by (repeat' (first | infer_instance | eq_refl))) e1 hSl rfl
 have head:∀ {o:Except L3.D Flw} {ρ2:Sto},(aK (ci (cu (ac 2)) (mf 3 (cw (ao 4) (cw (ao 5) (cw (ao 6) mh)))) bX) (bv 2 (mC (.bl true)))) [some (.int (s.length:Int),.z),some (.tup (SgD s),.z),some (.lst ((aD s.length).map Td),.u),some (.dt T,.u),none,none,none,none,none]=some (o,ρ2)->fY [some (.int (s.length:Int),.z),some (.tup (SgD s),.z),none,none,none,none,none,none,none]=some (o,ρ2):=fun {o ρ2} hq=>by
  unfold fY
  generalize SgD s=S at *
  generalize (aD s.length).map Td=R at *
  generalize L3.D.int (s.length:Int)=N at *
  apply aq (ρ1:=[some (N,.z),some (.tup S,.z),some (.lst R,.u),none,none,none,none,none,none])
  ·(repeat' (first | infer_instance | with_reducible apply aC (th) | eq_refl))
  apply aq (ρ1:=[some (N,.z),some (.tup S,.z),some (.lst R,.u),none,none,none,none,none,none])
  ·apply dI
   ·apply gp (b:=false)
    ·apply dy (b:=true)
     (repeat' (first | infer_instance | eq_refl))
    ·rfl
    ·(repeat' (first | infer_instance | exact hlen | eq_refl))
   ·rfl
   ·rfl
  apply aq (ρ1:=[some (N,.z),some (.tup S,.z),some (.lst R,.u),none,none,none,none,none,none])
  ·apply dI
   ·apply dy (b:=true)
    (repeat' (first | with_reducible exact c1 | infer_instance | exact a3 | eq_refl))
   ·rfl
   ·rfl
  apply aq (ρ1:=[some (N,.z),some (.tup S,.z),some (.lst R,.u),some (.dt T,.u),none,none,none,none,none])
  ·(repeat' (first | infer_instance | exact dz | eq_refl))
  exact hq
 generalize hR:(aD s.length).map Td=R at *
 generalize hSS:SgD s=S at *
 rcases hh with ⟨e,v4,v5,v6,v7,v8,rfl,hm⟩ | ⟨_,r,f,_,e,rfl,rfl,v4,v5,v6,v7,v8,rfl⟩
 ·refine ⟨true,?_,fun _=>?_⟩
  ·apply bg (ρ:=[some (.int (s.length:Int),.z),some (.tup S,.z),none,none,none,none,none,none,none]) (ρ1:=[some (.int (s.length:Int),.z),some (.tup S,.z),some (.lst R,.u),some (.dt T,.u),v4,v5,v6,v7,v8]) rfl rfl
   ·refine head ?_
    apply aq
    ·exact qN (is:=[2]) (ρ1:=[some (.int (s.length:Int),.z),some (.tup S,.z),some (.lst R,.u),some (.dt T,.u),none,none,none,none,none]) (nQ (bf rfl) rfl rfl) rfl e
    ·exact cX i_c rfl
   ·rfl
  ·refine ⟨h0,hl,hs,fun h i j k h1 h2 h3 h4=>?_⟩
   rw [<- hR,A2,Bg,List.take_length] at hm
   exact hm (i,j,k) (mJ h2 h3 h4) h h1
 ·refine ⟨false,?_,fun h=>by cases h⟩
  apply bg (ρ:=[some (.int (s.length:Int),.z),some (.tup S,.z),none,none,none,none,none,none,none]) (ρ1:=[some (.int (s.length:Int),.z),some (.tup S,.z),some (.lst R,.u),some (.dt T,.u),v4,v5,v6,v7,v8]) rfl rfl
  ·refine head ?_
   apply jf
   exact qN (is:=[2]) (ρ1:=[some (.int (s.length:Int),.z),some (.tup S,.z),some (.lst R,.u),some (.dt T,.u),none,none,none,none,none]) (nQ (bf rfl) rfl rfl) rfl e
  ·rfl
end
noncomputable def jN (s:Sg) (a:Nat):Sg:=⟨s.length,fun i j k=>if (aD s.length)[a]?=some (i,j,k) then 0 - s.f i j k else s.f i j k⟩
theorem tO (s:Sg) (a:Nat):(SgD s).take a ++ (((aD s.length).drop a).take 1).map (fun t=>L3.D.int (0 - tn s t)) ++ (SgD s).drop (a+1)=SgD (jN s a):=by
 have key:∀ t,tn (jN s a) t=if (aD s.length)[a]?=some t then 0 - tn s t else tn s t:=fun t=>rfl
 show _=(aD s.length).map fun t=>L3.D.int (tn (jN s a) t)
 show ((aD s.length).map fun t=>L3.D.int (tn s t)).take a ++ _ ++ ((aD s.length).map fun t=>L3.D.int (tn s t)).drop (a+1)=_
 rw [<- List.map_take,<- List.map_drop]
 have nd:=nb s.length
 by_cases h:a < (aD s.length).length
 ·have ht:(aD s.length)[a]?=some (aD s.length)[a]:=AY h
  generalize (aD s.length)[a]=t at ht
  have hs:aD s.length=(aD s.length).take a ++ t :: (aD s.length).drop (a+1):=by
   have e1:=List.take_append_drop a (aD s.length)
   rw [List.drop_eq_getElem_cons h] at e1
   have e2:(aD s.length)[a]=t:=by
    have:=AY h
    rw [ht] at this
    exact (BC this).symm
   rw [e2] at e1
   exact e1.symm
  have hd:((aD s.length).drop a).take 1=[t]:=by
   rw [List.drop_eq_getElem_cons h]
   have:=AY h
   rw [ht] at this
   rw [BC this];rfl
  rw [hd]
  rw [ht] at key
  generalize (aD s.length).take a=A at *
  generalize (aD s.length).drop (a+1)=B at *
  rw [hs] at nd ⊢
  obtain ⟨_,n2,n3⟩:=List.nodup_append.mp nd
  have n2:=(List.nodup_cons.mp n2).1
  have kt:tn (jN s a) t=0 - tn s t:=by rw [key,if_pos rfl]
  have hA:A.map (fun t=>L3.D.int (tn s t))=A.map fun t=>L3.D.int (tn (jN s a) t):=BB fun u hu=>by
   rw [key,if_neg (fun e=>?_)]
   have:=BC e
   subst this
   exact n3 _ hu _ AR rfl
  have hB:B.map (fun t=>L3.D.int (tn s t))=B.map fun t=>L3.D.int (tn (jN s a) t):=BB fun u hu=>by
   rw [key,if_neg (fun e=>?_)]
   have:=BC e
   subst this
   exact n2 hu
  rw [hA,hB,List.map_append,List.append_assoc]
  show _ ++ (L3.D.int (0 - tn s t) :: _)=_ ++ (L3.D.int (tn (jN s a) t) :: _)
  rw [kt];rfl
 ·rw [List.getElem?_eq_none (by omega)] at key
  rw [Bx (by omega),List.drop_of_length_le (by omega:(aD s.length).length<=a),List.drop_of_length_le (by omega)]
  simp only [List.take_nil,List.map_nil,List.append_nil]
  refine BB fun u hu=>?_
  rw [key,if_neg (by simp)]
theorem vX {s:Sg} (g:OkS s) (a:Nat):∀ i j k,i < j->j < k->k < (jN s a).length->(jN s a).f i j k=1\/(jN s a).f i j k = -1:=fun i j k h1 h2 h3=>by
 have:=g.sgn i j k h1 h2 h3
 show (if (aD s.length)[a]?=some (i,j,k) then 0 - s.f i j k else s.f i j k)=1\/(if (aD s.length)[a]?=some (i,j,k) then 0 - s.f i j k else s.f i j k) = -1
 by_cases q:(aD s.length)[a]?=some (i,j,k)
 ·rw [if_pos q];omega
 ·rw [if_neg q];omega
noncomputable abbrev stG (n:Int) (N:L3.D) (S:List L3.D) (v3 v4 v5:Option (L3.D × Fl)):Sto:=[some (.lst [.int n],.u),some (N,.z),some (.tup S,.z),v3,v4,v5]
set_option tactic.hygienic true in
theorem wg {s:Sg} (g:OkS s) {n:Int} {v3 v4 v5:Option (L3.D × Fl)}:∃ (s':Sg) (n':Int) (v4' v5':Option (L3.D × Fl)),b7 (stG n (.int (s.length:Int)) (SgD s) v3 v4 v5)=some (.ok .nx,stG n' (.int (s.length:Int)) (SgD s') v3 v4' v5')/\OkS s'/\s'.length=s.length:=by
 have sm:=eZ (n:=s.length) (by have:=g.most;omega)
 have hl:((SgD s).length:Int)=((aD s.length).length:Int):=by simp
 have hlen:d6 [.tup (SgD s)]=some (.int ((SgD s).length:Int),.z):=by simp [vM,c1]
 have t:=fe n (((SgD s).length:Int)+1) (by omega)
 have d0:=dB n (((SgD s).length:Int)+1) (by omega)
 obtain ⟨a,ha⟩:∃ a:Nat,n % (((SgD s).length:Int)+1)=(a:Int):=⟨(n % (((SgD s).length:Int)+1)).toNat,by omega⟩
 rw [ha] at t
 have c1:=sj (SgD s) a
 have c2:=wn (SgD s) a
 have c3:=tX (SgD s) (a+1)
 rw [show ((a+1:Nat):Int)=(a:Int)+1 by omega] at c3
 have fl:=tO s a
 have e2:((SgD s).drop a).take 1=(((aD s.length).drop a).take 1).map fun t=>L3.D.int (tn s t):=by
  show (((aD s.length).map fun t=>L3.D.int (tn s t)).drop a).take 1=_
  rw [<- List.map_drop,<- List.map_take]
 rw [e2] at c2
 obtain ⟨τ',e,w,rfl⟩:=bY (bnd:=ao 0) (c:=dD) (elt:=cT) (fun τ=>∃ a,τ=[a]) (fun t:Tri=>L3.D.int (tn s t)) (fun _=>true) (fun t=>.int (0 - tn s t)) (xs:=((aD s.length).drop a).take 1) (τ:=[none]) ⟨none,rfl⟩ (by
  rintro t ht τ ⟨a,rfl⟩
  exact ⟨[some (.int (tn s t),.z)],_,rfl,rfl,(fun h=>by cases h),fun _=>⟨.val (.int (0 - tn s t)) .z,[some (.int (tn s t),.z)],(.int (0 - tn s t),.z),[some (.int (tn s t),.z)],by unfold cT;(repeat' (first | infer_instance | eq_refl)),rfl,rfl,_,rfl⟩⟩)
 rw [By.mpr (fun _ _=>rfl)] at e
 obtain ⟨b,eb,hb⟩:=xq (s:=jN s a) g.pos g.most (vX g a)
 have ez:(jN s a).length=s.length:=rfl
 rw [ez] at eb
 have z1:((SgD s).take a).length+((((aD s.length).drop a).take 1).map fun t=>L3.D.int (0 - tn s t)).length<=16777216:=by
  simp only [Bk,A2,List.length_drop];omega
 have z2:((SgD s).take a ++ (((aD s.length).drop a).take 1).map fun t=>L3.D.int (0 - tn s t)).length+((SgD s).drop (a+1)).length<=16777216:=by
  simp only [Bi,Bk,A2,List.length_drop];omega
 have k1:=iS z1
 have k2:=iS z2
 rw [fl] at k2
 have hM:(((aD s.length).drop a).take 1).length < 16777216:=by rw [Bk];omega
 generalize hM1:(((aD s.length).drop a).take 1).map (fun t=>L3.D.int (tn s t))=M1 at *
 generalize hM2:(((aD s.length).drop a).take 1).map (fun t=>L3.D.int (0 - tn s t))=M2 at *
 generalize hS2:SgD (jN s a)=S2 at *
 have hM3:M1.length < 16777216:=by rw [<- hM1,A2];exact hM
 refine ⟨if b=true then jN s a else s,n / (((SgD s).length:Int)+1),some (.int (a:Int),.z),some (.tup S2,.z),?_,?_,?_⟩
 ·generalize hS:SgD s=S at *
  generalize hA:S.take a=A at *
  generalize hB:S.drop (a+1)=B at *
  generalize hC:A ++ M2=C at *
  generalize L3.D.int (s.length:Int)=N at *
  have cm:fq (stG (n / ((S.length:Int)+1)) N S v3 (some (.int (a:Int),.z)) v5)=some (.ok (.val (.lst M2) .u),stG (n / ((S.length:Int)+1)) N S v3 (some (.int (a:Int),.z)) v5):=bp (im:=cu (mSl slD (ac 2) (eD (ac 4)) (eD (aj bC (ac 4) (mC (.int 1)))))) (ix:=[none]) (rs:=[.val (.tup M1) .z]) (by (repeat' (first | infer_instance | exact c2 | eq_refl))) e hM3 rfl
  have tp:m9 [.lst M2]=some (.tup M2,.z):=rfl
  unfold b7
  apply aq (ρ1:=stG (n / ((S.length:Int)+1)) N S v3 (some (.int (a:Int),.z)) v5)
  ·(repeat' (first | infer_instance | with_reducible apply aC (t) | exact hlen | eq_refl))
  apply aq (ρ1:=stG (n / ((S.length:Int)+1)) N S v3 (some (.int (a:Int),.z)) (some (.tup S2,.z)))
  ·(repeat' (first | with_reducible exact cm | infer_instance | exact c1 | exact c3 | exact k1 | exact k2 | exact tp | eq_refl))
  ·cases b with
   | true =>
    apply jL (b:=true)
    ·(repeat' (first | infer_instance | with_reducible apply aC (eb) | eq_refl))
    ·rfl
    ·rw [if_pos rfl,hS2]
     exact mQ (p:=(.tup S2,.z)) (bf rfl) rfl (show 2 < 6 by decide) rfl
   | false =>
    apply dI (b:=false)
    ·(repeat' (first | infer_instance | with_reducible apply aC (eb) | eq_refl))
    ·rfl
    ·rw [if_neg (by decide),hS]
     rfl
 ·cases b with
  | true=>exact hb rfl
  | false=>exact g
 ·cases b <;> rfl
theorem uD {ps:List Pt} (h0:0 < ps.length) (hl:ps.length<=24) (R:Rising ps):OkS ⟨ps.length,fun i j k=>eC (gg ps i) (gg ps j) (gg ps k)⟩ where
 pos:=h0
 most:=hl
 sgn:=fun i j k _ _ _=>by
  show eC _ _ _=1\/eC _ _ _ = -1
  unfold eC
  split
  ·exact .inl rfl
  ·exact .inr rfl
 chg1:=fun h i j k h1 h2 h3 h4=>by
  have h4:k < ps.length:=h4
  exact AF (R h i _ _ h1 (c9 (by omega)) (c9 (by omega))) (R i j _ _ h2 (c9 (by omega)) (c9 (by omega))) (R j k _ _ h3 (c9 (by omega)) (c9 (by omega)))
set_option tactic.hygienic true in
theorem sU (n:Int) (many:Nat) (h1:1<=many) (h2:many<=8):∃ (n':Int) (s:Sg),cg [(.lst [.int n],.u),(.int (many:Int),.z)]=some (.ok (.tup (SgD s),.z),[(.lst [.int n'],.u),(.int (many:Int),.z)])/\OkS s/\s.length=many:=by
 obtain ⟨n1,ps,e1,hl,R,sm⟩:=xl n many h1 h2
 have e2:=sO ps (by omega) sm
 have g0:=uD (ps:=ps) (by omega) (by omega) R
 have e2:gr [(Shd ps,.z)]=some (.ok (.tup (SgD ⟨ps.length,fun i j k=>eC (gg ps i) (gg ps j) (gg ps k)⟩),.z),[(Shd ps,.z)]):=e2
 have l0:(⟨ps.length,fun i j k=>eC (gg ps i) (gg ps j) (gg ps k)⟩:Sg).length=many:=hl
 generalize (⟨ps.length,fun i j k=>eC (gg ps i) (gg ps j) (gg ps k)⟩:Sg)=s0 at *
 have t:=fe n1 4 (by decide)
 have d0:=dB n1 4 (by decide)
 obtain ⟨m,hm⟩:∃ m:Nat,n1 % 4=(m:Int):=⟨(n1 % 4).toNat,by omega⟩
 rw [hm] at t
 obtain ⟨ρ',e,n2,s,v3,v4,v5,rfl,g,gl⟩:=cG (bnd:=ao 3) (b:=b7) (fun _ ρ=>∃ n s v3 v4 v5,ρ=stG n (.int (many:Int)) (SgD s) v3 v4 v5/\OkS s/\s.length=many) (ds:=bx 0 m) (ρ:=stG (n1 / 4) (.int (many:Int)) (SgD s0) none none none) (k:=0) ⟨_,_,_,_,_,rfl,g0,l0⟩ (by
  rintro i d ρ hd ⟨n,s,v3,v4,v5,rfl,g,gl⟩
  obtain ⟨s',n',v4',v5',e,g',gl'⟩:=wg g (n:=n) (v3:=some (d,.z)) (v4:=v4) (v5:=v5)
  rw [gl] at e
  exact ⟨_,_,rfl,.inl e,n',s',_,_,_,rfl,g',gl'.trans gl⟩)
 have hr:bQ [.int (m:Int)]=some (bx 0 m):=dR (by omega) (by omega)
 refine ⟨n2,s,?_,g,gl⟩
 generalize SgD s0=S0 at *
 generalize SgD s=S1 at *
 apply bg (ρ:=[some (.lst [.int n],.u),some (.int (many:Int),.z),none,none,none,none]) rfl rfl
 ·unfold gQ
  apply aq (ρ1:=stG n1 (.int (many:Int)) S0 none none none)
  ·(repeat' (first | infer_instance | with_reducible apply aC (e1) | with_reducible apply aC (e2) | eq_refl))
  apply aq (ρ1:=stG n2 (.int (many:Int)) S1 v3 v4 v5)
  ·apply fA (ρ1:=stG (n1 / 4) (.int (many:Int)) S0 none none none)
   ·(repeat' (first | with_reducible apply d7 (h3:=hr) | infer_instance | with_reducible apply aC (t) | eq_refl))
   ·rfl
   ·exact e
  ·(repeat' (first | infer_instance | eq_refl))
 ·rfl
noncomputable abbrev Nd (l:List Nat):List L3.D:=l.map fun (i:Nat)=>L3.D.int (i:Int)
noncomputable def el (L:List Nat) (i:Nat):Nat:=L.getD i 0
theorem nV {L:List Nat} {i:Nat} (h:i < L.length):L[i]?=some (el L i):=by simp [el,List.getD,h]
theorem wc {L:List Nat} {i:Nat} (h:i < L.length):el L i ∈ L:=A4 (nV h)
set_option tactic.hygienic true in
theorem sR {i n:Int} (h0:0<=i) (h1:i < n):gO [(.int i,.z),(.int n,.z)]=some (.ok (.bl true,.z),[(.int i,.z),(.int n,.z)]):=by
 have l1:leI (.int 0) (.int i)=some (.bl true,.z):=by simp [cV,h0]
 have l2:ltI (.int i) (.int n)=some (.bl true,.z):=by simp [cV,h1]
 apply bg (ρ:=[some (.int i,.z),some (.int n,.z)]) rfl rfl
 ·apply cX
  ·apply jK
   ·(repeat' (first | infer_instance | with_reducible apply aC (jS _) | eq_refl))
   ·rfl
   ·rfl
   ·exact rW i_c (bf rfl) rfl rfl l1 (bf rfl) rfl rfl l2
  ·rfl
 ·rfl
theorem sD {α:Type} (b:α->Bool):∀ xs:List α,jb (xs.map fun x=>L3.D.bl (b x))=some (xs.map b)
 | []=>rfl
 | x :: xs=>by simp [jb,sD b xs]
theorem lT {α:Type} (b:α->Bool) (xs:List α):lU [.lst (xs.map fun x=>L3.D.bl (b x))]=some (.bl (xs.all b),.z):=by
 show (jb _).map _=_
 rw [sD]
 simp [List.all_map]
theorem lS {xs:List L3.D} {i:Nat} {d:L3.D} (h:xs[i]?=some d):L2.atI xs (i:Int)=some d:=by
 have lt:=(A3.mp h).1
 unfold L2.atI L2.ixN
 rw [if_pos (by omega),if_pos (by omega)]
 simpa using h
theorem rj {r:List Nat} {i:Nat} (h:i < r.length):(Nd r)[i]?=some (.int (el r i)):=by rw [A7,nV h];rfl
theorem uA {r:List Nat} {i:Nat} (h:i < r.length):aw (.tup (Nd r)) (.int (i:Int))=some (.int (el r i),.z):=en (lS (rj h))
theorem wZ {r:List Nat} {i:Nat} (h:i < r.length):aw (.lst (Nd r)) (.int (i:Int))=some (.int (el r i),.z):=rp (lS (rj h))
theorem om {xs:List L3.D} {d:L3.D} (h:xs[xs.length - 1]?=some d):L2.atI xs (-1)=some d:=by
 have lt:=(A3.mp h).1
 unfold L2.atI L2.ixN
 rw [if_neg (by decide),if_pos (by omega)]
 rw [show ((-1:Int)+(xs.length:Int)).toNat=xs.length - 1 by omega,Option.bind_some]
 exact h
structure Ris (n:Nat) (r:List Nat):Prop where
 up:r.Pairwise (· < ·)
 lt:∀ x ∈ r,x < n
theorem Ris.at {n:Nat} {r:List Nat} (h:Ris n r) {i j:Nat} (hij:i < j) (hj:j < r.length):el r i < el r j:=by
 have:=List.pairwise_iff_getElem.mp h.up i j (by omega) hj hij
 have e1:=nV (L:=r) (i:=i) (by omega)
 have e2:=nV (L:=r) (i:=j) hj
 rw [AY (by omega)] at e1 e2
 injection e1 with e1
 injection e2 with e2
 omega
theorem Ris.sub {n:Nat} {r q:List Nat} (h:Ris n r) (s:q.Sublist r):Ris n q:=⟨h.up.sublist s,fun x hx=>h.lt x (s.subset hx)⟩
theorem rC {n:Nat}:∀ (r:List Nat) (a:Nat),r.Pairwise (· < ·)->(∀ x ∈ r,a<=x/\x < n)->r.length<=n - a
 | [],a,_,_=>Nat.zero_le _
 | x :: r,a,hp,hb=>by
  rw [List.pairwise_cons] at hp
  have h0:=hb x AR
  have:=rC r (x+1) hp.2 fun y hy=>⟨hp.1 y hy,(hb y (AS _ hy)).2⟩
  rw [Bj]
  omega
theorem Ris.len {n:Nat} {r:List Nat} (h:Ris n r):r.length<=n:=rC r 0 h.up fun x hx=>⟨Nat.zero_le _,h.lt x hx⟩
set_option tactic.hygienic true in
theorem rA {n:Nat} {r:List Nat} (h:Ris n r) (hn:n<=24):bS [(.tup (Nd r),.z),(.int (n:Int),.z)]=some (.ok (.bl true,.z),[(.tup (Nd r),.z),(.int (n:Int),.z)]):=by
 have rl:=h.len
 obtain ⟨τ',e,a,rfl⟩:=bY (bnd:=ao 0) (c:=dD) (elt:=b8) (fun τ=>∃ a,τ=[a,some (.int (n:Int),.z)]) (fun i:Nat=>L3.D.int (i:Int)) (fun _=>true) (fun _=>.bl true) (xs:=r) (τ:=[none,some (.int (n:Int),.z)]) ⟨none,rfl⟩ (by
  rintro k hk τ ⟨a,rfl⟩
  have:=h.lt k hk
  have pl:=sR (i:=(k:Int)) (n:=(n:Int)) (by omega) (by omega)
  exact ⟨[some (.int (k:Int),.z),some (.int (n:Int),.z)],_,rfl,rfl,(fun h=>by cases h),fun _=>⟨.val (.bl true) .z,[some (.int (k:Int),.z),some (.int (n:Int),.z)],(.bl true,.z),_,by unfold b8;(repeat' (first | infer_instance | with_reducible apply aC (pl) | eq_refl)),rfl,rfl,_,rfl⟩⟩)
 rw [By.mpr (fun _ _=>rfl)] at e
 have e1:dq [some (.tup (Nd r),.z),some (.int (n:Int),.z)]=some (.ok (.val (.lst (r.map fun _=>.bl true)) .u),[some (.tup (Nd r),.z),some (.int (n:Int),.z)]):=bp (rs:=[.pl 0]) (ρ1:=[some (.tup (Nd r),.z),some (.int (n:Int),.z)]) (ρ2:=[some (.tup (Nd r),.z),some (.int (n:Int),.z)]) rfl e (by rw [A2];omega) rfl
 have a1:=lT (fun _:Nat=>true) r
 rw [List.all_eq_true.mpr (fun _ _=>rfl)] at a1
 obtain ⟨τ2,f,b,rfl⟩:=bY (bnd:=ao 0) (c:=dD) (elt:=du) (fun τ=>∃ a,τ=[a,some (.tup (Nd r),.z)]) (fun i:Nat=>L3.D.int (0+(i:Int))) (fun _=>true) (fun _=>.bl true) (xs:=List.range (r.length - 1)) (τ:=[none,some (.tup (Nd r),.z)]) ⟨none,rfl⟩ (by
  rintro k hk τ ⟨a,rfl⟩
  rw [List.mem_range] at hk
  rw [Int.zero_add]
  have g1:=uA (r:=r) (i:=k) (by omega)
  have g2:aw (.tup (Nd r)) (.int ((k:Int)+1))=some (.int (el r (k+1)),.z):=by
   have:=uA (r:=r) (i:=k+1) (by omega)
   rw [Int.natCast_add] at this
   exact this
  have hl:ltI (.int (el r k)) (.int (el r (k+1)))=some (.bl true,.z):=by
   have:=h.at (show k < k+1 by omega) (by omega)
   simp [cV];omega
  exact ⟨[some (.int (k:Int),.z),some (.tup (Nd r),.z)],_,rfl,rfl,(fun h=>by cases h),fun _=>⟨.val (.bl true) .z,[some (.int (k:Int),.z),some (.tup (Nd r),.z)],(.bl true,.z),_,d8 (d8 (bf rfl) (bf rfl) rfl rfl g1) (d8 (bf rfl) (d8 (bf rfl) i_c rfl rfl rfl) rfl rfl g2) rfl rfl hl,rfl,rfl,_,rfl⟩⟩)
 rw [By.mpr (fun _ _=>rfl)] at f
 have hr:bQ [.int (((Nd r).length:Int) - 1)]=some (bx 0 (r.length - 1)):=dR (by first | (simp;done) | (simp;omega)) (by first | (simp;done) | (simp;omega))
 have e2:dn [some (.tup (Nd r),.z),some (.int (n:Int),.z)]=some (.ok (.val (.lst ((List.range (r.length - 1)).map fun _=>.bl true)) .u),[some (.tup (Nd r),.z),some (.int (n:Int),.z)]):=bp (rs:=[]) (ρ1:=[some (.tup (Nd r),.z),some (.int (n:Int),.z)]) (ds:=bx 0 (r.length - 1)) (by (repeat' (first | with_reducible apply d7 (h3:=hr) | infer_instance | eq_refl))) f (by rw [ce];omega) rfl
 have a2:=lT (fun _:Nat=>true) (List.range (r.length - 1))
 rw [List.all_eq_true.mpr (fun _ _=>rfl)] at a2
 apply bg (ρ:=[some (.tup (Nd r),.z),some (.int (n:Int),.z)]) rfl rfl
 ·apply aq (ρ1:=[some (.tup (Nd r),.z),some (.int (n:Int),.z)])
  ·apply dI
   ·apply gp (b:=false)
    ·(repeat' (first | infer_instance | eq_refl))
    ·rfl
    ·exact dy (lH (fQ (bJ e1 eE) rfl a1) rfl)
   ·rfl
   ·rfl
  ·exact cX (fQ (bJ e2 eE) rfl a2) rfl
 ·rfl
theorem cut3 {xs:List L3.D} {a:Nat} (hx:a+3<=xs.length):slD (.tup xs) (some (a:Int)) (some ((a:Int)+3))=some (.tup ((xs.drop a).take 3),.z):=by
 have e:fG xs (some (a:Int)) (some ((a:Int)+3))=(xs.drop a).take 3:=by
  unfold fG
  rw [show ((a:Int)+3)=((a+3:Nat):Int) by omega,HT.sIx_nat,HT.sIx_nat]
  by_cases h:a+3<=xs.length
  ·rw [show min a xs.length=a by omega,show min (a+3) xs.length=a+3 by omega,show a+3 - a=3 by omega]
  ·omega
 show some ((.tup (fG xs (some (a:Int)) (some ((a:Int)+3))),.z):L3.D × Fl)=_
 rw [e]
theorem uu {r:List Nat} {a:Nat} (h:a+3<=r.length):((Nd r).drop a).take 3=[.int (el r a),.int (el r (a+1)),.int (el r (a+2))]:=by
 have e:∀ i,i < r.length->(Nd r)[i]?=some (.int (el r i)):=fun i hi=>rj hi
 have l:(Nd r).length=r.length:=by simp
 apply List.ext_getElem?
 intro i
 rw [List.getElem?_take,List.getElem?_drop]
 match i with
 | 0=>simpa using e a (by omega)
 | 1=>simpa using e (a+1) (by omega)
 | 2=>simpa using e (a+2) (by omega)
 | i+3=>simp;omega
noncomputable def rb (s:Sg) (row:List Nat) (way:Int):Bool:=(List.range (row.length - 2)).all fun a=>decide (s.f (el row a) (el row (a+1)) (el row (a+2))=way)
set_option tactic.hygienic true in
theorem zI {s:Sg} {T:List (List Key × L3.D)} (hT:jc s T) {row:List Nat} (h:Ris s.length row) (hn:s.length<=24) {way:Int}:fR [(.dt T,.u),(.tup (Nd row),.z),(.int way,.z)]=some (.ok (.bl (rb s row way),.z),[(.dt T,.u),(.tup (Nd row),.z),(.int way,.z)]):=by
 have rl:=h.len
 have l:(Nd row).length=row.length:=by simp
 obtain ⟨τ',e,a,rfl⟩:=bY (bnd:=ao 0) (c:=dD) (elt:=fg) (fun τ=>∃ a,τ=[a,some (.int way,.z),some (.dt T,.u),some (.tup (Nd row),.z)]) (fun i:Nat=>L3.D.int (0+(i:Int))) (fun _=>true) (fun a=>.bl (decide (s.f (el row a) (el row (a+1)) (el row (a+2))=way))) (xs:=List.range (row.length - 2)) (τ:=[none,some (.int way,.z),some (.dt T,.u),some (.tup (Nd row),.z)]) ⟨none,rfl⟩ (by
  rintro k hk τ ⟨a,rfl⟩
  rw [List.mem_range] at hk
  rw [Int.zero_add]
  have c:=cut3 (xs:=Nd row) (a:=k) (by omega)
  rw [uu (by omega)] at c
  have g:=kE (hT (el row k) (el row (k+1)) (el row (k+2)) (h.at (by omega) (by omega)) (h.at (by omega) (by omega)) (h.lt _ (wc (by omega))))
  have q:eqX (.int (s.f (el row k) (el row (k+1)) (el row (k+2)))) (.int way)=some (.bl (decide (s.f (el row k) (el row (k+1)) (el row (k+2))=way)),.z):=rfl
  refine ⟨[some (.int (k:Int),.z),some (.int way,.z),some (.dt T,.u),some (.tup (Nd row),.z)],_,rfl,rfl,(fun h=>by cases h),fun _=>⟨.val (.bl _) .z,[some (.int (k:Int),.z),some (.int way,.z),some (.dt T,.u),some (.tup (Nd row),.z)],(.bl _,.z),_,?_,rfl,rfl,_,rfl⟩⟩
  unfold fg
  (repeat' (first | infer_instance | exact c | exact g | exact q | eq_refl)))
 rw [By.mpr (fun _ _=>rfl)] at e
 have hr:bQ [.int (((Nd row).length:Int) - 2)]=some (bx 0 (row.length - 2)):=dR (by omega) (by omega)
 have e2:iw [some (.dt T,.u),some (.tup (Nd row),.z),some (.int way,.z)]=some (.ok (.val (.lst ((List.range (row.length - 2)).map fun a=>.bl (decide (s.f (el row a) (el row (a+1)) (el row (a+2))=way)))) .u),[some (.dt T,.u),some (.tup (Nd row),.z),some (.int way,.z)]):=bp (rs:=[]) (ρ1:=[some (.dt T,.u),some (.tup (Nd row),.z),some (.int way,.z)]) (ds:=bx 0 (row.length - 2)) (by (repeat' (first | with_reducible apply d7 (h3:=hr) | infer_instance | eq_refl))) e (by rw [ce];omega) rfl
 have al:=lT (fun a=>decide (s.f (el row a) (el row (a+1)) (el row (a+2))=way)) (List.range (row.length - 2))
 apply bg (ρ:=[some (.dt T,.u),some (.tup (Nd row),.z),some (.int way,.z)]) rfl rfl
 ·exact cX (fQ (bJ e2 eE) rfl al) rfl
 ·rfl
noncomputable def sd (s:Sg) (a:Nat) (mid:List Nat) (z:Nat) (way:Int):List Nat:=[a] ++ mid.filter (fun p=>decide (s.f a p z=way)) ++ [z]
theorem si (a z:Nat) (mid:List Nat):slD (.tup (Nd ([a] ++ mid ++ [z]))) (some 1) (some (-1))=some (.tup (Nd mid),.z):=by
 have e:fG (Nd ([a] ++ mid ++ [z])) (some 1) (some (-1))=Nd mid:=by
  unfold fG
  have l:(Nd ([a] ++ mid ++ [z])).length=mid.length+2:=by simp
  rw [l]
  have h1:HT.sIx (mid.length+2) 0 (some 1)=1:=by
   have:=HT.sIx_nat (mid.length+2) 0 1
   rw [show min 1 (mid.length+2)=1 by omega] at this
   exact this
  have h2:HT.sIx (mid.length+2) (mid.length+2) (some (-1))=mid.length+1:=by
   unfold HT.sIx
   simp
   omega
  rw [h1,h2]
  simp
 show some ((.tup (fG (Nd ([a] ++ mid ++ [z])) (some 1) (some (-1))),.z):L3.D × Fl)=_
 rw [e]
theorem qC {n a z:Nat} {mid:List Nat} (h:Ris n ([a] ++ mid ++ [z])):z < n/\a < z/\∀ x ∈ mid,a < x/\x < z:=by
 have p:=h.up
 rw [List.pairwise_append] at p
 obtain ⟨p1,_,p3⟩:=p
 have pz:∀ x ∈ [a] ++ mid,x < z:=fun x hx=>p3 x hx z (by simp)
 rw [List.singleton_append,List.pairwise_cons] at p1
 exact ⟨h.lt z (by simp),pz a (by simp),fun x hx=>⟨p1.1 x hx,pz x (by simp [hx])⟩⟩
theorem uK {s:Sg} {a z:Nat} {mid:List Nat} {way:Int} (h:Ris s.length ([a] ++ mid ++ [z])):Ris s.length (sd s a mid z way) :=
 h.sub (((List.Sublist.refl [a]).append List.filter_sublist).append (List.Sublist.refl [z]))
set_option tactic.hygienic true in
theorem uO {s:Sg} {T:List (List Key × L3.D)} (hT:jc s T) {a z:Nat} {mid:List Nat} (h:Ris s.length ([a] ++ mid ++ [z])) (hn:s.length<=24) {way:Int}:gN [(.dt T,.u),(.tup (Nd ([a] ++ mid ++ [z])),.z),(.int way,.z)]=some (.ok (.tup (Nd (sd s a mid z way)),.z),[(.dt T,.u),(.tup (Nd ([a] ++ mid ++ [z])),.z),(.int way,.z)]):=by
 obtain ⟨hz,haz,hm⟩:=qC h
 have rl:=h.len
 have ml:mid.length<=24:=by simp at rl;omega
 have fl:(mid.filter fun p=>decide (s.f a p z=way)).length<=24:=Bw (List.length_filter_le _ _) ml
 have cm:=si a z mid
 have g0:aw (.tup (Nd ([a] ++ mid ++ [z]))) (.int 0)=some (.int a,.z):=en (lS (i:=0) (by simp))
 have g1:aw (.tup (Nd ([a] ++ mid ++ [z]))) (.int (-1))=some (.int z,.z):=en (om (by simp))
 obtain ⟨τ',e,v,rfl⟩:=bY (bnd:=ao 0) (c:=dS) (elt:=fV) (fun τ=>∃ v,τ=[v,some (.int way,.z),some (.dt T,.u),some (.int a,.z),some (.int z,.z)]) (fun i:Nat=>L3.D.int (i:Int)) (fun p=>decide (s.f a p z=way)) (fun i:Nat=>L3.D.int (i:Int)) (xs:=mid) (τ:=[none,some (.int way,.z),some (.dt T,.u),some (.int a,.z),some (.int z,.z)]) ⟨none,rfl⟩ (by
  rintro x hx τ ⟨v,rfl⟩
  have g:=kE (hT a x z (hm x hx).1 (hm x hx).2 hz)
  have q:eqX (.int (trn s a x z)) (.int way)=some (.bl (decide (s.f a x z=way)),.z):=rfl
  refine ⟨[some (.int (x:Int),.z),some (.int way,.z),some (.dt T,.u),some (.int a,.z),some (.int z,.z)],[some (.int (x:Int),.z),some (.int way,.z),some (.dt T,.u),some (.int a,.z),some (.int z,.z)],rfl,?_,fun _=>⟨_,rfl⟩,fun _=>⟨_,_,(.int (x:Int),.z),[some (.int (x:Int),.z),some (.int way,.z),some (.dt T,.u),some (.int a,.z),some (.int z,.z)],bf rfl,rfl,rfl,_,rfl⟩⟩
  unfold dS
  (repeat' (first | infer_instance | exact g | exact q | eq_refl)))
 have ml2:(Nd mid).length < 16777216:=by rw [A2];omega
 have hsd:Nd (sd s a mid z way)=([.int a] ++ Nd (mid.filter fun p=>decide (s.f a p z=way))) ++ [.int z]:=by simp [sd]
 rw [hsd]
 generalize hF:mid.filter (fun p=>decide (s.f a p z=way))=F at *
 have k1:bC (.tup [.int a]) (.tup (Nd F))=some (.tup ([.int a] ++ Nd F),.z):=iS (by simp;omega)
 have k2:bC (.tup ([.int a] ++ Nd F)) (.tup [.int z])=some (.tup (([.int a] ++ Nd F) ++ [.int z]),.z):=iS (by simp;omega)
 have tp:m9 [.lst (Nd F)]=some (.tup (Nd F),.z):=rfl
 generalize hR:L3.D.tup (Nd ([a] ++ mid ++ [z]))=R at *
 generalize hM:Nd mid=M at *
 have e':cn (ao 0) dS fV M [none,some (.int way,.z),some (.dt T,.u),some (.int a,.z),some (.int z,.z)]=some (.ok (Nd F),[v,some (.int way,.z),some (.dt T,.u),some (.int a,.z),some (.int z,.z)]):=by rw [<- hM];exact e
 have e2:i5 [some (.dt T,.u),some (R,.z),some (.int way,.z),some (.int a,.z),some (.int z,.z)]=some (.ok (.val (.lst (Nd F)) .u),[some (.dt T,.u),some (R,.z),some (.int way,.z),some (.int a,.z),some (.int z,.z)]):=bp (rs:=[.val (.tup M) .z]) (ρ1:=[some (.dt T,.u),some (R,.z),some (.int way,.z),some (.int a,.z),some (.int z,.z)]) (by (repeat' (first | infer_instance | exact cm | eq_refl))) e' ml2 rfl
 apply bg (ρ:=[some (.dt T,.u),some (R,.z),some (.int way,.z),none,none]) (ρ1:=[some (.dt T,.u),some (R,.z),some (.int way,.z),some (.int a,.z),some (.int z,.z)]) rfl rfl
 ·unfold lC
  apply aq (ρ1:=[some (.dt T,.u),some (R,.z),some (.int way,.z),some (.int a,.z),none])
  ·(repeat' (first | infer_instance | exact g0 | eq_refl))
  apply aq (ρ1:=[some (.dt T,.u),some (R,.z),some (.int way,.z),some (.int a,.z),some (.int z,.z)])
  ·(repeat' (first | infer_instance | exact g1 | eq_refl))
  ·have d1:(bc (ab (ac 3) ah)) [some (.dt T,.u),some (R,.z),some (.int way,.z),some (.int a,.z),some (.int z,.z)]=some (.ok (.val (.tup [.int a]) .z),[some (.dt T,.u),some (R,.z),some (.int way,.z),some (.int a,.z),some (.int z,.z)]):=by (repeat' (first | infer_instance | eq_refl))
   have d2:(bc (ab (ac 4) ah)) [some (.dt T,.u),some (R,.z),some (.int way,.z),some (.int a,.z),some (.int z,.z)]=some (.ok (.val (.tup [.int z]) .z),[some (.dt T,.u),some (R,.z),some (.int way,.z),some (.int a,.z),some (.int z,.z)]):=by (repeat' (first | infer_instance | eq_refl))
   exact cX (d8 (d8 d1 (fQ (bJ e2 eE) rfl tp) rfl rfl k1) d2 rfl rfl k2) rfl
 ·rfl
noncomputable def mD (s:Sg) (a:Nat) (mid:List Nat) (z:Nat):Bool:=rb s (sd s a mid z 1) 1 && rb s (sd s a mid z (-1)) (-1)
set_option tactic.hygienic true in
theorem uP {s:Sg} {T:List (List Key × L3.D)} (hT:jc s T) {a z:Nat} {mid:List Nat} (h:Ris s.length ([a] ++ mid ++ [z])) (h3:mid ≠ []) (hn:s.length<=24):bN [(.dt T,.u),(.tup (Nd ([a] ++ mid ++ [z])),.z),(.int (s.length:Int),.z)]=some (.ok (.bl (mD s a mid z),.z),[(.dt T,.u),(.tup (Nd ([a] ++ mid ++ [z])),.z),(.int (s.length:Int),.z)]):=by
 have ri:=rA h hn
 have rl:=h.len
 have f:∀ way:Int,cM [some (.int way,.z),some (.dt T,.u),some (.tup (Nd ([a] ++ mid ++ [z])),.z)]=some (.ok (.val (.bl (rb s (sd s a mid z way) way)) .z),[some (.int way,.z),some (.dt T,.u),some (.tup (Nd ([a] ++ mid ++ [z])),.z)]):=fun way=>by
  have e1:=uO (way:=way) hT h hn
  have e2:=zI (way:=way) hT (uK (way:=way) h) hn
  generalize L3.D.tup (Nd ([a] ++ mid ++ [z]))=R at *
  generalize L3.D.tup (Nd (sd s a mid z way))=R2 at *
  unfold cM
  (repeat' (first | infer_instance | with_reducible apply aC (e2) | with_reducible apply aC (e1) | eq_refl))
 have hl:ltI (.int ((Nd ([a] ++ mid ++ [z])).length:Int)) (.int 3)=some (.bl false,.z):=by
  have:0 < mid.length:=List.length_pos_iff.mpr h3
  simp [cV];omega
 have ln:d6 [.tup (Nd ([a] ++ mid ++ [z]))]=some (.int ((Nd ([a] ++ mid ++ [z])).length:Int),.z):=rfl
 generalize ((Nd ([a] ++ mid ++ [z])).length:Int)=N at *
 generalize L3.D.tup (Nd ([a] ++ mid ++ [z]))=R at *
 obtain ⟨τ',e,v,rfl⟩:=bY (bnd:=ao 0) (c:=dD) (elt:=cM) (fun τ=>∃ v,τ=[v,some (.dt T,.u),some (R,.z)]) L3.D.int (fun _=>true) (fun way=>.bl (rb s (sd s a mid z way) way)) (xs:=[1,-1]) (τ:=[none,some (.dt T,.u),some (R,.z)]) ⟨none,rfl⟩ (by
  rintro way hw τ ⟨v,rfl⟩
  exact ⟨[some (.int way,.z),some (.dt T,.u),some (R,.z)],_,rfl,rfl,(fun h=>by cases h),fun _=>⟨_,[some (.int way,.z),some (.dt T,.u),some (R,.z)],(.bl _,.z),_,f way,rfl,rfl,_,rfl⟩⟩)
 rw [By.mpr (fun _ _=>rfl)] at e
 have e2:gR [some (.dt T,.u),some (R,.z),some (.int (s.length:Int),.z)]=some (.ok (.val (.lst ([1,-1].map fun way=>.bl (rb s (sd s a mid z way) way))) .u),[some (.dt T,.u),some (R,.z),some (.int (s.length:Int),.z)]):=bp (rs:=[.val (.tup [.int 1,.int (-1)]) .z]) (ρ1:=[some (.dt T,.u),some (R,.z),some (.int (s.length:Int),.z)]) (by (repeat' (first | infer_instance | eq_refl))) e (by decide) rfl
 have al:=lT (fun way=>rb s (sd s a mid z way) way) [1,-1]
 have hB:[1,-1].all (fun way=>rb s (sd s a mid z way) way)=mD s a mid z:=by simp [mD]
 rw [hB] at al
 generalize L3.D.int (s.length:Int)=LN at *
 apply bg (ρ:=[some (.dt T,.u),some (R,.z),some (LN,.z)]) rfl rfl
 ·apply aq (ρ1:=[some (.dt T,.u),some (R,.z),some (LN,.z)])
  ·refine dI (b:=false) (gp (b:=false) (ρ1:=[some (.dt T,.u),some (R,.z),some (LN,.z)]) ?_ rfl ?_) rfl rfl
   ·exact dy (lH (aC ri (bJ (bf rfl) (bJ (bf rfl) eE)) rfl rfl rfl) rfl)
   ·(repeat' (first | infer_instance | exact ln | exact hl | eq_refl))
  ·exact cX (fQ (bJ e2 eE) rfl al) rfl
 ·rfl
theorem u6 {α:Type} (f:α->Int):∀ l:List α,∃ qs,l7 (l.map fun x=>L3.D.int (f x))=some qs/\PyData.canLayAll0 qs=true/\PyData.depthAll qs<=10/\qs.length=l.length
 | []=>⟨[],rfl,rfl,by decide,rfl⟩
 | x :: l=>by
  obtain ⟨qs,e1,e2,e3,e4⟩:=u6 f l
  refine ⟨.int (f x) :: qs,?_,?_,?_,?_⟩
  ·show (match pyD (.int (f x)),l7 (l.map fun x=>L3.D.int (f x)) with | some p,some ps=>some (p :: ps) | _,_=>none)=_
   rw [e1];rfl
  ·simp [PyData.canLayAll0,PyData.canLay0,e2]
  ·simp [PyData.depthAll,PyData.depth];omega
  ·simp [e4]
theorem xW {α:Type} (f:α->Int) (L:List α):neX (.lst (L.map fun x=>L3.D.int (f x))) (.lst [])=some (.bl (!L.isEmpty),.z):=by
 obtain ⟨qs,e1,e2,e3,e4⟩:=u6 f L
 have p1:pyD (.lst (L.map fun x=>L3.D.int (f x)))=some (.list qs):=by unfold pyD;rw [e1];rfl
 have h:eqP (.lst (L.map fun x=>L3.D.int (f x))) (.lst [])=some L.isEmpty:=by
  have p2:pyD (.lst [])=some (.list []):=rfl
  unfold eqP
  rw [p1,p2]
  have:((PyData.list qs).canLay0 && (PyData.list []).canLay0 && decide (min (PyData.list qs).depth (PyData.list []).depth<=30))=true:=by
   simp [PyData.canLay0,e2,PyData.depth,PyData.canLayAll0];omega
  show (if _ then _ else _)=_
  rw [if_pos this]
  cases L with
  | nil =>
   have:qs=[]:=BD.mp e4
   subst this
   rfl
  | cons x L =>
   cases qs with
   | nil=>simp at e4
   | cons y qs=>rfl
 show (eqA _ _).map _=_
 have h1:eqA (.lst (L.map fun x=>L3.D.int (f x))) (.lst [])=some L.isEmpty:=h
 rw [h1];rfl
theorem Ak {s:Sg} {row:List Nat} {way:Int}:((List.range (row.length - 2)).filter fun a=>!decide (s.f (el row a) (el row (a+1)) (el row (a+2))=way)).isEmpty=rb s row way:=by
 unfold rb
 generalize List.range (row.length - 2)=l
 induction l with
 | nil=>rfl
 | cons x l ih =>
  cases e:decide (s.f (el row x) (el row (x+1)) (el row (x+2))=way) with
  | true=>rw [List.filter_cons_of_neg (by simp [e]),List.all_cons,e,Bool.true_and];exact ih
  | false=>rw [List.filter_cons_of_pos (by simp [e]),List.all_cons,e];rfl
set_option tactic.hygienic true in
theorem oQ {s:Sg} {T:List (List Key × L3.D)} (hT:jc s T) {a z:Nat} {mid:List Nat} (h:Ris s.length ([a] ++ mid ++ [z])) (hn:s.length<=24) {way:Int} {v3:Option (L3.D × Fl)} :
  bW [some (.dt T,.u),some (.tup (Nd ([a] ++ mid ++ [z])),.z),some (.int way,.z),v3]=some (.ok (if rb s (sd s a mid z way) way=true then .nx else .rt (.bl false) .z),[some (.dt T,.u),some (.tup (Nd ([a] ++ mid ++ [z])),.z),some (.int way,.z),some (.lst (Nd (sd s a mid z way)),.u)]):=by
 obtain ⟨hz,haz,hm⟩:=qC h
 have rl:=h.len
 have ml:mid.length<=24:=by simp at rl;omega
 have fl:(mid.filter fun p=>decide (s.f a p z=way)).length<=24:=Bw (List.length_filter_le _ _) ml
 have cm:=si a z mid
 have g0:aw (.tup (Nd ([a] ++ mid ++ [z]))) (.int 0)=some (.int a,.z):=en (lS (i:=0) (by simp))
 have g1:aw (.tup (Nd ([a] ++ mid ++ [z]))) (.int (-1))=some (.int z,.z):=en (om (by simp))
 have hs:=uK (way:=way) h
 have sl:=hs.len
 generalize hR:L3.D.tup (Nd ([a] ++ mid ++ [z]))=R at *
 obtain ⟨τ',e,v,rfl⟩:=bY (bnd:=ao 0) (c:=dg) (elt:=fh) (fun τ=>∃ v,τ=[v,some (.int way,.z),some (.dt T,.u),some (R,.z)]) (fun i:Nat=>L3.D.int (i:Int)) (fun p=>decide (s.f a p z=way)) (fun i:Nat=>L3.D.int (i:Int)) (xs:=mid) (τ:=[none,some (.int way,.z),some (.dt T,.u),some (R,.z)]) ⟨none,rfl⟩ (by
  rintro x hx τ ⟨v,rfl⟩
  have g:=kE (hT a x z (hm x hx).1 (hm x hx).2 hz)
  have q:eqX (.int (trn s a x z)) (.int way)=some (.bl (decide (s.f a x z=way)),.z):=rfl
  refine ⟨[some (.int (x:Int),.z),some (.int way,.z),some (.dt T,.u),some (R,.z)],[some (.int (x:Int),.z),some (.int way,.z),some (.dt T,.u),some (R,.z)],rfl,?_,fun _=>⟨_,rfl⟩,fun _=>⟨_,_,(.int (x:Int),.z),[some (.int (x:Int),.z),some (.int way,.z),some (.dt T,.u),some (R,.z)],bf rfl,rfl,rfl,_,rfl⟩⟩
  unfold dg
  (repeat' (first | infer_instance | exact g0 | exact g1 | exact g | exact q | eq_refl)))
 have ml2:(Nd mid).length < 16777216:=by rw [A2];omega
 have hsd:Nd (sd s a mid z way)=([.int a] ++ Nd (mid.filter fun p=>decide (s.f a p z=way))) ++ [.int z]:=by simp [sd]
 have ek:∀ {k:Nat},k < (sd s a mid z way).length->aw (.lst (Nd (sd s a mid z way))) (.int (k:Int))=some (.int (el (sd s a mid z way) k),.z):=fun hk=>wZ hk
 generalize hW:sd s a mid z way=W at *
 obtain ⟨τ2,f,v2,rfl⟩:=bY (bnd:=ao 0) (c:=fj) (elt:=iB) (fun τ=>∃ v,τ=[v,some (.int way,.z),some (.dt T,.u),some (.lst (Nd W),.u)]) (fun i:Nat=>L3.D.int (2+(i:Int))) (fun k=>!decide (s.f (el W k) (el W (k+1)) (el W (k+2))=way)) (fun i:Nat=>L3.D.int (2+(i:Int))) (xs:=List.range (W.length - 2)) (τ:=[none,some (.int way,.z),some (.dt T,.u),some (.lst (Nd W),.u)]) ⟨none,rfl⟩ (by
  rintro k hk τ ⟨v,rfl⟩
  rw [List.mem_range] at hk
  have g:=kE (hT (el W k) (el W (k+1)) (el W (k+2)) (hs.at (by omega) (by omega)) (hs.at (by omega) (by omega)) (hs.lt _ (wc (by omega))))
  have k0:aw (.lst (Nd W)) (.int (2+(k:Int) - 2))=some (.int (el W k),.z):=by rw [show (2+(k:Int) - 2)=(k:Int) by omega];exact ek (by omega)
  have k1:aw (.lst (Nd W)) (.int (2+(k:Int) - 1))=some (.int (el W (k+1)),.z):=by rw [show (2+(k:Int) - 1)=((k+1:Nat):Int) by omega];exact ek (by omega)
  have k2:aw (.lst (Nd W)) (.int (2+(k:Int)))=some (.int (el W (k+2)),.z):=by rw [show (2+(k:Int))=((k+2:Nat):Int) by omega];exact ek (by omega)
  have q:neX (.int (trn s (el W k) (el W (k+1)) (el W (k+2)))) (.int way)=some (.bl (!decide (s.f (el W k) (el W (k+1)) (el W (k+2))=way)),.z):=rfl
  generalize el W k=x0 at *
  generalize el W (k+1)=x1 at *
  generalize el W (k+2)=x2 at *
  generalize (2+(k:Int))=kk at *
  generalize L3.D.lst (Nd W)=LW at *
  refine ⟨[some (.int kk,.z),some (.int way,.z),some (.dt T,.u),some (LW,.u)],[some (.int kk,.z),some (.int way,.z),some (.dt T,.u),some (LW,.u)],rfl,?_,fun _=>⟨_,rfl⟩,fun _=>⟨_,_,(.int kk,.z),[some (.int kk,.z),some (.int way,.z),some (.dt T,.u),some (LW,.u)],bf rfl,rfl,rfl,_,rfl⟩⟩
  unfold fj
  (repeat' (first | infer_instance | exact k0 | exact k1 | exact k2 | exact g | exact q | eq_refl)))
 have hr:ie [.int 2,.int ((Nd W).length:Int)]=some (bx 2 (W.length - 2)):=kP (by omega) (by simp;omega) (by simp;omega)
 have ne:=xW (fun i:Nat=>2+(i:Int)) ((List.range (W.length - 2)).filter fun k=>!decide (s.f (el W k) (el W (k+1)) (el W (k+2))=way))
 rw [Ak] at ne
 generalize hB:rb s W way=B at *
 have e':cn (ao 0) dg fh (Nd mid) [none,some (.int way,.z),some (.dt T,.u),some (R,.z)]=some (.ok (Nd (mid.filter fun p=>decide (s.f a p z=way))),[v,some (.int way,.z),some (.dt T,.u),some (R,.z)]):=e
 generalize hF:mid.filter (fun p=>decide (s.f a p z=way))=F at *
 have k1:bC (.lst [.int a]) (.lst (Nd F))=some (.lst ([.int a] ++ Nd F),.u):=nY (by simp;omega)
 have k2:bC (.lst ([.int a] ++ Nd F)) (.lst [.int z])=some (.lst (Nd W),.u):=by rw [hsd];exact nY (by simp;omega)
 have fo:(Nd W).length<=1000:=by rw [A2];omega
 have l1:iA [some (.dt T,.u),some (R,.z),some (.int way,.z),v3]=some (.ok (.val (.lst (Nd F)) .u),[some (.dt T,.u),some (R,.z),some (.int way,.z),v3]):=bp (rs:=[.val (.tup (Nd mid)) .z]) (ρ1:=[some (.dt T,.u),some (R,.z),some (.int way,.z),v3]) (by (repeat' (first | infer_instance | exact cm | eq_refl))) e' ml2 rfl
 have l2:iz [some (.dt T,.u),some (R,.z),some (.int way,.z),some (.lst (Nd W),.u)]=some (.ok (.val (.lst (((List.range (W.length - 2)).filter fun k=>!decide (s.f (el W k) (el W (k+1)) (el W (k+2))=way)).map fun i:Nat=>L3.D.int (2+(i:Int)))) .u),[some (.dt T,.u),some (R,.z),some (.int way,.z),some (.lst (Nd W),.u)]):=bp (rs:=[]) (ρ1:=[some (.dt T,.u),some (R,.z),some (.int way,.z),some (.lst (Nd W),.u)]) (ds:=bx 2 (W.length - 2)) (by (repeat' (first | with_reducible apply d7 (h3:=hr) | infer_instance | eq_refl))) f (by rw [ce];omega) rfl
 generalize ((List.range (W.length - 2)).filter fun k=>!decide (s.f (el W k) (el W (k+1)) (el W (k+2))=way)).map (fun i:Nat=>L3.D.int (2+(i:Int)))=O at *
 have d1:(cU (ab (aj aw (ac 1) (mC (.int 0))) ah)) [some (.dt T,.u),some (R,.z),some (.int way,.z),v3]=some (.ok (.val (.lst [.int a]) .u),[some (.dt T,.u),some (R,.z),some (.int way,.z),v3]):=by (repeat' (first | infer_instance | exact g0 | eq_refl))
 have d2:(cU (ab (aj aw (ac 1) (mUn jD (mC (.int 1)))) ah)) [some (.dt T,.u),some (R,.z),some (.int way,.z),v3]=some (.ok (.val (.lst [.int z]) .u),[some (.dt T,.u),some (R,.z),some (.int way,.z),v3]):=by (repeat' (first | infer_instance | exact g1 | eq_refl))
 generalize hLW:L3.D.lst (Nd W)=LW at *
 have d3:(cU ah) [some (.dt T,.u),some (R,.z),some (.int way,.z),some (LW,.u)]=some (.ok (.val (.lst []) .u),[some (.dt T,.u),some (R,.z),some (.int way,.z),some (LW,.u)]):=rfl
 unfold bW
 apply aq (ρ1:=[some (.dt T,.u),some (R,.z),some (.int way,.z),some (LW,.u)])
 ·exact mQ (d8 (d8 d1 l1 rfl rfl k1) d2 rfl rfl k2) rfl (Nat.le_of_ble_eq_true rfl) rfl
 cases B with
 | true=>exact dI (b:=false) (lH (d8 l2 d3 rfl rfl ne) rfl) rfl rfl
 | false=>exact jL (b:=true) (lH (d8 l2 d3 rfl rfl ne) rfl) rfl (cX i_c rfl)
theorem vY {bnd:L3.D->Sto->Option Sto} {b:SM} {d:L3.D} {ds:List L3.D} {ρ ρ1 ρ2:Sto} {x:Option (Except L3.D Flw × Sto)} (h1:bnd d ρ=some ρ1) (h2:b ρ1=some (.ok .nx,ρ2)) (h3:dA bnd b ds ρ2=x):dA bnd b (d :: ds) ρ=x:=by
 simp only [dA,h1,ag,h2,h3]
theorem y9 {bnd:L3.D->Sto->Option Sto} {b:SM} {d:L3.D} {ds:List L3.D} {ρ ρ1 ρ2:Sto} {y:L3.D} {g:Fl} (h1:bnd d ρ=some ρ1) (h2:b ρ1=some (.ok (.rt y g),ρ2)):dA bnd b (d :: ds) ρ=some (.ok (.rt y g),ρ2):=by
 simp only [dA,h1,ag,h2];rfl
set_option tactic.hygienic true in
theorem zH {s:Sg} {T:List (List Key × L3.D)} (hT:jc s T) {a z:Nat} {mid:List Nat} (h:Ris s.length ([a] ++ mid ++ [z])) (hn:s.length<=24):fS [(.dt T,.u),(.tup (Nd ([a] ++ mid ++ [z])),.z)]=some (.ok (.bl (mD s a mid z),.z),[(.dt T,.u),(.tup (Nd ([a] ++ mid ++ [z])),.z)]):=by
 have b1:=oQ (way:=1) (v3:=none) hT h hn
 have b2:=fun v3=>oQ (way:=-1) (v3:=v3) hT h hn
 unfold mD
 generalize rb s (sd s a mid z 1) 1=B1 at *
 generalize rb s (sd s a mid z (-1)) (-1)=B2 at *
 generalize L3.D.tup (Nd ([a] ++ mid ++ [z]))=R at *
 generalize L3.D.lst (Nd (sd s a mid z 1))=L1 at *
 generalize L3.D.lst (Nd (sd s a mid z (-1)))=L2 at *
 have n1:ao 2 (.int 1) [some (.dt T,.u),some (R,.z),none,none]=some [some (.dt T,.u),some (R,.z),some (.int 1,.z),none]:=rfl
 have n2:ao 2 (.int (-1)) [some (.dt T,.u),some (R,.z),some (.int 1,.z),some (L1,.u)]=some [some (.dt T,.u),some (R,.z),some (.int (-1),.z),some (L1,.u)]:=rfl
 cases B1 with
 | false =>
  have e:dA (ao 2) bW [.int 1,.int (-1)] [some (.dt T,.u),some (R,.z),none,none]=some (.ok (.rt (.bl false) .z),[some (.dt T,.u),some (R,.z),some (.int 1,.z),some (L1,.u)]):=by
   exact y9 n1 b1
  apply bg (ρ:=[some (.dt T,.u),some (R,.z),none,none]) (ρ1:=[some (.dt T,.u),some (R,.z),some (.int 1,.z),some (L1,.u)]) rfl rfl
  ·unfold fL
   exact jf (fA (ρ1:=[some (.dt T,.u),some (R,.z),none,none]) (by (repeat' (first | infer_instance | eq_refl))) rfl e)
  ·rfl
 | true =>
  have b2:=b2 (some (L1,.u))
  cases B2 with
  | false =>
   have e:dA (ao 2) bW [.int 1,.int (-1)] [some (.dt T,.u),some (R,.z),none,none]=some (.ok (.rt (.bl false) .z),[some (.dt T,.u),some (R,.z),some (.int (-1),.z),some (L2,.u)]):=by
    exact vY n1 b1 (y9 n2 b2)
   apply bg (ρ:=[some (.dt T,.u),some (R,.z),none,none]) (ρ1:=[some (.dt T,.u),some (R,.z),some (.int (-1),.z),some (L2,.u)]) rfl rfl
   ·unfold fL
    exact jf (fA (ρ1:=[some (.dt T,.u),some (R,.z),none,none]) (by (repeat' (first | infer_instance | eq_refl))) rfl e)
   ·rfl
  | true =>
   have e:dA (ao 2) bW [.int 1,.int (-1)] [some (.dt T,.u),some (R,.z),none,none]=some (.ok .nx,[some (.dt T,.u),some (R,.z),some (.int (-1),.z),some (L2,.u)]):=by
    exact vY n1 b1 (vY n2 b2 rfl)
   apply bg (ρ:=[some (.dt T,.u),some (R,.z),none,none]) (ρ1:=[some (.dt T,.u),some (R,.z),some (.int (-1),.z),some (L2,.u)]) rfl rfl
   ·unfold fL
    exact aq (fA (ρ1:=[some (.dt T,.u),some (R,.z),none,none]) (by (repeat' (first | infer_instance | eq_refl))) rfl e) (cX i_c rfl)
   ·rfl
theorem rO:∀ (l ns:List Int),l.Nodup->(∀ x ∈ l,x ∉ ns)->l.foldl met ns=ns ++ l
 | [],ns,_,_=>by simp
 | x :: l,ns,hd,hx=>by
  rw [List.nodup_cons] at hd
  rw [List.foldl_cons,show met ns x=ns ++ [x] from if_neg (hx x AR),rO l (ns ++ [x]) hd.2 fun y hy h=>?_]
  ·simp
  ·rcases A0.mp h with h | h
   ·exact hx y (AS _ hy) h
   ·exact hd.1 (Bp.mp h ▸ hy)
theorem ss_is {n:Nat} {r:List Nat} (h:Ris n r) (hn:n<=24):ssD [.tup (Nd r)]=some (.lst (Nd r),.u):=by
 have rl:=h.len
 have i1:jp (Nd r)=some (r.map fun x:Nat=>(x:Int)):=by
  clear h rl
  induction r with
  | nil=>rfl
  | cons x r ih=>simp [jp,ih]
 have up:(r.map fun x:Nat=>(x:Int)).Pairwise (· < ·):=List.pairwise_map.mpr (h.up.imp fun hab=>by omega)
 have m:=rO (r.map fun x:Nat=>(x:Int)) [] (up.imp fun hab=>by omega) (fun _ _=>List.not_mem_nil)
 rw [List.nil_append] at m
 have st:srt (r.map fun x:Nat=>(x:Int))=r.map fun x:Nat=>(x:Int):=hJ (k7 _) (je _) (up.imp fun hab=>by omega)
 show (jp (Nd r)).bind _=_
 rw [i1]
 show (if (r.map fun x:Nat=>(x:Int)).length < 64 then some ((.lst ((srt ((r.map fun x:Nat=>(x:Int)).foldl met [])).map .int),.u):L3.D × Fl) else none)=_
 rw [if_pos (by rw [A2];omega),m,st,BA]
 rfl
theorem xV (r:List Nat):neX (.lst (Nd r)) (.lst (Nd r))=some (.bl false,.z):=by
 obtain ⟨qs,e1,e2,e3,e4⟩:=u6 (fun i:Nat=>(i:Int)) r
 have p1:pyD (.lst (Nd r))=some (.list qs):=by unfold pyD;rw [e1];rfl
 exact vB rfl p1 (by simp [PyData.canLay0,e2]) (by simp [PyData.depth];omega)
set_option tactic.hygienic true in
theorem An {r:List Nat} {N:L3.D} {T:List (List Key × L3.D)} (hr:r.length<=24):∃ O,iC [some (N,.z),some (.dt T,.u),some (.tup (Nd r),.z)]=some (.ok (.val (.lst O) .u),[some (N,.z),some (.dt T,.u),some (.tup (Nd r),.z)])/\lU [.lst O]=some (.bl true,.z):=by
 obtain ⟨τ',e,a,rfl⟩:=bY (bnd:=ao 0) (c:=dD) (elt:=fk) (fun τ=>∃ a,τ=[a]) (fun i:Nat=>L3.D.int (i:Int)) (fun _=>true) (fun _=>.bl true) (xs:=r) (τ:=[none]) ⟨none,rfl⟩ (by
  rintro k hk τ ⟨a,rfl⟩
  have w:=ld (k:Int)
  exact ⟨[some (.int (k:Int),.z)],_,rfl,rfl,(fun h=>by cases h),fun _=>⟨.val (.bl true) .z,[some (.int (k:Int),.z)],(.bl true,.z),_,by unfold fk;(repeat' (first | infer_instance | with_reducible apply aC (w) | eq_refl)),rfl,rfl,_,rfl⟩⟩)
 rw [By.mpr (fun _ _=>rfl)] at e
 have a1:=lT (fun _:Nat=>true) r
 rw [List.all_eq_true.mpr (fun _ _=>rfl)] at a1
 exact ⟨_,bp (rs:=[.pl 2]) (ρ1:=[some (N,.z),some (.dt T,.u),some (.tup (Nd r),.z)]) (ρ2:=[some (N,.z),some (.dt T,.u),some (.tup (Nd r),.z)]) rfl e (by rw [A2];omega) rfl,a1⟩
set_option tactic.hygienic true in
theorem xo {s:Sg} {T:List (List Key × L3.D)} (hT:jc s T) {a z:Nat} {mid:List Nat} (h:Ris s.length ([a] ++ mid ++ [z])) (h3:mid ≠ []) (hn:s.length<=24):cy [(.int (s.length:Int),.z),(.dt T,.u),(.tup (Nd ([a] ++ mid ++ [z])),.z)]=some (.ok (.bl (mD s a mid z),.z),[(.int (s.length:Int),.z),(.dt T,.u),(.tup (Nd ([a] ++ mid ++ [z])),.z)]):=by
 have rl:=h.len
 have so:=zH hT h hn
 obtain ⟨O,l1,a1⟩:=An (r:=[a] ++ mid ++ [z]) (N:=.int (s.length:Int)) (T:=T) (by omega)
 have hl:ltI (.int ((Nd ([a] ++ mid ++ [z])).length:Int)) (.int 3)=some (.bl false,.z):=by
  have:0 < mid.length:=List.length_pos_iff.mpr h3
  simp [cV];omega
 have ln:d6 [.tup (Nd ([a] ++ mid ++ [z]))]=some (.int ((Nd ([a] ++ mid ++ [z])).length:Int),.z):=rfl
 have ss:=ss_is h hn
 have li:Ao [.tup (Nd ([a] ++ mid ++ [z]))]=some (.lst (Nd ([a] ++ mid ++ [z])),.u):=rfl
 have ne:=xV ([a] ++ mid ++ [z])
 have g0:aw (.tup (Nd ([a] ++ mid ++ [z]))) (.int 0)=some (.int a,.z):=en (lS (i:=0) (by simp))
 have g1:aw (.tup (Nd ([a] ++ mid ++ [z]))) (.int (-1))=some (.int z,.z):=en (om (by simp))
 have c0:ltI (.int (a:Int)) (.int 0)=some (.bl false,.z):=by simp [cV]
 have c1:geI (.int (z:Int)) (.int (s.length:Int))=some (.bl false,.z):=by
  have:=(qC h).1
  simp [cV];omega
 have isi:j0 "tuple" (.tup (Nd ([a] ++ mid ++ [z])))=some (.bl true,.z):=rfl
 generalize ((Nd ([a] ++ mid ++ [z])).length:Int)=N at *
 generalize L3.D.lst (Nd ([a] ++ mid ++ [z]))=RL at *
 generalize L3.D.tup (Nd ([a] ++ mid ++ [z]))=R at *
 generalize L3.D.int (s.length:Int)=LN at *
 apply bg (ρ:=[some (LN,.z),some (.dt T,.u),some (R,.z)]) rfl rfl
 ·unfold iD
  apply aq (ρ1:=[some (LN,.z),some (.dt T,.u),some (R,.z)])
  ·refine dI (b:=false) (gp (b:=false) (ρ1:=[some (LN,.z),some (.dt T,.u),some (R,.z)]) ?_ rfl (gp (b:=false) (ρ1:=[some (LN,.z),some (.dt T,.u),some (R,.z)]) ?_ rfl ?_)) rfl rfl
   ·exact dy (lH (yk (bf rfl) rfl isi) rfl)
   ·(repeat' (first | infer_instance | exact ln | exact hl | eq_refl))
   ·exact dy (lH (fQ (bJ l1 eE) rfl a1) rfl)
  apply aq (ρ1:=[some (LN,.z),some (.dt T,.u),some (R,.z)])
  ·refine dI (b:=false) (gp (b:=false) (ρ1:=[some (LN,.z),some (.dt T,.u),some (R,.z)]) ?_ rfl (gp (b:=false) (ρ1:=[some (LN,.z),some (.dt T,.u),some (R,.z)]) ?_ rfl ?_)) rfl rfl
   ·(repeat' (first | infer_instance | exact ss | exact li | exact ne | eq_refl))
   ·(repeat' (first | infer_instance | exact g0 | exact c0 | eq_refl))
   ·(repeat' (first | infer_instance | exact g1 | exact c1 | eq_refl))
  ·(repeat' (first | infer_instance | with_reducible apply aC (so) | eq_refl))
 ·rfl
set_option tactic.hygienic true in
theorem uR {n:Nat} {r:List Nat} (h:Ris n r) (hn:n<=24) (h3:r.length < 3) (T:List (List Key × L3.D)):bN [(.dt T,.u),(.tup (Nd r),.z),(.int (n:Int),.z)]=some (.ok (.bl false,.z),[(.dt T,.u),(.tup (Nd r),.z),(.int (n:Int),.z)])/\cy [(.int (n:Int),.z),(.dt T,.u),(.tup (Nd r),.z)]=some (.ok (.bl false,.z),[(.int (n:Int),.z),(.dt T,.u),(.tup (Nd r),.z)]):=by
 have ri:=rA h hn
 have hl:ltI (.int ((Nd r).length:Int)) (.int 3)=some (.bl true,.z):=by simp [cV];omega
 have ln:d6 [.tup (Nd r)]=some (.int ((Nd r).length:Int),.z):=rfl
 have isi:j0 "tuple" (.tup (Nd r))=some (.bl true,.z):=rfl
 generalize ((Nd r).length:Int)=N at *
 generalize L3.D.tup (Nd r)=R at *
 generalize L3.D.int (n:Int)=LN at *
 constructor
 ·apply bg (ρ:=[some (.dt T,.u),some (R,.z),some (LN,.z)]) (ρ1:=[some (.dt T,.u),some (R,.z),some (LN,.z)]) rfl rfl
  ·unfold jH
   refine jf (jL (b:=true) (gp (b:=false) (ρ1:=[some (.dt T,.u),some (R,.z),some (LN,.z)]) ?_ rfl ?_) rfl (cX i_c rfl))
   ·exact dy (lH (aC ri (bJ (bf rfl) (bJ (bf rfl) eE)) rfl rfl rfl) rfl)
   ·(repeat' (first | infer_instance | exact ln | exact hl | eq_refl))
  ·rfl
 ·apply bg (ρ:=[some (LN,.z),some (.dt T,.u),some (R,.z)]) (ρ1:=[some (LN,.z),some (.dt T,.u),some (R,.z)]) rfl rfl
  ·unfold iD
   refine jf (jL (b:=true) (gp (b:=false) (ρ1:=[some (LN,.z),some (.dt T,.u),some (R,.z)]) ?_ rfl (i_orT (b:=true) ?_ rfl)) rfl (cX i_c rfl))
   ·exact dy (lH (yk (bf rfl) rfl isi) rfl)
   ·(repeat' (first | infer_instance | exact ln | exact hl | eq_refl))
  ·rfl
noncomputable def ov:List L3.D:=[.non,.bl true,.bl false,.int 9,.int (-1),.str "1",.str "",.tup [.int 1],.lst [.int 1],.dk [(.inr "a",.int 1)],.tup [],.int 100000000000000000000000000000,.tup [.int 1,.int 2],.tup [.tup [.int 0,.int 0]],.lst [.tup []],.int 0]
structure Nt (n:Int) (d:L3.D):Prop where
 a:∀ T,bN [(.dt T,.u),(d,.z),(.int n,.z)]=some (.ok (.bl false,.z),[(.dt T,.u),(d,.z),(.int n,.z)])
 b:∀ T,cy [(.int n,.z),(.dt T,.u),(d,.z)]=some (.ok (.bl false,.z),[(.int n,.z),(.dt T,.u),(d,.z)])
theorem o1:∀ i:Nat,i < 16->∃ v,aw (.lst ov) (.int i)=some (v,.z)/\Nt 1 v
 | 0,_=>⟨_,rfl,⟨fun _=>by kernel_rfl,fun _=>by kernel_rfl⟩⟩
 | 1,_=>⟨_,rfl,⟨fun _=>by kernel_rfl,fun _=>by kernel_rfl⟩⟩
 | 2,_=>⟨_,rfl,⟨fun _=>by kernel_rfl,fun _=>by kernel_rfl⟩⟩
 | 3,_=>⟨_,rfl,⟨fun _=>by kernel_rfl,fun _=>by kernel_rfl⟩⟩
 | 4,_=>⟨_,rfl,⟨fun _=>by kernel_rfl,fun _=>by kernel_rfl⟩⟩
 | 5,_=>⟨_,rfl,⟨fun _=>by kernel_rfl,fun _=>by kernel_rfl⟩⟩
 | 6,_=>⟨_,rfl,⟨fun _=>by kernel_rfl,fun _=>by kernel_rfl⟩⟩
 | 7,_=>⟨_,rfl,⟨fun _=>by kernel_rfl,fun _=>by kernel_rfl⟩⟩
 | 8,_=>⟨_,rfl,⟨fun _=>by kernel_rfl,fun _=>by kernel_rfl⟩⟩
 | 9,_=>⟨_,rfl,⟨fun _=>by kernel_rfl,fun _=>by kernel_rfl⟩⟩
 | 10,_=>⟨_,rfl,⟨fun _=>by kernel_rfl,fun _=>by kernel_rfl⟩⟩
 | 11,_=>⟨_,rfl,⟨fun _=>by kernel_rfl,fun _=>by kernel_rfl⟩⟩
 | 12,_=>⟨_,rfl,⟨fun _=>by kernel_rfl,fun _=>by kernel_rfl⟩⟩
 | 13,_=>⟨_,rfl,⟨fun _=>by kernel_rfl,fun _=>by kernel_rfl⟩⟩
 | 14,_=>⟨_,rfl,⟨fun _=>by kernel_rfl,fun _=>by kernel_rfl⟩⟩
 | 15,_=>⟨_,rfl,⟨fun _=>by kernel_rfl,fun _=>by kernel_rfl⟩⟩
 | i+16,h=>absurd h (by omega)
theorem o2:∀ i:Nat,i < 16->∃ v,aw (.lst ov) (.int i)=some (v,.z)/\Nt 2 v
 | 0,_=>⟨_,rfl,⟨fun _=>by kernel_rfl,fun _=>by kernel_rfl⟩⟩
 | 1,_=>⟨_,rfl,⟨fun _=>by kernel_rfl,fun _=>by kernel_rfl⟩⟩
 | 2,_=>⟨_,rfl,⟨fun _=>by kernel_rfl,fun _=>by kernel_rfl⟩⟩
 | 3,_=>⟨_,rfl,⟨fun _=>by kernel_rfl,fun _=>by kernel_rfl⟩⟩
 | 4,_=>⟨_,rfl,⟨fun _=>by kernel_rfl,fun _=>by kernel_rfl⟩⟩
 | 5,_=>⟨_,rfl,⟨fun _=>by kernel_rfl,fun _=>by kernel_rfl⟩⟩
 | 6,_=>⟨_,rfl,⟨fun _=>by kernel_rfl,fun _=>by kernel_rfl⟩⟩
 | 7,_=>⟨_,rfl,⟨fun _=>by kernel_rfl,fun _=>by kernel_rfl⟩⟩
 | 8,_=>⟨_,rfl,⟨fun _=>by kernel_rfl,fun _=>by kernel_rfl⟩⟩
 | 9,_=>⟨_,rfl,⟨fun _=>by kernel_rfl,fun _=>by kernel_rfl⟩⟩
 | 10,_=>⟨_,rfl,⟨fun _=>by kernel_rfl,fun _=>by kernel_rfl⟩⟩
 | 11,_=>⟨_,rfl,⟨fun _=>by kernel_rfl,fun _=>by kernel_rfl⟩⟩
 | 12,_=>⟨_,rfl,⟨fun _=>by kernel_rfl,fun _=>by kernel_rfl⟩⟩
 | 13,_=>⟨_,rfl,⟨fun _=>by kernel_rfl,fun _=>by kernel_rfl⟩⟩
 | 14,_=>⟨_,rfl,⟨fun _=>by kernel_rfl,fun _=>by kernel_rfl⟩⟩
 | 15,_=>⟨_,rfl,⟨fun _=>by kernel_rfl,fun _=>by kernel_rfl⟩⟩
 | i+16,h=>absurd h (by omega)
theorem o3:∀ i:Nat,i < 16->∃ v,aw (.lst ov) (.int i)=some (v,.z)/\Nt 3 v
 | 0,_=>⟨_,rfl,⟨fun _=>by kernel_rfl,fun _=>by kernel_rfl⟩⟩
 | 1,_=>⟨_,rfl,⟨fun _=>by kernel_rfl,fun _=>by kernel_rfl⟩⟩
 | 2,_=>⟨_,rfl,⟨fun _=>by kernel_rfl,fun _=>by kernel_rfl⟩⟩
 | 3,_=>⟨_,rfl,⟨fun _=>by kernel_rfl,fun _=>by kernel_rfl⟩⟩
 | 4,_=>⟨_,rfl,⟨fun _=>by kernel_rfl,fun _=>by kernel_rfl⟩⟩
 | 5,_=>⟨_,rfl,⟨fun _=>by kernel_rfl,fun _=>by kernel_rfl⟩⟩
 | 6,_=>⟨_,rfl,⟨fun _=>by kernel_rfl,fun _=>by kernel_rfl⟩⟩
 | 7,_=>⟨_,rfl,⟨fun _=>by kernel_rfl,fun _=>by kernel_rfl⟩⟩
 | 8,_=>⟨_,rfl,⟨fun _=>by kernel_rfl,fun _=>by kernel_rfl⟩⟩
 | 9,_=>⟨_,rfl,⟨fun _=>by kernel_rfl,fun _=>by kernel_rfl⟩⟩
 | 10,_=>⟨_,rfl,⟨fun _=>by kernel_rfl,fun _=>by kernel_rfl⟩⟩
 | 11,_=>⟨_,rfl,⟨fun _=>by kernel_rfl,fun _=>by kernel_rfl⟩⟩
 | 12,_=>⟨_,rfl,⟨fun _=>by kernel_rfl,fun _=>by kernel_rfl⟩⟩
 | 13,_=>⟨_,rfl,⟨fun _=>by kernel_rfl,fun _=>by kernel_rfl⟩⟩
 | 14,_=>⟨_,rfl,⟨fun _=>by kernel_rfl,fun _=>by kernel_rfl⟩⟩
 | 15,_=>⟨_,rfl,⟨fun _=>by kernel_rfl,fun _=>by kernel_rfl⟩⟩
 | i+16,h=>absurd h (by omega)
theorem o4:∀ i:Nat,i < 16->∃ v,aw (.lst ov) (.int i)=some (v,.z)/\Nt 4 v
 | 0,_=>⟨_,rfl,⟨fun _=>by kernel_rfl,fun _=>by kernel_rfl⟩⟩
 | 1,_=>⟨_,rfl,⟨fun _=>by kernel_rfl,fun _=>by kernel_rfl⟩⟩
 | 2,_=>⟨_,rfl,⟨fun _=>by kernel_rfl,fun _=>by kernel_rfl⟩⟩
 | 3,_=>⟨_,rfl,⟨fun _=>by kernel_rfl,fun _=>by kernel_rfl⟩⟩
 | 4,_=>⟨_,rfl,⟨fun _=>by kernel_rfl,fun _=>by kernel_rfl⟩⟩
 | 5,_=>⟨_,rfl,⟨fun _=>by kernel_rfl,fun _=>by kernel_rfl⟩⟩
 | 6,_=>⟨_,rfl,⟨fun _=>by kernel_rfl,fun _=>by kernel_rfl⟩⟩
 | 7,_=>⟨_,rfl,⟨fun _=>by kernel_rfl,fun _=>by kernel_rfl⟩⟩
 | 8,_=>⟨_,rfl,⟨fun _=>by kernel_rfl,fun _=>by kernel_rfl⟩⟩
 | 9,_=>⟨_,rfl,⟨fun _=>by kernel_rfl,fun _=>by kernel_rfl⟩⟩
 | 10,_=>⟨_,rfl,⟨fun _=>by kernel_rfl,fun _=>by kernel_rfl⟩⟩
 | 11,_=>⟨_,rfl,⟨fun _=>by kernel_rfl,fun _=>by kernel_rfl⟩⟩
 | 12,_=>⟨_,rfl,⟨fun _=>by kernel_rfl,fun _=>by kernel_rfl⟩⟩
 | 13,_=>⟨_,rfl,⟨fun _=>by kernel_rfl,fun _=>by kernel_rfl⟩⟩
 | 14,_=>⟨_,rfl,⟨fun _=>by kernel_rfl,fun _=>by kernel_rfl⟩⟩
 | 15,_=>⟨_,rfl,⟨fun _=>by kernel_rfl,fun _=>by kernel_rfl⟩⟩
 | i+16,h=>absurd h (by omega)
theorem o5:∀ i:Nat,i < 16->∃ v,aw (.lst ov) (.int i)=some (v,.z)/\Nt 5 v
 | 0,_=>⟨_,rfl,⟨fun _=>by kernel_rfl,fun _=>by kernel_rfl⟩⟩
 | 1,_=>⟨_,rfl,⟨fun _=>by kernel_rfl,fun _=>by kernel_rfl⟩⟩
 | 2,_=>⟨_,rfl,⟨fun _=>by kernel_rfl,fun _=>by kernel_rfl⟩⟩
 | 3,_=>⟨_,rfl,⟨fun _=>by kernel_rfl,fun _=>by kernel_rfl⟩⟩
 | 4,_=>⟨_,rfl,⟨fun _=>by kernel_rfl,fun _=>by kernel_rfl⟩⟩
 | 5,_=>⟨_,rfl,⟨fun _=>by kernel_rfl,fun _=>by kernel_rfl⟩⟩
 | 6,_=>⟨_,rfl,⟨fun _=>by kernel_rfl,fun _=>by kernel_rfl⟩⟩
 | 7,_=>⟨_,rfl,⟨fun _=>by kernel_rfl,fun _=>by kernel_rfl⟩⟩
 | 8,_=>⟨_,rfl,⟨fun _=>by kernel_rfl,fun _=>by kernel_rfl⟩⟩
 | 9,_=>⟨_,rfl,⟨fun _=>by kernel_rfl,fun _=>by kernel_rfl⟩⟩
 | 10,_=>⟨_,rfl,⟨fun _=>by kernel_rfl,fun _=>by kernel_rfl⟩⟩
 | 11,_=>⟨_,rfl,⟨fun _=>by kernel_rfl,fun _=>by kernel_rfl⟩⟩
 | 12,_=>⟨_,rfl,⟨fun _=>by kernel_rfl,fun _=>by kernel_rfl⟩⟩
 | 13,_=>⟨_,rfl,⟨fun _=>by kernel_rfl,fun _=>by kernel_rfl⟩⟩
 | 14,_=>⟨_,rfl,⟨fun _=>by kernel_rfl,fun _=>by kernel_rfl⟩⟩
 | 15,_=>⟨_,rfl,⟨fun _=>by kernel_rfl,fun _=>by kernel_rfl⟩⟩
 | i+16,h=>absurd h (by omega)
theorem o6:∀ i:Nat,i < 16->∃ v,aw (.lst ov) (.int i)=some (v,.z)/\Nt 6 v
 | 0,_=>⟨_,rfl,⟨fun _=>by kernel_rfl,fun _=>by kernel_rfl⟩⟩
 | 1,_=>⟨_,rfl,⟨fun _=>by kernel_rfl,fun _=>by kernel_rfl⟩⟩
 | 2,_=>⟨_,rfl,⟨fun _=>by kernel_rfl,fun _=>by kernel_rfl⟩⟩
 | 3,_=>⟨_,rfl,⟨fun _=>by kernel_rfl,fun _=>by kernel_rfl⟩⟩
 | 4,_=>⟨_,rfl,⟨fun _=>by kernel_rfl,fun _=>by kernel_rfl⟩⟩
 | 5,_=>⟨_,rfl,⟨fun _=>by kernel_rfl,fun _=>by kernel_rfl⟩⟩
 | 6,_=>⟨_,rfl,⟨fun _=>by kernel_rfl,fun _=>by kernel_rfl⟩⟩
 | 7,_=>⟨_,rfl,⟨fun _=>by kernel_rfl,fun _=>by kernel_rfl⟩⟩
 | 8,_=>⟨_,rfl,⟨fun _=>by kernel_rfl,fun _=>by kernel_rfl⟩⟩
 | 9,_=>⟨_,rfl,⟨fun _=>by kernel_rfl,fun _=>by kernel_rfl⟩⟩
 | 10,_=>⟨_,rfl,⟨fun _=>by kernel_rfl,fun _=>by kernel_rfl⟩⟩
 | 11,_=>⟨_,rfl,⟨fun _=>by kernel_rfl,fun _=>by kernel_rfl⟩⟩
 | 12,_=>⟨_,rfl,⟨fun _=>by kernel_rfl,fun _=>by kernel_rfl⟩⟩
 | 13,_=>⟨_,rfl,⟨fun _=>by kernel_rfl,fun _=>by kernel_rfl⟩⟩
 | 14,_=>⟨_,rfl,⟨fun _=>by kernel_rfl,fun _=>by kernel_rfl⟩⟩
 | 15,_=>⟨_,rfl,⟨fun _=>by kernel_rfl,fun _=>by kernel_rfl⟩⟩
 | i+16,h=>absurd h (by omega)
theorem o7:∀ i:Nat,i < 16->∃ v,aw (.lst ov) (.int i)=some (v,.z)/\Nt 7 v
 | 0,_=>⟨_,rfl,⟨fun _=>by kernel_rfl,fun _=>by kernel_rfl⟩⟩
 | 1,_=>⟨_,rfl,⟨fun _=>by kernel_rfl,fun _=>by kernel_rfl⟩⟩
 | 2,_=>⟨_,rfl,⟨fun _=>by kernel_rfl,fun _=>by kernel_rfl⟩⟩
 | 3,_=>⟨_,rfl,⟨fun _=>by kernel_rfl,fun _=>by kernel_rfl⟩⟩
 | 4,_=>⟨_,rfl,⟨fun _=>by kernel_rfl,fun _=>by kernel_rfl⟩⟩
 | 5,_=>⟨_,rfl,⟨fun _=>by kernel_rfl,fun _=>by kernel_rfl⟩⟩
 | 6,_=>⟨_,rfl,⟨fun _=>by kernel_rfl,fun _=>by kernel_rfl⟩⟩
 | 7,_=>⟨_,rfl,⟨fun _=>by kernel_rfl,fun _=>by kernel_rfl⟩⟩
 | 8,_=>⟨_,rfl,⟨fun _=>by kernel_rfl,fun _=>by kernel_rfl⟩⟩
 | 9,_=>⟨_,rfl,⟨fun _=>by kernel_rfl,fun _=>by kernel_rfl⟩⟩
 | 10,_=>⟨_,rfl,⟨fun _=>by kernel_rfl,fun _=>by kernel_rfl⟩⟩
 | 11,_=>⟨_,rfl,⟨fun _=>by kernel_rfl,fun _=>by kernel_rfl⟩⟩
 | 12,_=>⟨_,rfl,⟨fun _=>by kernel_rfl,fun _=>by kernel_rfl⟩⟩
 | 13,_=>⟨_,rfl,⟨fun _=>by kernel_rfl,fun _=>by kernel_rfl⟩⟩
 | 14,_=>⟨_,rfl,⟨fun _=>by kernel_rfl,fun _=>by kernel_rfl⟩⟩
 | 15,_=>⟨_,rfl,⟨fun _=>by kernel_rfl,fun _=>by kernel_rfl⟩⟩
 | i+16,h=>absurd h (by omega)
theorem o_at:∀ n:Nat,1<=n->n<=7->∀ i:Nat,i < 16->∃ v,aw (.lst ov) (.int i)=some (v,.z)/\Nt n v
 | 0,h,_=>absurd h (by decide)
 | 1,_,_=>o1
 | 2,_,_=>o2
 | 3,_,_=>o3
 | 4,_,_=>o4
 | 5,_,_=>o5
 | 6,_,_=>o6
 | 7,_,_=>o7
 | n+8,_,h=>absurd h (by omega)
noncomputable def th (n:Int):List L3.D:=[.tup [],.tup [.int 0,.int 1,.int n],.tup [.int 1,.int 0,.int 2],.lst [.int 0,.int 1,.int 2],.tup [.int 0,.int 1,.bl true],.tup [.int (-1),.int 0,.int 1]]
theorem h1:∀ d ∈ th 1,Nt 1 d:=by
 intro d hd
 unfold th at hd
 simp only [AX,List.not_mem_nil,or_false] at hd
 rcases hd with rfl | rfl | rfl | rfl | rfl | rfl <;> exact ⟨fun _=>by kernel_rfl,fun _=>by kernel_rfl⟩
theorem h2:∀ d ∈ th 2,Nt 2 d:=by
 intro d hd
 unfold th at hd
 simp only [AX,List.not_mem_nil,or_false] at hd
 rcases hd with rfl | rfl | rfl | rfl | rfl | rfl <;> exact ⟨fun _=>by kernel_rfl,fun _=>by kernel_rfl⟩
theorem h3:∀ d ∈ th 3,Nt 3 d:=by
 intro d hd
 unfold th at hd
 simp only [AX,List.not_mem_nil,or_false] at hd
 rcases hd with rfl | rfl | rfl | rfl | rfl | rfl <;> exact ⟨fun _=>by kernel_rfl,fun _=>by kernel_rfl⟩
theorem h4:∀ d ∈ th 4,Nt 4 d:=by
 intro d hd
 unfold th at hd
 simp only [AX,List.not_mem_nil,or_false] at hd
 rcases hd with rfl | rfl | rfl | rfl | rfl | rfl <;> exact ⟨fun _=>by kernel_rfl,fun _=>by kernel_rfl⟩
theorem h5:∀ d ∈ th 5,Nt 5 d:=by
 intro d hd
 unfold th at hd
 simp only [AX,List.not_mem_nil,or_false] at hd
 rcases hd with rfl | rfl | rfl | rfl | rfl | rfl <;> exact ⟨fun _=>by kernel_rfl,fun _=>by kernel_rfl⟩
theorem h6:∀ d ∈ th 6,Nt 6 d:=by
 intro d hd
 unfold th at hd
 simp only [AX,List.not_mem_nil,or_false] at hd
 rcases hd with rfl | rfl | rfl | rfl | rfl | rfl <;> exact ⟨fun _=>by kernel_rfl,fun _=>by kernel_rfl⟩
theorem h7:∀ d ∈ th 7,Nt 7 d:=by
 intro d hd
 unfold th at hd
 simp only [AX,List.not_mem_nil,or_false] at hd
 rcases hd with rfl | rfl | rfl | rfl | rfl | rfl <;> exact ⟨fun _=>by kernel_rfl,fun _=>by kernel_rfl⟩
theorem h_at:∀ n:Nat,1<=n->n<=7->∀ d ∈ th n,Nt n d
 | 0,h,_=>absurd h (by decide)
 | 1,_,_=>h1
 | 2,_,_=>h2
 | 3,_,_=>h3
 | 4,_,_=>h4
 | 5,_,_=>h5
 | 6,_,_=>h6
 | 7,_,_=>h7
 | n+8,_,h=>absurd h (by omega)
set_option tactic.hygienic true in
theorem xm {n m:Int} {j v:L3.D} (t:aV [(.lst [.int n],.u),(.int 16,.z)]=some (.ok (j,.z),[(.lst [.int m],.u),(.int 16,.z)])) (h:aw (.lst ov) j=some (v,.z)):kW [(.lst [.int n],.u)]=some (.ok (v,.z),[(.lst [.int m],.u)]):=by
 have a:∀ B:L3.D,(aW 1 (cU (ab (mC .non) (ab (mC (.bl true)) (ab (mC (.bl false)) (ab (mC (.int 9)) (ab (mUn jD (mC (.int 1))) (ab (mC (.str "1")) (ab (mC (.str "")) (ab (bc (ab (mC (.int 1)) ah)) (ab (cU (ab (mC (.int 1)) ah)) (ab (Am (.inr "a") 1) (ab (bc ah) (ab (aj qu (mC (.int 10)) (mC (.int 29))) (ab (bc (ab (mC (.int 1)) (ab (mC (.int 2)) ah))) (ab (bc (ab (bc (ab (mC (.int 0)) (ab (mC (.int 0)) ah))) ah)) (ab (cU (ab (bc ah) ah)) (ab (mC (.int 0)) ah)))))))))))))))))) [some (B,.u),none]=some (.ok .nx,[some (B,.u),some (.lst ov,.u)]):=fun B=>by kernel_rfl
 have a:=a (.lst [.int n])
 generalize L3.D.lst ov=SV at *
 apply bg (ρ:=[some (.lst [.int n],.u),none]) (ρ1:=[some (.lst [.int m],.u),some (SV,.u)]) rfl rfl
 ·unfold rP
  refine aq a ?_
  apply cX
  ·(repeat' (first | infer_instance | with_reducible apply aC (t) | exact h | eq_refl))
  ·rfl
 ·rfl
noncomputable abbrev Pl (l:List (List Nat)):List L3.D:=l.map fun p=>L3.D.tup (Nd p)
noncomputable def kG (n:Nat):List (List Nat):=(List.range (2 ^ n)).map fun m=>(List.range n).filter fun i=>m.testBit i
theorem vL {n:Nat} {r:List Nat} (h:r ∈ kG n):Ris n r:=by
 obtain ⟨m,_,rfl⟩:=A6.mp h
 exact ⟨List.pairwise_lt_range.sublist List.filter_sublist,fun x hx=>List.mem_range.mp (Br.mp hx).1⟩
theorem lp1 (S L B G U a0 a1 a2 a3 a4 a5 a6:L3.D) (v7 v8 v9:Option (L3.D × Fl)):∃ w7,(ci (aT bQ (ab (aj lY (mC (.int 1)) (ac 3)) ah)) (ao 7) de) [some (S,.z),some (L,.z),some (B,.u),some (.int 1,.z),some (G,.z),some (U,.u),some (.lst [a0,a1,a2,a3,a4,a5,a6],.u),v7,v8,v9]=some (.ok .nx,[some (S,.z),some (L,.z),some (B,.u),some (.int 1,.z),some (G,.z),some (U,.u),some (.lst ([a0,a1,a2,a3,a4,a5,a6] ++ Pl (kG 1)),.u),w7,v8,v9]):=⟨some (.int 1,.z),by kernel_rfl⟩
theorem lp2 (S L B G U a0 a1 a2 a3 a4 a5 a6:L3.D) (v7 v8 v9:Option (L3.D × Fl)):∃ w7,(ci (aT bQ (ab (aj lY (mC (.int 1)) (ac 3)) ah)) (ao 7) de) [some (S,.z),some (L,.z),some (B,.u),some (.int 2,.z),some (G,.z),some (U,.u),some (.lst [a0,a1,a2,a3,a4,a5,a6],.u),v7,v8,v9]=some (.ok .nx,[some (S,.z),some (L,.z),some (B,.u),some (.int 2,.z),some (G,.z),some (U,.u),some (.lst ([a0,a1,a2,a3,a4,a5,a6] ++ Pl (kG 2)),.u),w7,v8,v9]):=⟨some (.int 3,.z),by kernel_rfl⟩
theorem lp3 (S L B G U a0 a1 a2 a3 a4 a5 a6:L3.D) (v7 v8 v9:Option (L3.D × Fl)):∃ w7,(ci (aT bQ (ab (aj lY (mC (.int 1)) (ac 3)) ah)) (ao 7) de) [some (S,.z),some (L,.z),some (B,.u),some (.int 3,.z),some (G,.z),some (U,.u),some (.lst [a0,a1,a2,a3,a4,a5,a6],.u),v7,v8,v9]=some (.ok .nx,[some (S,.z),some (L,.z),some (B,.u),some (.int 3,.z),some (G,.z),some (U,.u),some (.lst ([a0,a1,a2,a3,a4,a5,a6] ++ Pl (kG 3)),.u),w7,v8,v9]):=⟨some (.int 7,.z),by kernel_rfl⟩
theorem lp4 (S L B G U a0 a1 a2 a3 a4 a5 a6:L3.D) (v7 v8 v9:Option (L3.D × Fl)):∃ w7,(ci (aT bQ (ab (aj lY (mC (.int 1)) (ac 3)) ah)) (ao 7) de) [some (S,.z),some (L,.z),some (B,.u),some (.int 4,.z),some (G,.z),some (U,.u),some (.lst [a0,a1,a2,a3,a4,a5,a6],.u),v7,v8,v9]=some (.ok .nx,[some (S,.z),some (L,.z),some (B,.u),some (.int 4,.z),some (G,.z),some (U,.u),some (.lst ([a0,a1,a2,a3,a4,a5,a6] ++ Pl (kG 4)),.u),w7,v8,v9]):=⟨some (.int 15,.z),by kernel_rfl⟩
theorem lp5 (S L B G U a0 a1 a2 a3 a4 a5 a6:L3.D) (v7 v8 v9:Option (L3.D × Fl)):∃ w7,(ci (aT bQ (ab (aj lY (mC (.int 1)) (ac 3)) ah)) (ao 7) de) [some (S,.z),some (L,.z),some (B,.u),some (.int 5,.z),some (G,.z),some (U,.u),some (.lst [a0,a1,a2,a3,a4,a5,a6],.u),v7,v8,v9]=some (.ok .nx,[some (S,.z),some (L,.z),some (B,.u),some (.int 5,.z),some (G,.z),some (U,.u),some (.lst ([a0,a1,a2,a3,a4,a5,a6] ++ Pl (kG 5)),.u),w7,v8,v9]):=⟨some (.int 31,.z),by kernel_rfl⟩
theorem lp6 (S L B G U a0 a1 a2 a3 a4 a5 a6:L3.D) (v7 v8 v9:Option (L3.D × Fl)):∃ w7,(ci (aT bQ (ab (aj lY (mC (.int 1)) (ac 3)) ah)) (ao 7) de) [some (S,.z),some (L,.z),some (B,.u),some (.int 6,.z),some (G,.z),some (U,.u),some (.lst [a0,a1,a2,a3,a4,a5,a6],.u),v7,v8,v9]=some (.ok .nx,[some (S,.z),some (L,.z),some (B,.u),some (.int 6,.z),some (G,.z),some (U,.u),some (.lst ([a0,a1,a2,a3,a4,a5,a6] ++ Pl (kG 6)),.u),w7,v8,v9]):=⟨some (.int 63,.z),by kernel_rfl⟩
theorem lp7 (S L B G U a0 a1 a2 a3 a4 a5 a6:L3.D) (v7 v8 v9:Option (L3.D × Fl)):∃ w7,(ci (aT bQ (ab (aj lY (mC (.int 1)) (ac 3)) ah)) (ao 7) de) [some (S,.z),some (L,.z),some (B,.u),some (.int 7,.z),some (G,.z),some (U,.u),some (.lst [a0,a1,a2,a3,a4,a5,a6],.u),v7,v8,v9]=some (.ok .nx,[some (S,.z),some (L,.z),some (B,.u),some (.int 7,.z),some (G,.z),some (U,.u),some (.lst ([a0,a1,a2,a3,a4,a5,a6] ++ Pl (kG 7)),.u),w7,v8,v9]):=⟨some (.int 127,.z),by kernel_rfl⟩
theorem lp_at:∀ n:Nat,1<=n->n<=7->∀ (S L B G U a0 a1 a2 a3 a4 a5 a6:L3.D) (v7 v8 v9:Option (L3.D × Fl)),∃ w7,(ci (aT bQ (ab (aj lY (mC (.int 1)) (ac 3)) ah)) (ao 7) de) [some (S,.z),some (L,.z),some (B,.u),some (.int n,.z),some (G,.z),some (U,.u),some (.lst [a0,a1,a2,a3,a4,a5,a6],.u),v7,v8,v9]=some (.ok .nx,[some (S,.z),some (L,.z),some (B,.u),some (.int n,.z),some (G,.z),some (U,.u),some (.lst ([a0,a1,a2,a3,a4,a5,a6] ++ Pl (kG n)),.u),w7,v8,v9])
 | 0,h,_=>absurd h (by decide)
 | 1,_,_=>lp1
 | 2,_,_=>lp2
 | 3,_,_=>lp3
 | 4,_,_=>lp4
 | 5,_,_=>lp5
 | 6,_,_=>lp6
 | 7,_,_=>lp7
 | n+8,_,h=>absurd h (by omega)
set_option tactic.hygienic true in
theorem xr {s:Sg} (g:OkS s) {d:L3.D} {b:Bool} (h:bN [(.dt (T0 s),.u),(d,.z),(.int s.length,.z)]=some (.ok (.bl b,.z),[(.dt (T0 s),.u),(d,.z),(.int s.length,.z)])):cb [(d,.z),(.int s.length,.z),(.tup (SgD s),.z)]=some (.ok (.bl b,.z),[(d,.z),(.int s.length,.z),(.tup (SgD s),.z)]):=by
 have c:=xt g
 have tb:bh [(.int s.length,.z),(.tup (SgD s),.z)]=some (.ok (.dt (T0 s),.u),[(.int s.length,.z),(.tup (SgD s),.z)]):=rq (by have:=g.most;omega)
 generalize L3.D.tup (SgD s)=G at *
 generalize L3.D.int (s.length:Int)=N at *
 generalize T0 s=T at *
 apply bg (ρ:=[some (d,.z),some (N,.z),some (G,.z)]) rfl rfl
 ·unfold ft
  apply aq (ρ1:=[some (d,.z),some (N,.z),some (G,.z)])
  ·(repeat' (first | infer_instance | with_reducible apply aC (c) | eq_refl))
  ·exact cX (aC h (bJ (aC tb (bJ (bf rfl) (bJ (bf rfl) eE)) rfl rfl rfl) (bJ (bf rfl) (bJ (bf rfl) eE))) rfl rfl rfl) rfl
 ·rfl
noncomputable def wK (s:Sg) (d:L3.D):Prop:=∃ b:Bool,bN [(.dt (T0 s),.u),(d,.z),(.int s.length,.z)]=some (.ok (.bl b,.z),[(.dt (T0 s),.u),(d,.z),(.int s.length,.z)])/\cy [(.int s.length,.z),(.dt (T0 s),.u),(d,.z)]=some (.ok (.bl b,.z),[(.int s.length,.z),(.dt (T0 s),.u),(d,.z)])
theorem ww {s:Sg} (g:OkS s) {r:List Nat} (h:Ris s.length r):wK s (.tup (Nd r)):=by
 have hT:=lV s
 have hn:=g.most
 by_cases h3:r.length < 3
 ·obtain ⟨a,b⟩:=uR h hn h3 (T0 s)
  exact ⟨false,a,b⟩
 ·obtain ⟨a,r1,rfl⟩:∃ a r1,r=a :: r1:=by
   cases r with
   | nil=>simp at h3
   | cons a r1=>exact ⟨a,r1,rfl⟩
  obtain ⟨mid,z,rfl⟩:∃ mid z,r1=mid ++ [z]:=⟨r1.dropLast,r1.getLast (by intro e;subst e;simp at h3),(List.dropLast_concat_getLast _).symm⟩
  have h3':mid ≠ []:=by
   intro e
   subst e
   simp at h3
  rw [show a :: (mid ++ [z])=[a] ++ mid ++ [z] by simp] at h ⊢
  exact ⟨_,uP hT h h3' hn,xo hT h h3' hn⟩
set_option tactic.hygienic true in
theorem body2 {s:Sg} (g:OkS s) {S L B H d:L3.D} {v7 v9:Option (L3.D × Fl)} (h:wK s d):∃ w9,iy [some (S,.z),some (L,.z),some (B,.u),some (.int s.length,.z),some (.tup (SgD s),.z),some (.dt (T0 s),.u),some (H,.l),v7,some (d,.z),v9]=some (.ok .nx,[some (S,.z),some (L,.z),some (B,.u),some (.int s.length,.z),some (.tup (SgD s),.z),some (.dt (T0 s),.u),some (H,.l),v7,some (d,.z),w9]):=by
 obtain ⟨b,h1,h2⟩:=h
 have f:=xr g h1
 have isi:j0 "bool" (.bl b)=some (.bl true,.z):=rfl
 have ne:neX (.bl b) (.bl b)=some (.bl false,.z):=by cases b <;> kernel_rfl
 refine ⟨some (.bl b,.z),?_⟩
 generalize L3.D.tup (SgD s)=G at *
 generalize L3.D.int (s.length:Int)=N at *
 generalize L3.D.dt (T0 s)=U at *
 unfold iy
 apply aq (ρ1:=[some (S,.z),some (L,.z),some (B,.u),some (N,.z),some (G,.z),some (U,.u),some (H,.l),v7,some (d,.z),some (.bl b,.z)])
 ·(repeat' (first | infer_instance | with_reducible apply aC (f) | eq_refl))
 refine dI (b:=false) (gp (b:=false) (ρ1:=[some (S,.z),some (L,.z),some (B,.u),some (N,.z),some (G,.z),some (U,.u),some (H,.l),v7,some (d,.z),some (.bl b,.z)]) ?_ rfl ?_) rfl rfl
 ·exact dy (lH (yk (bf rfl) rfl isi) rfl)
 ·(repeat' (first | infer_instance | with_reducible apply aC (h2) | exact ne | eq_refl))
theorem loop2 {s:Sg} (g:OkS s) {S L B H:L3.D} {ds:List L3.D} (h:∀ d ∈ ds,wK s d) {v7 v8 v9:Option (L3.D × Fl)}:∃ w8 w9,dA (ao 8) iy ds [some (S,.z),some (L,.z),some (B,.u),some (.int s.length,.z),some (.tup (SgD s),.z),some (.dt (T0 s),.u),some (H,.l),v7,v8,v9]=some (.ok .nx,[some (S,.z),some (L,.z),some (B,.u),some (.int s.length,.z),some (.tup (SgD s),.z),some (.dt (T0 s),.u),some (H,.l),v7,w8,w9]):=by
 obtain ⟨ρ',e,w8,w9,rfl⟩:=cG (bnd:=ao 8) (b:=iy) (fun _ ρ=>∃ w8 w9,ρ=[some (S,.z),some (L,.z),some (B,.u),some (.int s.length,.z),some (.tup (SgD s),.z),some (.dt (T0 s),.u),some (H,.l),v7,w8,w9]) (ds:=ds) (ρ:=[some (S,.z),some (L,.z),some (B,.u),some (.int s.length,.z),some (.tup (SgD s),.z),some (.dt (T0 s),.u),some (H,.l),v7,v8,v9]) (k:=0) ⟨_,_,rfl⟩ (by
  rintro i d ρ hd ⟨w8,w9,rfl⟩
  obtain ⟨x,e⟩:=body2 g (S:=S) (L:=L) (B:=B) (H:=H) (v7:=v7) (v9:=w9) (h d (A4 hd))
  exact ⟨_,_,rfl,.inl e,_,_,rfl⟩)
 exact ⟨w8,w9,e⟩
set_option tactic.hygienic true in
theorem vO {ns:List Int} (i:Nat) {v2 v3 v4 v5 v6 v7 v8 v9:Option (L3.D × Fl)}:∃ w2 w3 w4 w5 w6 w7 w8 w9,jF [some (.fls (ns.map .int),.z),some (.int (i:Int),.z),v2,v3,v4,v5,v6,v7,v8,v9]=some (.ok .nx,[some (.fls (ns.map .int),.z),some (.int (i:Int),.z),w2,w3,w4,w5,w6,w7,w8,w9]):=by
 obtain ⟨n,eb⟩:=xu ns i
 generalize hS:L3.D.fls (ns.map .int)=S at *
 generalize L3.D.int (i:Int)=L at *
 have t0:=fe n 7 (by decide)
 obtain ⟨m,hm,em⟩:∃ x:Nat,x < 7/\n % 7=(x:Int):=⟨(n % 7).toNat,by omega,by omega⟩
 rw [em] at t0
 clear em
 generalize n / 7=n1 at *
 obtain ⟨n2,s,ed,g,sl⟩:=sU n1 (m+1) (by omega) (by omega)
 have t1:=fe n2 16 (by decide)
 obtain ⟨j,hj,ej⟩:∃ x:Nat,x < 16/\n2 % 16=(x:Int):=⟨(n2 % 16).toNat,by omega,by omega⟩
 rw [ej] at t1
 clear ej
 generalize n2 / 16=n3 at *
 obtain ⟨od,ho,hN⟩:=o_at s.length (by omega) (by omega) j hj
 have ro:=xm t1 ho
 have lt:=lf s.length (by omega)
 have dz:=za s
 have ad:bC (.int 1) (.int (m:Int))=some (.int s.length,.z):=by
  show some ((L3.D.int (1+(m:Int)),Fl.z):L3.D × Fl)=_
  rw [show (1+(m:Int))=(s.length:Int) by omega]
 have ed:cg [(.lst [.int n1],.u),(.int s.length,.z)]=some (.ok (.tup (SgD s),.z),[(.lst [.int n2],.u),(.int s.length,.z)]):=by rw [sl];exact ed
 obtain ⟨w7,l1⟩:=lp_at s.length (by omega) (by omega) S L (.lst [.int n3]) (.tup (SgD s)) (.dt (T0 s)) (.tup []) (.tup [.int 0,.int 1,.int s.length]) (.tup [.int 1,.int 0,.int 2]) (.lst [.int 0,.int 1,.int 2]) (.tup [.int 0,.int 1,.bl true]) (.tup [.int (-1),.int 0,.int 1]) od v7 v8 v9
 have all:∀ d ∈ [.tup [],.tup [.int 0,.int 1,.int s.length],.tup [.int 1,.int 0,.int 2],.lst [.int 0,.int 1,.int 2],.tup [.int 0,.int 1,.bl true],.tup [.int (-1),.int 0,.int 1],od] ++ Pl (kG s.length),wK s d:=by
  intro d hd
  have nt:∀ {d},Nt s.length d->wK s d:=fun h=>⟨false,h.a _,h.b _⟩
  rcases A0.mp hd with hd | hd
  ·have:d ∈ th s.length\/d=od:=by
    unfold th
    simp only [AX,List.not_mem_nil,or_false] at hd ⊢
    rcases hd with h | h | h | h | h | h | h <;> simp [h]
   rcases this with h | rfl
   ·exact nt (h_at s.length (by omega) (by omega) d h)
   ·exact nt hN
  ·obtain ⟨r,hr,rfl⟩:=A6.mp hd
   exact ww g (vL hr)
 obtain ⟨w8,w9,l2⟩:=loop2 g (S:=S) (L:=L) (B:=.lst [.int n3]) (H:=.lst ([.tup [],.tup [.int 0,.int 1,.int s.length],.tup [.int 1,.int 0,.int 2],.lst [.int 0,.int 1,.int 2],.tup [.int 0,.int 1,.bl true],.tup [.int (-1),.int 0,.int 1],od] ++ Pl (kG s.length))) all (v7:=w7) (v8:=v8) (v9:=v9)
 generalize hA:[.tup [],.tup [.int 0,.int 1,.int s.length],.tup [.int 1,.int 0,.int 2],.lst [.int 0,.int 1,.int 2],.tup [.int 0,.int 1,.bl true],.tup [.int (-1),.int 0,.int 1],od] ++ Pl (kG s.length)=A at *
 refine ⟨some (.lst [.int n3],.u),some (.int s.length,.z),some (.tup (SgD s),.z),some (.dt (T0 s),.u),some (.lst A,.u),w7,w8,w9,?_⟩
 unfold jF
 apply aq (ρ1:=[some (S,.z),some (L,.z),some (.lst [.int n],.u),v3,v4,v5,v6,v7,v8,v9])
 ·(repeat' (first | infer_instance | with_reducible apply aC (eb) | eq_refl))
 apply aq (ρ1:=[some (S,.z),some (L,.z),some (.lst [.int n1],.u),some (.int s.length,.z),v4,v5,v6,v7,v8,v9])
 ·(repeat' (first | infer_instance | with_reducible apply aC (t0) | exact ad | eq_refl))
 apply aq (ρ1:=[some (S,.z),some (L,.z),some (.lst [.int n2],.u),some (.int s.length,.z),some (.tup (SgD s),.z),v5,v6,v7,v8,v9])
 ·(repeat' (first | infer_instance | with_reducible apply aC (ed) | eq_refl))
 apply aq (ρ1:=[some (S,.z),some (L,.z),some (.lst [.int n2],.u),some (.int s.length,.z),some (.tup (SgD s),.z),some (.dt (T0 s),.u),v6,v7,v8,v9])
 ·(repeat' (first | infer_instance | with_reducible apply aC (lt) | exact dz | eq_refl))
 apply aq (ρ1:=[some (S,.z),some (L,.z),some (.lst [.int n3],.u),some (.int s.length,.z),some (.tup (SgD s),.z),some (.dt (T0 s),.u),some (.lst [.tup [],.tup [.int 0,.int 1,.int s.length],.tup [.int 1,.int 0,.int 2],.lst [.int 0,.int 1,.int 2],.tup [.int 0,.int 1,.bl true],.tup [.int (-1),.int 0,.int 1],od],.u),v7,v8,v9])
 ·(repeat' (first | infer_instance | with_reducible apply aC (ro) | eq_refl))
 refine aq l1 ?_
 exact qN (is:=[6]) (ρ1:=[some (S,.z),some (L,.z),some (.lst [.int n3],.u),some (.int s.length,.z),some (.tup (SgD s),.z),some (.dt (T0 s),.u),some (.lst A,.u),w7,v8,v9]) (by (repeat' (first | infer_instance | eq_refl))) rfl l2
set_option tactic.hygienic true in
theorem xp (ns:List Int) (hn:ns.length<=63):zd [(.fls (ns.map .int),.z)]=some (.ok (.bl true,.z),[(.fls (ns.map .int),.z)]):=by
 have hb:∃ m:Nat,(if (if ((4:Int) < ((ns.map L3.D.int).length:Int)) then (4:Int) else ((ns.map L3.D.int).length:Int)) > 1 then (if ((4:Int) < ((ns.map L3.D.int).length:Int)) then (4:Int) else ((ns.map L3.D.int).length:Int)) else (1:Int))=(m:Int)/\m<=4:=by
  refine ⟨max 1 (min ns.length 4),?_,by omega⟩
  simp only [A2]
  split <;> split <;> omega
 obtain ⟨m,hm,hm3⟩:=hb
 obtain ⟨ρ',e,v1,v2,v3,v4,v5,v6,v7,v8,v9,rfl⟩:=cG (bnd:=ao 1) (b:=jF) (fun _ ρ=>∃ v1 v2 v3 v4 v5 v6 v7 v8 v9,ρ=[some (.fls (ns.map .int),.z),v1,v2,v3,v4,v5,v6,v7,v8,v9]) (ds:=bx 0 m) (ρ:=[some (.fls (ns.map .int),.z),none,none,none,none,none,none,none,none,none]) (k:=0) ⟨_,_,_,_,_,_,_,_,_,rfl⟩ (by
  rintro i d ρ hd ⟨v1,v2,v3,v4,v5,v6,v7,v8,v9,rfl⟩
  obtain ⟨hi,rfl⟩:=dX hd
  rw [Int.zero_add]
  obtain ⟨w2,w3,w4,w5,w6,w7,w8,w9,e⟩:=vO (ns:=ns) i (v2:=v2) (v3:=v3) (v4:=v4) (v5:=v5) (v6:=v6) (v7:=v7) (v8:=v8) (v9:=v9)
  exact ⟨_,_,rfl,.inl e,_,_,_,_,_,_,_,_,_,rfl⟩)
 have hr:bQ [.int (if (if ((4:Int) < ((ns.map L3.D.int).length:Int)) then (4:Int) else ((ns.map L3.D.int).length:Int)) > 1 then (if ((4:Int) < ((ns.map L3.D.int).length:Int)) then (4:Int) else ((ns.map L3.D.int).length:Int)) else (1:Int))]=some (bx 0 m):=by
  rw [hm]
  exact dR (by omega) (by omega)
 apply bg (ρ:=[some (.fls (ns.map .int),.z),none,none,none,none,none,none,none,none,none]) rfl rfl
 ·unfold yW
  apply aq
  ·apply fA
   ·(repeat' (first | with_reducible apply d7 (h3:=hr) | infer_instance | eq_refl))
   ·rfl
   ·exact e
  ·exact cX i_c rfl
 ·rfl
end Bn
end
namespace Bn
open PySem L2 L3
theorem AL {l : PySem.W.OpenLaw} {w : World} {K : FG} {h : Heap} {mg : Str -> Option Value} {fa : Addr} (X : K.In h) (G : h.Ns mainGlobals mg) (hfa : mg "law" = some (.ref fa)) (e : xk K = rX) :
  ∃ fd : FuncData, (∀ (s : Shared) (v : Value), BindsTo s fd ⟨[v], []⟩ [("_law_script", v)]) /\ ∀ base : Heap, K.In base -> base.Ns mainGlobals mg -> FnOk l.prog w K mg base CX0 6 fa fd ["_law_script"] (uC K) := by
 have e0 : dsL.map (fun p => pF K p.1) = dsL.map (fun p => lM p.1 p.2) := congrArg (fun x => x.1) e
 have e1 : blL.map (PySem.W.nsIn K mainGlobals) = blL.map (fun _ => some none) := congrArg (fun x => x.2.1) e
 have e2 : ciL.map (fun p => nP K p.1) = ciL.map (fun p => some p.2) := congrArg (fun x => x.2.2.1) e
 have e3 : csL.map (fun p => uB K p.1) = csL.map (fun p => some p.2) := congrArg (fun x => x.2.2.2) e
 have B : Bl mg := ⟨cW X G e1 0 rfl, cW X G e1 1 rfl, cW X G e1 2 rfl, cW X G e1 3 rfl, cW X G e1 4 rfl, cW X G e1 5 rfl, cW X G e1 6 rfl, cW X G e1 7 rfl, cW X G e1 8 rfl, cW X G e1 9 rfl, cW X G e1 10 rfl, cW X G e1 11 rfl, cW X G e1 12 rfl, cW X G e1 13 rfl, cW X G e1 14 rfl, cW X G e1 15 rfl, cW X G e1 16 rfl, cW X G e1 17 rfl, cW X G e1 18 rfl, cW X G e1 19 rfl⟩
 have D0 : Def K mg "is_whole" gw := aY X G e0 0 rfl
 have D1 : Def K mg "is_place" gx := aY X G e0 1 rfl
 have D2 : Def K mg "are_rising_places" bR := aY X G e0 2 rfl
 have D3 : Def K mg "check_number" cZ := aY X G e0 3 rfl
 have D4 : Def K mg "threes" jx := aY X G e0 4 rfl
 have D5 : Def K mg "fours" kO := aY X G e0 5 rfl
 have D6 : Def K mg "row_bends" fH := aY X G e0 6 rfl
 have D7 : Def K mg "side_row" gu := aY X G e0 7 rfl
 have D8 : Def K mg "is_ring_by" eJ := aY X G e0 8 rfl
 have D9 : Def K mg "is_sign" iO := aY X G e0 9 rfl
 have D10 : Def K mg "turns_by_signs" cA := aY X G e0 10 rfl
 have D11 : Def K mg "change_once_at_most" bD := aY X G e0 11 rfl
 have D12 : Def K mg "are_signs_of" c6 := aY X G e0 12 rfl
 have D13 : Def K mg "check_signs" dQ := aY X G e0 13 rfl
 have D14 : Def K mg "is_ring_by_signs" bZ := aY X G e0 14 rfl
 have D15 : Def K mg "_law_box" kN := aY X G e0 15 rfl
 have D16 : Def K mg "_law_take" jy := aY X G e0 16 rfl
 have D17 : Def K mg "_law_whole" iL := aY X G e0 17 rfl
 have D18 : Def K mg "_law_odd" kM := aY X G e0 18 rfl
 have D19 : Def K mg "_law_bend" jA := aY X G e0 19 rfl
 have D20 : Def K mg "_law_free" jz := aY X G e0 20 rfl
 have D21 : Def K mg "_law_sheet" iN := aY X G e0 21 rfl
 have D22 : Def K mg "_law_threes" gv := aY X G e0 22 rfl
 have D23 : Def K mg "_law_signs" iM := aY X G e0 23 rfl
 have D24 : Def K mg "_law_are_signs" dP := aY X G e0 24 rfl
 have D25 : Def K mg "_law_sheet_of" eI := aY X G e0 25 rfl
 have D26 : Def K mg "_law_drawn_signs" cI := aY X G e0 26 rfl
 have D27 : Def K mg "_law_ring_so" fI := aY X G e0 27 rfl
 have D28 : Def K mg "_law_is_ring" fJ := aY X G e0 28 rfl
 obtain ⟨f, fd, F0, hf⟩ : Def K mg "law" hV := aY X G e0 29 rfl
 cases hfa.symm.trans hf
 have F := F0
 obtain ⟨oc, od, kV, doc, pm, an, cdv, ct, osl, ef, lk, hcd⟩ := F0.ex
 subst ef
 obtain ⟨tk0, Q0⟩ := nO X G e2 0 (n := "DOWN") (v := -1) rfl
 obtain ⟨tk1, Q1⟩ := nO X G e2 1 (n := "LEAST_CORNERS") (v := 3) rfl
 obtain ⟨tk2, Q2⟩ := nO X G e2 2 (n := "UP") (v := 1) rfl
 obtain ⟨tk3, Q3⟩ := nO X G e2 3 (n := "MOST_POINTS") (v := 24) rfl
 refine ⟨PySem.W.fnOf "law" "law" (bG hV) (bo hV) (ak hV) .none kV doc pm an cdv ct, fun s v => .of_eq rfl, fun base _ _ => ?_⟩
 have C_is_whole := og (P := l.prog) (w := w) (base := base) B D0
 have C_is_place := oh (P := l.prog) (w := w) (base := base) B D1 C_is_whole
 have C_are_rising_places := gV (P := l.prog) (w := w) (base := base) B D2 C_is_place
 have C_check_number := j9 (P := l.prog) (w := w) (base := base) B D3 C_is_whole
 have C_threes := qT (P := l.prog) (w := w) (base := base) B D4
 have C_fours := ue (P := l.prog) (w := w) (base := base) B D5 C_threes
 have C_row_bends := l8 (P := l.prog) (w := w) (base := base) B D6
 have C_side_row := n6 (P := l.prog) (w := w) (base := base) B D7
 have C_is_ring_by := lQ (P := l.prog) (w := w) (base := base) B D8 C_are_rising_places C_row_bends C_side_row Q0 Q1 Q2
 have C_is_sign := pU (P := l.prog) (w := w) (base := base) B D9 C_is_whole Q0 Q2
 have C_turns_by_signs := jq (P := l.prog) (w := w) (base := base) B D10 C_threes
 have C_change_once_at_most := gq (P := l.prog) (w := w) (base := base) B D11
 have C_are_signs_of := kb (P := l.prog) (w := w) (base := base) B D12 C_change_once_at_most C_fours C_is_sign C_threes C_turns_by_signs
 have C_check_signs := kK (P := l.prog) (w := w) (base := base) B D13 C_are_signs_of C_check_number
 have C_is_ring_by_signs := iK (P := l.prog) (w := w) (base := base) B D14 C_check_signs C_is_ring_by C_turns_by_signs Q3
 have C__law_box := uc (P := l.prog) (w := w) (base := base) B D15
 have C__law_take := qU (P := l.prog) (w := w) (base := base) B D16
 have C__law_whole := pQ (P := l.prog) (w := w) (base := base) B D17
 have C__law_odd := ub (P := l.prog) (w := w) (base := base) B D18 C__law_take
 have C__law_bend := qW (P := l.prog) (w := w) (base := base) B D19
 have C__law_free := qV (P := l.prog) (w := w) (base := base) B D20 C__law_bend
 have C__law_sheet := pS (P := l.prog) (w := w) (base := base) B D21 C__law_free C__law_take
 have C__law_threes := n9 (P := l.prog) (w := w) (base := base) B D22
 have C__law_signs := pR (P := l.prog) (w := w) (base := base) B D23 C__law_bend C__law_threes
 have C__law_are_signs := kJ (P := l.prog) (w := w) (base := base) B D24 C__law_threes C__law_whole
 have C__law_sheet_of := lP (P := l.prog) (w := w) (base := base) B D25 C__law_free C__law_sheet C__law_take
 have C__law_drawn_signs := jP (P := l.prog) (w := w) (base := base) B D26 C__law_are_signs C__law_sheet_of C__law_signs C__law_take
 have C__law_ring_so := md (P := l.prog) (w := w) (base := base) B D27
 have C__law_is_ring := me (P := l.prog) (w := w) (base := base) B D28 C__law_ring_so C__law_whole
 exact FnOk.imp (yq (P := l.prog) (w := w) (base := base) B F C__law_box C__law_drawn_signs C__law_is_ring C__law_odd C__law_take C__law_threes C_is_ring_by_signs) fun vs H Q E h => yi (fun ns hn => ⟨_, xp ns hn⟩) h
theorem walkL : PySem.W.WalkO viL loL (fun _ _ => True) (fun _ h => ∃ K : FG, K.In h /\ xk K = rX) PySem.Challenge.rw_bentrows_k54_rings_by_signs.row.toRowW ⟨"law", bG hV, bo hV, ak hV, stPos hV⟩ [] (fun f vs => PySem.call f vs) :=
 L2.walk_ofS (l := PySem.Challenge.rw_bentrows_k54_rings_by_signs) (n := 63) (k := 6) (x := "_law_script") (S := fun K => xk K = rX) (CX := CX0) (sp := uC) rfl (by decide) rfl ⟨rfl, by decide, by decide, rfl⟩ (fun _ _ z => z) (fun _ _ _ _ _ e X G hm => AL X G hm e) (fun _ _ a ns hl hO hS => ⟨a, ns, rfl, hS, hO, hl, fun _ => rfl⟩) fun _ _ _ _ z => z
end Bn
set_option tactic.hygienic true
open PySem PySem.W PyProof.Rows
set_option maxRecDepth 100000 in
set_option maxHeartbeats 0 in
theorem PySem.Challenge.cw_bentrows_k54_rings_by_signs_holds : PySem.Challenge.rw_bentrows_k54_rings_by_signs.Holds :=
 holds_law Bn.okL fun said => holds_open (r := PySem.Challenge.rw_bentrows_k54_rings_by_signs.row) Bn.leftL (fun _ _ e => ⟨_, L2.fragAt_in _, e⟩) (fun _ _ _ ⟨K, X, e⟩ k => ⟨K, X.keeps k, e⟩) (fun _ _ => trivial) (fun _ _ _ _ _ => trivial) (by kernel_rfl) (by kernel_rfl) (by kernel_rfl) (fun s e => recFacts_of e) (by rfl) said (by kernel_rfl) ⟨rfl, rfl, rfl, rfl, rfl, by decide +kernel⟩ ⟨[.list []], by decide +kernel, by decide +kernel⟩ Bn.walkL
