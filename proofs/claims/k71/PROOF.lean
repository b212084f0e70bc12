import PyProof.Rows.All
import Wide.All
import OpenK.AllK
import Wide.FinOn
import Lean
import PyProof.EqAt
import PyProof.EqKinds
import PyProof.TupleCall
import PyProof.P3Eq
import PyProof.NeData
import PyProof.ListRange
import PyProof.Rows.CallKwBuiltin
import PyProof.Rows.Range3
import PyProof.DictWalks
import PyProof.MinMaxWalk
import PyProof.WalkInts
import PyProof.Walk
import PyProof.WalkLemmas
import PyProof.RulesTry
import PyProof.Rows.SortShell
import PyProof.Rows.SortWalk
import PyProof.Rows.SortRuns
import PySem.Challenge.RW_bentrows_k71_peels_told
set_option tactic.hygienic false
set_option genSizeOf false
set_option Elab.async false
set_option linter.all false
set_option maxRecDepth 100000
set_option maxHeartbeats 4000000
section
abbrev FG:=PySem.W.Frag
open PySem PySem.Spec PyProof.Rows
abbrev yH:=@wpAny_bind
abbrev yI:=@wpAny_pure
abbrev yJ:=@wpAny_holding
abbrev yK:=@List.mem_cons_self
abbrev yM:=@List.mem_cons_of_mem
abbrev yN:=@Heap.get?_push_of_some
abbrev yO:=@Option.map_eq_some_iff
abbrev yP:=@List.mem_append_left
abbrev yQ:=@List.mem_append_right
abbrev yR:=@List.mem_cons
abbrev yS:=@List.getElem?_eq_getElem
abbrev yT:=@Heap.lt_size
abbrev yU:=@List.mem_append
abbrev yV:=@Heap.get?_push_size
abbrev yW:=@List.length_map
abbrev yX:=@List.getElem?_eq_some_iff
abbrev yY:=@List.mem_of_getElem?
abbrev yZ:=@List.sublist_append_right
abbrev y6:=@List.mem_map
abbrev y7:=@List.getElem?_map
abbrev y8:=@Nat.le_refl
abbrev y9:=@Bool.false_ne_true
abbrev za:=@Nat.ne_of_lt
abbrev zb:=@List.size_toArray
abbrev zc:=@List.map_cons
abbrev zd:=@decide_eq_true
abbrev ze:=@decide_eq_false
abbrev zf:=@Nat.lt_of_lt_of_le
abbrev zg:=@Nat.zero_add
abbrev zh:=@Heap.get?_update_self
abbrev zi:=@List.length_append
abbrev zj:=@List.length_cons
abbrev zk:=@List.length_take
abbrev zm:=@Option.map_some
abbrev zn:=@Option.bind_eq_some_iff
abbrev zo:=@List.mem_singleton
abbrev zp:=@Bool.false_eq_true
abbrev zq:=@List.mem_filter
abbrev zr:=@List.getElem?_append_left
abbrev zt:=@Heap.get?_update_other
abbrev zu:=@wpAny_truthy_bool
abbrev zv:=@Nat.le_trans
abbrev zw:=@List.filter_eq_self
abbrev zx:=@Option.some.inj
end
section
namespace L2
open PySem
noncomputable def bg (s : Stmt) : Arguments := match s with
  | .FunctionDef _ a _ _ _ _ _ _ _ _ => a
  | _ => { posonlyargs := [], args := [], vararg := none, kwonlyargs := [], kw_defaults := [], kwarg := none, defaults := [] }
noncomputable def aU (s : Stmt) : List Stmt := match s with
  | .FunctionDef _ _ b _ _ _ _ _ _ _ => b
  | _ => []
noncomputable def ah (s : Stmt) : Scope := match s with
  | .FunctionDef _ _ _ _ _ _ sc _ _ _ => sc
  | _ => { kind := .function, names := [], isGenerator := false, isCoroutine := false }
noncomputable def tV (h : Heap) : FG := (List.range h.objs.size).filterMap fun a => (h.get? a).map fun o => (a, o)
noncomputable def refIn (K : FG) (n : Str) : Addr := match PySem.W.nsIn K mainGlobals n with
  | some (some (.ref f)) => f
  | _ => 0
noncomputable abbrev md := Str × Str × Arguments × FuncBody × Scope × Addr × List (Str × Addr) × Value × Addr × Bool
noncomputable def nk (K : FG) (n : Str) : Option md := match PySem.W.nsIn K mainGlobals n with
  | some (some (.ref f)) => (match K.lookup f with
    | some ⟨_, _, .func fd, _⟩ => some (fd.name, fd.qualname, fd.params, fd.body, fd.scope, fd.globals, fd.closure, fd.defaults, fd.builtins, PySem.W.codeIn K fd.code n)
    | _ => none)
  | _ => none
noncomputable def kb (n : Str) (st : Stmt) : Option md := some (n, n, bg st, .stmts (aU st), ah st, mainGlobals, [], .none, builtinsNs, true)
noncomputable def lO (K : FG) (n : Str) : Option Int := match PySem.W.nsIn K mainGlobals n with
  | some (some (.int v _)) => some v
  | _ => none
noncomputable def rV (K : FG) (n : Str) : Option Str := match PySem.W.nsIn K mainGlobals n with
  | some (some (.str v _)) => some v
  | _ => none
open PySem.W PyProof.Rows in
theorem qS {p q : Program} {loose : List Str} {Xt : Shared → Bool} {α : Type} {Yf : Shared → α} {Ya : World → α} {N m : Nat} {ann : Option Value}
    (e : opening p = plainProg p.main.scope.names) (hN : Nat.ble 600 N = true) (f : ∀ s, fenceModules? p s = some s)
    (sz : ∀ w : World, ((boot_heap w.params).isNs mainGlobals && (Array.mk [] : Array GenState).size == 0, (boot_heap w.params).objs.size, (boot_heap w.params).nsMap mainGlobals "__annotations__") = (true, m, ann))
    (go : ∀ (w : World) (os : OsState), (PySem.W.Fast.tw14082659384304107361 PySem.W.Fast.tw14364793385576792824 p w m ann N ⟨boot_heap w.params, Array.mk [], boot_drawn, boot_toks, os⟩ (topStub p)).map (fun s => ((staticsOk (importedModules p.main.body) (boot_heap w.params) s.heap && namesBound p s.heap && gensDone s && laidKept (boot_heap w.params) s.heap), PySem.W.Fast.tw4187177175401517315 q loose (importedModules p.main.body) Xt true s, Yf s)) = some (true, openGood q loose, Ya w)) : LeftO p q loose Xt Yf Ya N := fun w => by
  obtain ⟨⟨hp, gn, dr, tk, os⟩, ea, eb⟩ := yO.mp (boot_open e hN f w)
  obtain ⟨rfl, rfl, rfl, rfl⟩ : hp = boot_heap w.params ∧ gn = Array.mk [] ∧ dr = boot_drawn ∧ tk = boot_toks := by simpa using eb
  have sw := sz w
  have rw0 := go w os
  rw [← PySem.W.Fast.te14082659384304107361, ← PySem.W.Fast.te14364793385576792824, ← PySem.W.Fast.te4187177175401517315] at rw0
  simp only [Prod.mk.injEq] at sw
  obtain ⟨s, ec, ed⟩ := yO.mp rw0
  simp only [Prod.mk.injEq] at ed
  have tt : topFrom treeTable p w N ⟨boot_heap w.params, Array.mk [], boot_drawn, boot_toks, os⟩ = some s := by
    unfold topFrom
    dsimp only
    rw [sw.1, sw.2.1, sw.2.2, ec]
    change (match staticsOk (importedModules p.main.body) (boot_heap w.params) s.heap && namesBound p s.heap && gensDone s && laidKept (boot_heap w.params) s.heap with | true => some s | false => none) = some s
    rw [ed.1]
  unfold openEnds
  rw [ea]
  change Option.map _ (topFrom treeTable p w N _) = _
  rw [tt]
  exact congrArg some (Prod.ext ed.2.1 ed.2.2)
theorem qv {l : PySem.W.OpenLaw} (h : PySem.W.Fast.tw9446332074065402090 l = true) : l.wellSaid = true := by rw [← PySem.W.Fast.te9446332074065402090] at h; exact h
end L2
namespace Bn
open PySem L2
noncomputable def top (i : Nat) : Stmt := PySem.Challenge.pw_bentrows_k71_peels_told.main.body.getD i (.Pass ⟨0, 0, 0, 0⟩)
noncomputable abbrev eQ : Stmt := top 6
noncomputable abbrev eS : Stmt := top 7
noncomputable abbrev eT : Stmt := top 8
noncomputable abbrev cT : Stmt := top 9
noncomputable abbrev dq : Stmt := top 12
noncomputable abbrev cv : Stmt := top 13
noncomputable abbrev lw : Stmt := top 14
noncomputable abbrev gQ : Stmt := top 15
noncomputable abbrev b9 : Stmt := top 16
noncomputable abbrev eR : Stmt := top 17
noncomputable abbrev cS : Stmt := top 18
noncomputable abbrev gg : Stmt := top 19
noncomputable abbrev dS : Stmt := top 24
noncomputable abbrev cr : Stmt := top 25
noncomputable abbrev dn : Stmt := top 26
noncomputable abbrev cu : Stmt := top 28
noncomputable abbrev jr : Stmt := top 29
noncomputable abbrev js : Stmt := top 30
noncomputable abbrev jt : Stmt := top 32
noncomputable abbrev gR : Stmt := top 33
noncomputable abbrev gh : Stmt := top 34
noncomputable abbrev gT : Stmt := top 35
noncomputable abbrev gS : Stmt := top 36
noncomputable abbrev gi : Stmt := top 37
noncomputable abbrev eP : Stmt := top 38
noncomputable abbrev fK : Stmt := top 39
noncomputable abbrev dsL : List (Str × Stmt) := [(("is_whole" : Str), eQ), (("is_point" : Str), eS), (("is_place" : Str), eT), (("check_place" : Str), cT), (("are_points" : Str), dq), (("has_rising_x" : Str), cv), (("bend" : Str), lw), (("threes" : Str), gQ), (("first_on_line" : Str), b9), (("is_sheet" : Str), eR), (("check_sheet" : Str), cS), (("turn_at" : Str), gg), (("outer_row" : Str), dS), (("ring_of_rows" : Str), cr), (("outer_ring" : Str), dn), (("outer_places" : Str), cu), (("peels" : Str), jr), (("layer" : Str), js), (("_law_box" : Str), jt), (("_law_take" : Str), gR), (("_law_whole" : Str), gh), (("_law_bend" : Str), gT), (("_law_free" : Str), gS), (("_law_sheet" : Str), gi), (("_law_corner" : Str), eP), (("law" : Str), fK)]
noncomputable abbrev blL : List Str := [("len" : Str), ("range" : Str), ("abs" : Str), ("divmod" : Str), ("enumerate" : Str), ("tuple" : Str), ("isinstance" : Str), ("int" : Str), ("bool" : Str), ("all" : Str), ("str" : Str), ("max" : Str), ("min" : Str), ("list" : Str), ("dict" : Str), ("repr" : Str), ("sorted" : Str), ("set" : Str), ("zip" : Str), ("reversed" : Str)]
noncomputable abbrev ciL : List (Str × Int) := [(("MOST_POINTS" : Str), (24 : Int)), (("DOWN" : Str), (-1 : Int)), (("LEAST_CORNERS" : Str), (3 : Int)), (("UP" : Str), (1 : Int))]
noncomputable abbrev csL : List (Str × Str) := []
noncomputable def uU (K : FG) : List (Option md) × List (Option (Option Value)) × List (Option Int) × List (Option Str) := (dsL.map (fun p => nk K p.1), blL.map (PySem.W.nsIn K mainGlobals), ciL.map (fun p => lO K p.1), csL.map (fun p => rV K p.1))
noncomputable def pW : List (Option md) × List (Option (Option Value)) × List (Option Int) × List (Option Str) := (dsL.map (fun p => kb p.1 p.2), blL.map (fun _ => some none), ciL.map (fun p => some p.2), csL.map (fun p => some p.2))
theorem okL : PySem.Challenge.rw_bentrows_k71_peels_told.wellSaid = true := qv (by kernel_rfl)
noncomputable abbrev loL : List Str := [("BentError" : Str), ("NoSheet" : Str), ("NoPlace" : Str), ("Bare" : Str), ("is_whole" : Str), ("is_point" : Str), ("is_place" : Str), ("check_place" : Str), ("MOST_POINTS" : Str), ("are_points" : Str), ("has_rising_x" : Str), ("bend" : Str), ("threes" : Str), ("first_on_line" : Str), ("is_sheet" : Str), ("check_sheet" : Str), ("turn_at" : Str), ("UP" : Str), ("DOWN" : Str), ("LEAST_CORNERS" : Str), ("outer_row" : Str), ("ring_of_rows" : Str), ("outer_ring" : Str), ("outer_places" : Str), ("peels" : Str), ("layer" : Str), ("_law_box" : Str), ("_law_take" : Str), ("_law_whole" : Str), ("_law_bend" : Str), ("_law_free" : Str), ("_law_sheet" : Str), ("_law_corner" : Str)]
noncomputable abbrev viL : Program := PySem.W.view PySem.Challenge.rw_bentrows_k71_peels_told.row.prog [39]
theorem leftL : PySem.W.LeftO PySem.Challenge.rw_bentrows_k71_peels_told.row.prog viL loL (fun s => PySem.W.recOk (PySem.W.RowW.records PySem.Challenge.rw_bentrows_k71_peels_told.row.toRowW) s) (fun s => uU (tV s.heap)) (fun _ => pW) 40000 :=
  qS (m := 11) (ann := some (.ref 6)) (by kernel_rfl) rfl (fun _ => rfl) (fun w => by kernel_rfl) (fun w os => by kernel_rfl)
end Bn
end
section
namespace L2
open PySem PySem.Spec PyProof.Rows
noncomputable abbrev Key:=Sum Int Str
noncomputable def k8:Key->Value->Bool
  | .inl k,v=>Value.isInt k v
  | .inr x,v=>Value.isStrOf x v
noncomputable def keyH (w:World):Key->Int
  | .inl k=>hashInt k
  | .inr x=>hashStr w x
theorem bv:∀ {k:Key} {v:Value},k8 k v=true->(∃ i t,k=Sum.inl i/\v=Value.int i t)\/(∃ x t,k=Sum.inr x/\v=Value.str x t)
  | .inl i,v,h=>by
    obtain ⟨t,e⟩:=Value.isInt_shape (k:=i) (v:=v) h
    exact .inl ⟨i,t,rfl,e⟩
  | .inr x,v,h=>by
    obtain ⟨t,e⟩:=Value.isStrOf_shape (x:=x) (v:=v) h
    exact .inr ⟨x,t,rfl,e⟩
theorem qX (i:Int) (t:Tok):k8 (.inl i) (.int i t)=true:=by simp [k8,Value.isInt]
theorem qW (x:Str) (t:Tok):k8 (.inr x) (.str x t)=true:=by simp [k8,Value.isStrOf]
theorem x6 (a b:Int):decide ((Sum.inl a:Key)=Sum.inl b)=(a == b):=by
  by_cases e:a=b
  · subst e;simp
  · have h:¬ (Sum.inl a:Key)=Sum.inl b:=fun q=>e (Sum.inl.inj q)
    rw [ze h]
    exact (beq_eq_false_iff_ne.mpr e).symm
theorem xZ (a b:Str):decide ((Sum.inr a:Key)=Sum.inr b)=decide (a=b):=by
  by_cases e:a=b
  · subst e;simp
  · have h:¬ (Sum.inr a:Key)=Sum.inr b:=fun q=>e (Sum.inr.inj q)
    rw [ze h,ze e]
theorem x5 (a:Int) (b:Str):decide ((Sum.inl a:Key)=Sum.inr b)=false:=ze (fun q=>nomatch q)
theorem x4 (a:Str) (b:Int):decide ((Sum.inr a:Key)=Sum.inl b)=false:=ze (fun q=>nomatch q)
noncomputable def bV (prog:Program) (w:World):PySem.KeyKind prog w Key where
  is:=k8
  hash:=keyH w
  inj:=fun v a b ha hb=>by
    rcases bv ha with ⟨i,t,rfl,rfl⟩ | ⟨x,t,rfl,rfl⟩
    · rcases bv hb with ⟨j,u,rfl,e⟩ | ⟨y,u,rfl,e⟩
      · injection e with e1 _;rw [e1]
      · exact nomatch e
    · rcases bv hb with ⟨j,u,rfl,e⟩ | ⟨y,u,rfl,e⟩
      · exact nomatch e
      · injection e with e1 _;rw [e1]
  byValue:=fun k v h=>by
    rcases bv h with ⟨i,t,rfl,rfl⟩ | ⟨x,t,rfl,rfl⟩ <;> rfl
  pyHash:=fun hv h=>by
    rcases bv hv with ⟨i,t,rfl,rfl⟩ | ⟨x,t,rfl,rfl⟩
    · exact wpAny_pyHash_int h
    · exact wpAny_pyHash_str h
  eqBool:=fun hu hv h=>by
    rcases bv hu with ⟨i,t,rfl,rfl⟩ | ⟨x,t,rfl,rfl⟩
    · rcases bv hv with ⟨j,u,rfl,rfl⟩ | ⟨y,u,rfl,rfl⟩
      · rw [x6] at h;exact wpAny_eqBool_int h
      · rw [x5] at h;exact SeqAt.EqAt.int_str i t y u _ _ _ _ h
    · rcases bv hv with ⟨j,u,rfl,rfl⟩ | ⟨y,u,rfl,rfl⟩
      · rw [x4] at h;exact SeqAt.EqAt.str_int x t j u _ _ _ _ h
      · rw [xZ] at h;exact wpAny_eqBool_str h
  «strs»:=fun k x t v h=>by
    rcases bv h with ⟨i,u,rfl,e⟩ | ⟨y,u,rfl,e⟩
    · exact nomatch e
    · injection e with e1 _
      subst e1
      cases v <;> rfl
theorem mT (prog:Program) (w:World) (i:Int) (t:Tok):(bV prog w).is (.inl i) (.int i t)=true:=qX i t
theorem mS (prog:Program) (w:World) (x:Str) (t:Tok):(bV prog w).is (.inr x) (.str x t)=true:=qW x t
end L2
namespace L2
open PySem PySem.Spec PyProof.Rows
inductive V where
  | non | bl (b:Bool) | int (i:Int) | str (x:Str) | byt (b:Array UInt8) | flt (b:UInt64) | ref (a:Addr) | ty (n:String)
  deriving DecidableEq
noncomputable def RelV:V->Value->Prop
  | .non,u=>u=Value.none
  | .bl b,u=>u=Value.bool b
  | .int i,u=>∃ t,u=Value.int i t
  | .str x,u=>∃ t,u=Value.str x t
  | .byt b,u=>∃ t,u=Value.bytes b t
  | .flt b,u=>∃ t,u=Value.float b t
  | .ref a,u=>u=Value.ref a
  | .ty n,u=>u=Value.type n
noncomputable abbrev Vals:List V->List Value->Prop:=Paired RelV
theorem Vals.length {xs:List V} {us:List Value} (r:Vals xs us):xs.length=us.length:=Paired.length r
theorem Vals.get:∀ {xs:List V} {us:List Value} {i:Nat} {x:V},Vals xs us->xs[i]?=some x->∃ u,us[i]?=some u/\RelV x u
  | _,_,_,_,.nil,e=>by simp at e
  | _,_,0,_,.cons r _,e=>by simp at e;subst e;exact ⟨_,rfl,r⟩
  | _,_,i+1,x,.cons _ t,e=>by
    obtain ⟨u,h1,h2⟩:=Vals.get (i:=i) (x:=x) t (by simpa using e)
    exact ⟨u,by simpa using h1,h2⟩
theorem Vals.set {x:V} {u:Value} (r:RelV x u):∀ {xs:List V} {us:List Value} (i:Nat),Vals xs us->Vals (xs.set i x) (us.set i u)
  | _,_,_,.nil=>.nil
  | _,_,0,.cons _ t=>.cons r t
  | _,_,i+1,.cons q t=>.cons q (Vals.set r i t)
theorem Vals.append:∀ {xs ys:List V} {us ws:List Value},Vals xs us->Vals ys ws->Vals (xs ++ ys) (us ++ ws)
  | _,_,_,_,.nil,s=>s
  | _,_,_,_,.cons r t,s=>.cons r (Vals.append t s)
theorem Vals.take:∀ {xs:List V} {us:List Value} (n:Nat),Vals xs us->Vals (xs.take n) (us.take n)
  | _,_,0,_=>.nil
  | _,_,_+1,.nil=>.nil
  | _,_,n+1,.cons r t=>.cons r (Vals.take n t)
theorem Vals.drop:∀ {xs:List V} {us:List Value} (n:Nat),Vals xs us->Vals (xs.drop n) (us.drop n)
  | _,_,0,r=>r
  | _,_,_+1,.nil=>.nil
  | _,_,n+1,.cons _ t=>Vals.drop n t
noncomputable def RelO:Option V->Option Value->Prop
  | some v,some u=>RelV v u
  | none,none=>True
  | _,_=>False
noncomputable def KV {κ:Type}:List (κ × V)->List (κ × Value)->Prop:=Paired fun (p:κ × V) (q:κ × Value)=>p.1=q.1/\RelV p.2 q.2
noncomputable def kV:Key->V
  | .inl i=>.int i
  | .inr x=>.str x
inductive HO where
  | lst (xs:List V)
  | tup (xs:List V)
  | dK (kvs:List (Key × V)) | dT (kvs:List (List Key × V))
  | set (S:Int->Bool) (n:Nat)
  | ins (C dx:Addr) (fs:List (Str × V))
  | own (x:Addr)
  | xd (fs:List (Str × V))
  | met (f x:Addr)
  | rng (lo hi:Int)
  | frz (o:Obj) (u:HO)
  | tbl (ps:Array Value)
  | ext (φ:Heap->Prop)
noncomputable abbrev Hp:=Addr->Option HO
noncomputable def upd (H:Hp) (a:Addr) (o:HO):Hp:=fun b=>if b=a then some o else H b
theorem bm {H:Hp} {a:Addr} {o:HO}:upd H a o a=some o:=by unfold upd;rw [if_pos rfl]
theorem aG {H:Hp} {a b:Addr} {o:HO} (h:b ≠ a):upd H a o b=H b:=by unfold upd;rw [if_neg h]
theorem ne_of {H:Hp} {a b:Addr} {o u:HO} (h:H a=some o) (h':H b=some u) (d:o ≠ u):a ≠ b:=by
  intro e;subst e;rw [h] at h';exact d (zx h')
theorem bd {H:Hp} {a b:Addr} {o:HO} (h:H a=some o) (h':H b=none):a ≠ b:=by
  intro e;subst e;rw [h] at h';cases h'
noncomputable def DictOfE {prog:Program} {w:World} {κ:Type} [DecidableEq κ] (knd:KeyKind prog w κ) (h:Heap) (a:Addr) (kvs:List (κ × Value)):Prop :=
  ∃ o es ep,h.get? a=some o/\o.ExactDict/\o.data=.dict es ep/\KeysOf knd es/\Pairs knd es.toList kvs/\(kvs.map (·.1)).Nodup/\ep=es.size
theorem DictOfE.of {prog:Program} {w:World} {κ:Type} [DecidableEq κ] {knd:KeyKind prog w κ} {h:Heap} {a:Addr} {kvs:List (κ × Value)} (x:DictOfE knd h a kvs):h.DictOf knd a kvs:=let ⟨o,es,ep,h1,h2,h3,h4,h5,h6,_⟩:=x;⟨o,es,ep,h1,h2,h3,h4,h5,h6⟩
noncomputable def IsTupD (h:Heap) (a:Addr) (items:Array Value):Prop:=∃ o,h.get? a=some o/\o.cls=.type "tuple"/\∃ n,(o.data,o.dict)=(Data.seq items n,none)
theorem IsTupD.tup {h:Heap} {a:Addr} {items:Array Value} (x:IsTupD h a items):IsTup h a items:=let ⟨o,e,c,n,d⟩:=x;⟨o,e,c,n,congrArg Prod.fst d⟩
theorem IsTupD.lt {h:Heap} {a:Addr} {items:Array Value} (x:IsTupD h a items):a < h.objs.size:=x.tup.lt
theorem IsTupD.new (h:Heap) (items:Array Value):IsTupD (h.push { cls:=.type "tuple",data:=.seq items }) h.objs.size items:=⟨_,yV h rfl,rfl,_,rfl⟩
section
variable (P:Program) (w:World)
noncomputable def ObjOk (H:Hp) (h:Heap) (a:Addr):HO->Prop
  | .lst xs=>xs.length<=sizeLine/\∃ (its:List Value) (n:Nat),Vals xs its/\h.get? a=some { cls:=.type "list",data:=.seq its.toArray n }
  | .tup xs=>xs.length<=sizeLine/\∃ its:List Value,Vals xs its/\IsTupD h a its.toArray
  | .dK kvs=>kvs.length<=sizeLine/\(a == sysModules)=false/\∃ vs,KV kvs vs/\DictOfE (bV P w) h a vs
  | .dT kvs=>kvs.length<=sizeLine/\(a == sysModules)=false/\∃ xs:List (List Key × Addr × Value),
      Paired (fun (p:List Key × V) (q:List Key × Addr × Value)=>p.1=q.1/\H q.2.1=some (.tup (p.1.map kV))/\RelV p.2 q.2.2) kvs xs /\
      ∃ o es ep,h.get? a=some o/\o.ExactDict/\o.data=.dict es ep/\es.toList=xs.map (entryOfKey (tupleKind (bV P w)))/\(xs.map (·.1)).Nodup/\ep=es.size
  | .set S n=>h.SetOf (intKind P w) a S n
  | .ins C dx fs=>H dx=some (.own a)/\fs.length<=1000/\dx ≠ a/\h.get? a=some (PySem.W.instObj C dx) /\
      ∃ mA,h.Ns1 dx mA/\(∀ f,RelO (fs.lookup f) (mA f))/\PySem.Within mA (fs.map (·.1))
  | .own _=>∃ o,h.get? a=some o
  | .xd fs=>∃ mA,h.Ns1 a mA/\∀ f,RelO (fs.lookup f) (mA f)
  | .rng lo hi=>∃ t u v,h.get? a=some { cls:=.type "range",data:=.fields #[.int lo t,.int hi u,.int 1 v] }
  | .frz o u=>h.get? a=some o/\ObjOk H h a u
  | .tbl ps=>h.get? a=some { cls:=.none,data:=.fields ps }
  | .met f x=>h.get? a=some (PySem.W.methodObj (.ref f) (.ref x))
  | .ext φ=>φ h/\(∃ o,h.get? a=some o)/\∀ h1 h2:Heap,φ h1->(∀ o,h1.get? a=some o->h2.get? a=some o)->φ h2
noncomputable def HOk (H:Hp) (h:Heap):Prop:=∀ a o,H a=some o->ObjOk P w H h a o
end
section
variable {P:Program} {w:World} {H H':Hp} {h h':Heap} {a:Addr} {o:HO}
theorem ObjOk.lt (x:ObjOk P w H h a o):a < h.objs.size:=by
  cases o with
  | lst xs=>obtain ⟨_,_,_,_,e⟩:=x;exact yT e
  | tup xs=>obtain ⟨_,_,_,p⟩:=x;exact p.lt
  | dK kvs=>obtain ⟨_,_,_,_,o,_,_,e,_⟩:=x;exact yT e
  | dT kvs=>obtain ⟨_,_,_,_,o,_,_,e,_⟩:=x;exact yT e
  | set S n=>obtain ⟨o,_,_,_,e,_⟩:=x;exact yT e
  | ins C dx fs=>obtain ⟨_,_,_,e,_⟩:=x;exact yT e
  | own y=>obtain ⟨_,e⟩:=x;exact yT e
  | xd fs=>obtain ⟨_,⟨_,_,_,e,_⟩,_⟩:=x;exact yT e
  | rng lo hi=>obtain ⟨_,_,_,e⟩:=x;exact yT e
  | frz ob u=>obtain ⟨e,_⟩:=x;exact yT e
  | tbl ps=>exact yT (show h.get? a=some _ from x)
  | met f y=>exact yT (show h.get? a=some _ from x)
  | ext φ=>obtain ⟨_,⟨_,e⟩,_⟩:=x;exact yT e
theorem Paired.mapP {α β:Type} {F G:α->β->Prop}:∀ {l₁:List α} {l₂:List β},Paired F l₁ l₂->(∀ a b,F a b->G a b)->Paired G l₁ l₂
  | _,_,.nil,_=>.nil
  | _,_,.cons r t,f=>.cons (f _ _ r) (Paired.mapP t f)
theorem ObjOk.stay (x:ObjOk P w H h a o) (k:∀ b u,(b=a\/H b=some (.own a))->h.get? b=some u->h'.get? b=some u)
    (ho:∀ b,H b=some (.own a)->H' b=some (.own a)) (ht:∀ b xs,H b=some (.tup xs)->H' b=some (.tup xs)):ObjOk P w H' h' a o:=by
  induction o with
  | lst xs=>obtain ⟨z,its,n,r,e⟩:=x;exact ⟨z,its,n,r,k _ _ (.inl rfl) e⟩
  | tup xs=>obtain ⟨z,its,r,ob,e,c⟩:=x;exact ⟨z,its,r,ob,k _ _ (.inl rfl) e,c⟩
  | dK kvs=>obtain ⟨z,y,vs,r,ob,es,ep,e,c⟩:=x;exact ⟨z,y,vs,r,ob,es,ep,k _ _ (.inl rfl) e,c⟩
  | dT kvs =>
    obtain ⟨z,y,xs,r,ob,es,ep,e,c⟩:=x
    exact ⟨z,y,xs,Paired.mapP r fun p q z=>⟨z.1,ht _ _ z.2.1,z.2.2⟩,ob,es,ep,k _ _ (.inl rfl) e,c⟩
  | set S n=>obtain ⟨ob,es,ep,t,e,c⟩:=x;exact ⟨ob,es,ep,t,k _ _ (.inl rfl) e,c⟩
  | ins C dx fs =>
    obtain ⟨d,z,ne,e,mA,⟨od,es,ep,e2,c⟩,r⟩:=x
    exact ⟨ho _ d,z,ne,k _ _ (.inl rfl) e,mA,⟨od,es,ep,k _ _ (.inr d) e2,c⟩,r⟩
  | own y=>obtain ⟨ob,e⟩:=x;exact ⟨ob,k _ _ (.inl rfl) e⟩
  | xd fs=>obtain ⟨mA,⟨od,es,ep,e,c⟩,r⟩:=x;exact ⟨mA,⟨od,es,ep,k _ _ (.inl rfl) e,c⟩,r⟩
  | rng lo hi=>obtain ⟨t,u,v,e⟩:=x;exact ⟨t,u,v,k _ _ (.inl rfl) e⟩
  | frz ob u ih=>obtain ⟨e,q⟩:=x;exact ⟨k _ _ (.inl rfl) e,ih q⟩
  | tbl ps =>
    have e:h.get? a=some { cls:=.none,data:=.fields ps }:=x
    show h'.get? a=some { cls:=.none,data:=.fields ps }
    exact k a _ (.inl rfl) e
  | met f y =>
    have e:h.get? a=some (PySem.W.methodObj (.ref f) (.ref y)):=x
    show h'.get? a=some (PySem.W.methodObj (.ref f) (.ref y))
    exact k a _ (.inl rfl) e
  | ext φ=>obtain ⟨p,⟨o,e⟩,st⟩:=x;exact ⟨st _ _ p fun o q=>k _ _ (.inl rfl) q,⟨o,k _ _ (.inl rfl) e⟩,st⟩
theorem HOk.lt (x:HOk P w H h) (e:H a=some o):a < h.objs.size:=(x a o e).lt
theorem HOk.fresh (x:HOk P w H h) (e:h.objs.size<=a):H a=none:=by
  cases q:H a with
  | none=>rfl
  | some u=>exact absurd (zf (x.lt q) e) (Nat.lt_irrefl _)
theorem HOk.kept (x:HOk P w H h) (k:∀ b u,h.get? b=some u->h'.get? b=some u):HOk P w H h':=fun a o e =>
  (x a o e).stay (fun b u _ q=>k b u q) (fun _ q=>q) fun _ _ q=>q
theorem HOk.laid (x:HOk P w H h) (k:∀ b u,h.get? b=some u->h'.get? b=some u) (hp:h.objs.size<=a) (new:ObjOk P w (upd H a o) h' a o):HOk P w (upd H a o) h':=fun b u e=>by
  have hn:=x.fresh hp
  by_cases hb:b=a
  · subst hb;rw [bm] at e;cases e;exact new
  · rw [aG hb] at e
    exact (x b u e).stay (fun c v _ q=>k c v q) (fun c q=>by rw [aG (bd q hn)];exact q) fun c xs q=>by rw [aG (bd q hn)];exact q
end
noncomputable def Rd (H:Hp) (a:Addr) (u:HO):Prop:=H a=some u\/∃ o,H a=some (.frz o u)
theorem Rd.ok {P:Program} {w:World} {H:Hp} {h:Heap} {a:Addr} {u:HO} (r:Rd H a u) (x:HOk P w H h):ObjOk P w H h a u:=by
  rcases r with r | ⟨o,r⟩
  · exact x a u r
  · obtain ⟨_,q⟩:=x a _ r
    exact q
noncomputable def Mut:Option HO->Prop
  | some (.lst _)=>True
  | some (.dK _)=>True
  | some (.dT _)=>True
  | some (.set _ _)=>True
  | some (.ins _ _ _)=>True
  | some (.ext _)=>True
  | _=>False
section
variable {P:Program} {w:World} {H:Hp} {h h':Heap} {x e:Addr} {o':HO}
theorem HOk.write (ok:HOk P w H h) (mu:Mut (H x)) (he:e=x\/H e=some (.own x)) (k:∀ b u,b ≠ e->h.get? b=some u->h'.get? b=some u) (heo:∃ u,h'.get? e=some u)
    (new:ObjOk P w (upd H x o') h' x o'):HOk P w (upd H x o') h':=fun b u q=>by
  have nown:∀ c y,H c=some (.own y)->c ≠ x:=fun c y r z=>by subst z;rw [r] at mu;exact mu
  have ntup:∀ c xs,H c=some (.tup xs)->c ≠ x:=fun c xs r z=>by subst z;rw [r] at mu;exact mu
  by_cases hb:b=x
  · subst hb;rw [bm] at q;cases q;exact new
  · rw [aG hb] at q
    by_cases hbe:b=e
    · have q':H b=some (.own x):=by
        rcases he with z | z
        · exact absurd (hbe.trans z) hb
        · rw [hbe];exact z
      rw [q] at q';cases q'
      obtain ⟨v,hv⟩:=heo
      exact ⟨v,by rw [hbe];exact hv⟩
    · refine (ok b u q).stay (fun c v hc r=>k c v ?_ r) (fun c r=>by rw [aG (nown c b r)];exact r) fun c xs r=>by rw [aG (ntup c xs r)];exact r
      rcases hc with rfl | hc
      · exact hbe
      · rintro rfl
        rcases he with z | z
        · exact nown c b hc z
        · rw [hc] at z;cases z;exact hb rfl
end
structure Un (fs ex:List Addr) (H H':Hp) (h h':Heap):Prop where
  keep:∀ b o,h.get? b=some o->H b=none->b ∉ fs->b ∉ ex->h'.get? b=some o
  slot:∀ b o,h.get? b=some o->H b=none->b ∈ fs->b ∉ ex->∃ sl,h'.get? b=some { o with slots:=sl }
  free:∀ b o,h.get? b=some o->H b=none->b ∉ ex->H' b=none
  there:∀ b o,h.get? b=some o->b ∉ ex->∃ o',h'.get? b=some o'
  tups:∀ b xs,H b=some (.tup xs)->H' b=some (.tup xs)
  frzs:∀ b o u,H b=some (.frz o u)->H' b=some (.frz o u)
  tbls:∀ b ps,H b=some (.tbl ps)->∃ more,H' b=some (.tbl (ps ++ more))
section
variable {fs fs' ex ex':List Addr} {H H1 H2:Hp} {h h1 h2 h':Heap} {a x e:Addr} {o:HO}
theorem Un.any (u:Un fs ex H H1 h h1) {b:Addr} {ob:Obj} (q:h.get? b=some ob) (n:H b=none) (hx:b ∉ ex):∃ sl,h1.get? b=some { ob with slots:=sl }:=by
  by_cases hb:b ∈ fs
  · exact u.slot b ob q n hb hx
  · exact ⟨ob.slots,u.keep b ob q n hb hx⟩
theorem Un.trans (a:Un fs ex H H1 h h1) (b:Un fs ex H1 H2 h1 h2):Un fs ex H H2 h h2 where
  keep:=fun c ob q n hc hx=>b.keep c ob (a.keep c ob q n hc hx) (a.free c ob q n hx) hc hx
  slot:=fun c ob q n hc hx=>by
    obtain ⟨sl,e1⟩:=a.slot c ob q n hc hx
    obtain ⟨sl',e2⟩:=b.slot c _ e1 (a.free c ob q n hx) hc hx
    exact ⟨sl',e2⟩
  free:=fun c ob q n hx=>by
    obtain ⟨o',e1⟩:=a.there c ob q hx
    exact b.free c o' e1 (a.free c ob q n hx) hx
  there:=fun c ob q hx=>by
    obtain ⟨o',e1⟩:=a.there c ob q hx
    exact b.there c o' e1 hx
  tups:=fun c xs q=>b.tups c xs (a.tups c xs q)
  frzs:=fun c ob xs q=>b.frzs c ob xs (a.frzs c ob xs q)
  tbls:=fun c ps q=>by
    obtain ⟨m1,e1⟩:=a.tbls c ps q
    obtain ⟨m2,e2⟩:=b.tbls c _ e1
    exact ⟨m1 ++ m2,by rw [e2,Array.append_assoc]⟩
theorem Un.kept (k:∀ b u,h.get? b=some u->h'.get? b=some u):Un fs ex H H h h' :=
  ⟨fun b ob q _ _ _=>k b ob q,fun b ob q _ _ _=>⟨ob.slots,k b ob q⟩,fun _ _ _ n _=>n,fun b ob q _=>⟨ob,k b ob q⟩,fun _ _ q=>q,fun _ _ _ q=>q,fun _ ps q=>⟨#[],by rw [q];simp⟩⟩
theorem Un.refl:Un fs ex H H h h:=Un.kept fun _ _ q=>q
theorem Un.laid (k:∀ b u,h.get? b=some u->h'.get? b=some u) (hp:h.objs.size<=a) (hn:H a=none):Un fs ex H (upd H a o) h h' where
  keep:=fun b u q _ _ _=>k b u q
  slot:=fun b u q _ _ _=>⟨u.slots,k b u q⟩
  free:=fun b u q n _=>by rw [aG (za (zf (yT q) hp))];exact n
  there:=fun b u q _=>⟨u,k b u q⟩
  tups:=fun b xs q=>by rw [aG (bd q hn)];exact q
  frzs:=fun b u xs q=>by rw [aG (bd q hn)];exact q
  tbls:=fun b ps q=>⟨#[],by rw [aG (bd q hn),q];simp⟩
theorem Un.write (mu:Mut (H x)) (he:e=x\/H e=some (.own x)) (k:∀ b u,b ≠ e->h.get? b=some u->h'.get? b=some u) (heo:∃ u,h'.get? e=some u):Un fs ex H (upd H x o) h h':=by
  have hx:∀ b,H b=none->b ≠ x:=fun b n z=>by subst z;rw [n] at mu;exact mu
  have hb:∀ b,H b=none->b ≠ e:=fun b n z=>by
    subst z
    rcases he with r | r
    · exact hx b n r
    · rw [n] at r;cases r
  have hm:∀ b u,H b=some u->¬ Mut (some u)->b ≠ x:=fun b u q nm z=>by subst z;rw [q] at mu;exact nm mu
  refine ⟨fun b u q n _ _=>k b u (hb b n) q,fun b u q n _ _=>⟨u.slots,k b u (hb b n) q⟩,fun b u q n _=>by rw [aG (hx b n)];exact n,fun b u q _=>?_,
    fun b xs q=>by rw [aG (hm b _ q fun z=>z)];exact q,fun b u xs q=>by rw [aG (hm b _ q fun z=>z)];exact q,fun b ps q=>⟨#[],by rw [aG (hm b _ q fun z=>z),q];simp⟩⟩
  by_cases hbe:b=e
  · subst hbe;exact heo
  · exact ⟨u,k b u hbe q⟩
end
noncomputable def trk (h:Heap) (H:Hp):List Addr:=(List.range h.objs.size).filter fun a=>(H a).isSome
noncomputable def lS (h:Heap) (H:Hp):Heap:=PySem.W.hideAll h (trk h H)
theorem qZ (h:Heap) (H:Hp):(lS h H).objs.size=h.objs.size:=PySem.W.hideAll_size _ _
theorem tQ {h:Heap} {H:Hp} {b:Addr} {o:Obj} (e:h.get? b=some o) (n:H b=none):(lS h H).get? b=some o :=
  PySem.W.hideAll_get _ e fun hm=>by
    have q:(H b).isSome=true:=(zq.mp hm).2
    rw [n] at q;simp at q
theorem vz {h:Heap} {H:Hp} {b:Addr} {o:Obj} (e:(lS h H).get? b=some o):h.get? b=some o/\H b=none:=by
  have e':h.get? b=some o:=PySem.W.of_hideAll (trk h H) e
  refine ⟨e',?_⟩
  cases q:H b with
  | none=>rfl
  | some x =>
    have hm:b ∈ trk h H:=zq.mpr ⟨List.mem_range.mpr (yT e'),by simp [q]⟩
    have z:(lS h H).get? b=none:=PySem.W.hideAll_none (trk h H) hm
    rw [z] at e;cases e
noncomputable def wa (g h:Heap) (L:Addr):List (Addr × Obj):=(List.range h.objs.size).filterMap fun a=>if a=L\/(g.get? a).isSome=true then none else (h.get? a).map fun o=>(a,o)
noncomputable def cM (g h:Heap) (L d:Addr):List (Addr × Obj):=(wa g h L).filter fun p=>decide (p.1 ≠ d)
end L2
namespace L2
open PySem PySem.Spec PyProof.Rows
structure Mod (K:FG) (mg:Str->Option Value) (base:Heap):Prop where
  kin:K.In base
  glob:base.Ns mainGlobals mg
  blt:∃ mb,base.Ns builtinsNs mb/\∀ x:Str,x ≠ "__name__"->mb x=bootBuiltins x
  nolimit:base.NoLimit
structure Cx where
  prog:Program
  w:World
  K:FG
  mg:Str->Option Value
  base:Heap
  A:Around
  N:List Str
  s₀:Shared
  H₀:Hp
  env:Env
  outer:List Env
  stack:List Env
  ex:List Addr
  fn:Str->Bool
  calm:Bool
  pn:List (Addr × Obj)
  xe:Value->Shared->Prop
noncomputable def frs (l:List Env):List Addr:=l.filterMap (·.frame)
noncomputable abbrev Cx.fs (X:Cx):List Addr:=frs X.outer
noncomputable def Vis (sc:Scope) (x:Str):Prop:=sc.names.lookup x=some .local\/sc.names.lookup x=some .cell\/sc.names.lookup x=some .free
noncomputable def Loc (sc:Scope) (x:Str):Prop:=sc.names.lookup x=some .local\/sc.names.lookup x=some .cell
noncomputable def Look (env:Env) (h:Heap) (m:Str->Option Value) (x:Str) (u:Value):Prop :=
  (env.kindOf x=some .local/\m x=some u)\/((env.kindOf x=some .cell\/env.kindOf x=some .free)/\∃ c,env.cells.lookup x=some c/\h.IsCell c (some u))
structure Cx.Ok (X:Cx):Prop where
  mod:Mod X.K X.mg X.base
  kind:X.env.scope.kind=.function
  glob:X.env.globals=mainGlobals
  blt:X.env.builtins=builtinsNs
  above:X.s₀.heap.objs.size<=X.env.locals
  inj:∀ x y c,X.env.cells.lookup x=some c->X.env.cells.lookup y=some c->x=y
  has:∀ x,(X.env.kindOf x=some .cell\/X.env.kindOf x=some .free)->∃ c,X.env.cells.lookup x=some c
  cab:∀ x c,X.fn x=true->X.env.cells.lookup x=some c->X.s₀.heap.objs.size<=c
  hd:X.calm=true->X.A.handled=none
  frames:X.A.frames=some X.stack
  stk:X.stack=X.outer\/(X.stack=X.env :: X.outer/\X.env.frame=some X.env.locals)
  exf:∀ b ∈ X.ex,b ≠ X.env.locals/\∀ x c,X.env.cells.lookup x=some c->c ≠ b
  bs:∀ b o,X.base.get? b=some o->X.s₀.heap.get? b=some o/\X.H₀ b=none
  bsz:X.base.objs.size<=X.s₀.heap.objs.size
  noex:∀ b o,X.base.get? b=some o->b ∉ X.ex
  exfs:∀ b ∈ X.ex,b ∉ X.fs
  funs:X.s₀.heap.FunFrames X.base X.outer
  frf:∀ b ∈ X.fs,X.H₀ b=none
structure Inv (X:Cx) (pins:List (Addr × Obj)) (σ:List (Option V)) (H:Hp) (s:Shared):Prop where
  ok:X.Ok
  os:s.os=X.s₀.os
  bare:AllBare s.gens
  base:Un X.fs X.ex X.H₀ H X.s₀.heap s.heap
  loc:∃ m,s.heap.Ns X.env.locals m/\∀ (i:Nat) (x:Str) (v:V),X.N[i]?=some x->σ[i]?=some (some v)->Vis X.env.scope x->∃ u,RelV v u/\Look X.env s.heap m x u
  cell:∀ x c,X.env.cells.lookup x=some c->∃ v,s.heap.IsCell c v
  free:H X.env.locals=none
  freeC:∀ x c,X.env.cells.lookup x=some c->H c=none
  pin:∀ p ∈ X.pn ++ pins,s.heap.get? p.1=some p.2/\H p.1=none/\p.1 ≠ X.env.locals/\p.1 ∉ X.fs/\∀ v,p.2.data ≠ .cell v
  hok:HOk X.prog X.w H s.heap
  len:σ.length=X.N.length
section
variable {X:Cx} {pins:List (Addr × Obj)} {σ:List (Option V)} {H H':Hp} {s:Shared} {h':Heap}
theorem Cx.Ok.nofr (ok:X.Ok) {b:Addr} {o:Obj} (e:X.base.get? b=some o):b ∉ X.fs:=fun hb=>by
  have:=(ok.funs.mem hb).1
  rw [e] at this;cases this
theorem Inv.bs (I:Inv X pins σ H s):∀ b o,X.base.get? b=some o->s.heap.get? b=some o/\H b=none:=fun b o e =>
  ⟨I.base.keep b o (I.ok.bs b o e).1 (I.ok.bs b o e).2 (I.ok.nofr e) (I.ok.noex b o e),I.base.free b o (I.ok.bs b o e).1 (I.ok.bs b o e).2 (I.ok.noex b o e)⟩
theorem Inv.bk (I:Inv X pins σ H s):∀ b o,X.base.get? b=some o->s.heap.get? b=some o:=fun b o e=>(I.bs b o e).1
theorem Inv.mod (I:Inv X pins σ H s):Mod X.K X.mg X.base:=I.ok.mod
theorem Inv.kIn (I:Inv X pins σ H s):X.K.In s.heap:=I.ok.mod.kin.keeps I.bk
theorem Inv.lt (I:Inv X pins σ H s):X.env.locals < s.heap.objs.size:=let ⟨_,hn,_⟩:=I.loc;hn.lt
theorem Inv.sz (I:Inv X pins σ H s):X.s₀.heap.objs.size<=s.heap.objs.size:=zv I.ok.above (Nat.le_of_lt I.lt)
theorem Inv.nofs (I:Inv X pins σ H s) {a:Addr} (h:s.heap.objs.size<=a):a ∉ X.fs:=fun hb=>by
  obtain ⟨_,o,ho,_⟩:=I.ok.funs.mem hb
  exact absurd (zf (yT ho) (zv I.sz h)) (Nat.lt_irrefl _)
theorem Inv.cne (I:Inv X pins σ H s):∀ x c,X.env.cells.lookup x=some c->c ≠ X.env.locals:=fun x c e z=>by
  obtain ⟨v,o,ho,hd⟩:=I.cell x c e
  obtain ⟨m,⟨o',es,ep,ho',hd',_⟩,_⟩:=I.loc
  rw [z,ho'] at ho;cases ho;rw [hd'] at hd;cases hd
theorem Inv.funs (I:Inv X pins σ H s):s.heap.FunFrames X.base X.outer:=by
  have all:∀ (l:List Env),(∀ b ∈ frs l,b ∈ X.fs)->X.s₀.heap.FunFrames X.base l->s.heap.FunFrames X.base l:=by
    intro l
    induction l with
    | nil=>intro _ _;trivial
    | cons env r ih =>
      intro hs hl
      obtain ⟨hk,⟨L,o,hf,hn,ho,hd⟩,hr⟩:=hl
      have hL:L ∈ X.fs:=hs L (by unfold frs;rw [List.filterMap_cons,hf];exact yK)
      obtain ⟨sl,e⟩:=I.base.slot L o ho (I.ok.frf L hL) hL fun z=>I.ok.exfs L z hL
      exact ⟨hk,⟨L,_,hf,hn,e,hd⟩,ih (fun b hb=>hs b (by unfold frs;rw [List.filterMap_cons,hf];exact yM _ hb)) hr⟩
  exact all X.outer (fun _ hb=>hb) I.ok.funs
theorem Inv.stack (I:Inv X pins σ H s):s.heap.FunFrames X.base X.stack:=by
  rcases I.ok.stk with e | ⟨e,hf⟩
  · rw [e];exact I.funs
  · rw [e]
    obtain ⟨m,hn,_⟩:=I.loc
    refine .cons (by rw [I.ok.kind];decide) hf hn ?_ I.funs
    exact Heap.get?_none_of_le (zv I.ok.bsz I.ok.above)
theorem Inv.stkSub (I:Inv X pins σ H s):∀ b ∈ frs X.stack,b ∈ X.env.locals :: X.fs:=fun b hb=>by
  rcases I.ok.stk with e | ⟨e,hf⟩
  · rw [e] at hb;exact yM _ hb
  · rw [e] at hb
    unfold frs at hb
    rw [List.filterMap_cons,hf] at hb
    exact hb
theorem Inv.stkFree (I:Inv X pins σ H s):∀ b ∈ frs X.stack,H b=none:=fun b hb=>by
  rcases yR.mp (I.stkSub b hb) with e | hb
  · rw [e];exact I.free
  · obtain ⟨_,o,ho,_⟩:=I.ok.funs.mem hb
    exact I.base.free b o ho (I.ok.frf b hb) fun z=>I.ok.exfs b z hb
theorem Inv.step {g':Array GenState} {t':Nat} {d':Drawn} {ch:List Addr} (I:Inv X pins σ H s)
    (hch:∀ b ∈ ch,(b ∈ X.ex\/X.s₀.heap.objs.size<=b)/\b ≠ X.env.locals/\(∀ x c,X.env.cells.lookup x=some c->c ≠ b)/\∀ p ∈ X.pn ++ pins,p.1 ≠ b)
    (keep:∀ b o,b ≠ X.env.locals->b ∉ X.fs->b ∉ ch->s.heap.get? b=some o->H b=none->h'.get? b=some o)
    (slot:∀ b o,b ≠ X.env.locals->b ∈ X.fs->b ∉ ch->s.heap.get? b=some o->H b=none->∃ sl,h'.get? b=some { o with slots:=sl }) (free:∀ b o,b ∉ ch->s.heap.get? b=some o->H b=none->H' b=none)
    (there:∀ b o,b ∉ ch->s.heap.get? b=some o->∃ o',h'.get? b=some o')
    (tups:∀ b xs,H b=some (.tup xs)->H' b=some (.tup xs)) (frzs:∀ b o u,H b=some (.frz o u)->H' b=some (.frz o u)) (tbls:∀ b ps,H b=some (.tbl ps)->∃ more,H' b=some (.tbl (ps ++ more)))
    (ns:∀ m,s.heap.Ns X.env.locals m->h'.Ns X.env.locals m) (hok:HOk X.prog X.w H' h') (hg:AllBare g') :
    Inv X pins σ H' { s with heap:=h',gens:=g',drawn:=d',toks:=t' }:=by
  have neL:∀ b o,X.s₀.heap.get? b=some o->b ≠ X.env.locals:=fun b o e=>za (zf (yT e) I.ok.above)
  have neC:∀ b o,X.s₀.heap.get? b=some o->b ∉ X.ex->b ∉ ch:=fun b o e hx hb=>by
    rcases (hch b hb).1 with z | z
    · exact hx z
    · exact absurd (zf (yT e) z) (Nat.lt_irrefl _)
  have cellK:∀ x c,X.env.cells.lookup x=some c->∀ v,s.heap.IsCell c v->h'.IsCell c v:=fun x c e v ⟨o,ho,hd⟩=>by
    have nch:c ∉ ch:=fun z=>(hch c z).2.2.1 x c e rfl
    by_cases hc:c ∈ X.fs
    · obtain ⟨sl,q⟩:=slot c o (I.cne x c e) hc nch ho (I.freeC x c e)
      exact ⟨_,q,hd⟩
    · exact ⟨o,keep c o (I.cne x c e) hc nch ho (I.freeC x c e),hd⟩
  refine ⟨I.ok,I.os,hg,⟨fun b o e n hb hx=>?_,fun b o e n hb hx=>?_,fun b o e n hx=>?_,fun b o e hx=>?_,fun b xs e=>tups b xs (I.base.tups b xs e),fun b o xs e=>frzs b o xs (I.base.frzs b o xs e),fun b ps e=>?_⟩,?_,fun x c e=>?_,?_,fun x c e=>?_,fun p hp=>?_,hok,I.len⟩
  · exact keep b o (neL b o e) hb (neC b o e hx) (I.base.keep b o e n hb hx) (I.base.free b o e n hx)
  · obtain ⟨sl,e1⟩:=I.base.slot b o e n hb hx
    obtain ⟨sl',e2⟩:=slot b _ (neL b o e) hb (neC b o e hx) e1 (I.base.free b o e n hx)
    exact ⟨sl',e2⟩
  · obtain ⟨o',e1⟩:=I.base.there b o e hx
    exact free b o' (neC b o e hx) e1 (I.base.free b o e n hx)
  · obtain ⟨o',e1⟩:=I.base.there b o e hx
    exact there b o' (neC b o e hx) e1
  · obtain ⟨m1,e1⟩:=I.base.tbls b ps e
    obtain ⟨m2,e2⟩:=tbls b _ e1
    exact ⟨m1 ++ m2,by rw [e2,Array.append_assoc]⟩
  · obtain ⟨m,hn,hl⟩:=I.loc
    refine ⟨m,ns m hn,fun i x v e1 e2 e3=>?_⟩
    obtain ⟨u,r,l⟩:=hl i x v e1 e2 e3
    refine ⟨u,r,?_⟩
    rcases l with l | ⟨k,c,e,z⟩
    · exact .inl l
    · exact .inr ⟨k,c,e,cellK x c e _ z⟩
  · obtain ⟨v,z⟩:=I.cell x c e
    exact ⟨v,cellK x c e v z⟩
  · obtain ⟨m,⟨o,_,_,ho,_⟩,_⟩:=I.loc
    exact free _ o (fun z=>(hch _ z).2.1 rfl) ho I.free
  · obtain ⟨v,o,ho,hd⟩:=I.cell x c e
    exact free c o (fun z=>(hch c z).2.2.1 x c e rfl) ho (I.freeC x c e)
  · obtain ⟨e,n,ne,nf,d⟩:=I.pin p hp
    have nch:p.1 ∉ ch:=fun z=>(hch p.1 z).2.2.2 p hp rfl
    exact ⟨keep p.1 p.2 ne nf nch e n,free p.1 p.2 nch e n,ne,nf,d⟩
theorem Inv.un {t':Nat} (I:Inv X pins σ H s) (u:Un X.fs [] H H' s.heap h') (hok:HOk X.prog X.w H' h'):Inv X pins σ H' { s with heap:=h',toks:=t' }:=by
  obtain ⟨m,⟨o,es,ep,ho,r⟩,_⟩:=id I.loc
  obtain ⟨sl,hL⟩:=u.any ho I.free (by simp)
  exact I.step (g':=s.gens) (d':=s.drawn) (ch:=[]) (fun _ z=>nomatch z) (fun b o _ hb _ e n=>u.keep b o e n hb (by simp)) (fun b o _ hb _ e n=>u.slot b o e n hb (by simp)) (fun b o _ e n=>u.free b o e n (by simp)) (fun b o _ e=>u.there b o e (by simp)) u.tups u.frzs u.tbls (fun m' hm=>by
    obtain ⟨o',es',ep',ho',r'⟩:=hm
    rw [ho] at ho';cases ho'
    exact ⟨_,es',ep',hL,r'⟩) hok I.bare
theorem Inv.call {g':Array GenState} {t':Nat} {d':Drawn} {ch:List Addr} (I:Inv X pins σ H s) (u:Un (frs X.stack) ch H H' s.heap h') (hok:HOk X.prog X.w H' h') (hg:AllBare g')
    (hch:∀ b ∈ ch,(b ∈ X.ex\/X.s₀.heap.objs.size<=b)/\b ≠ X.env.locals/\(∀ x c,X.env.cells.lookup x=some c->c ≠ b)/\∀ p ∈ X.pn ++ pins,p.1 ≠ b) :
    Inv X pins σ H' { s with heap:=h',gens:=g',drawn:=d',toks:=t' }:=by
  obtain ⟨m,⟨o,es,ep,ho,r⟩,_⟩:=id I.loc
  obtain ⟨sl,hL⟩:=u.any ho I.free fun z=>(hch _ z).2.1 rfl
  exact I.step (ch:=ch) hch (fun b o hL hb hc e n=>u.keep b o e n (fun z=>(yR.mp (I.stkSub b z)).elim hL hb) hc) (fun b o _ _ hc e n=>u.any e n hc) (fun b o hc e n=>u.free b o e n hc) (fun b o hc e=>u.there b o e hc) u.tups u.frzs u.tbls (fun m' hm=>by
    obtain ⟨o',es',ep',ho',r'⟩:=hm
    rw [ho] at ho';cases ho'
    exact ⟨_,es',ep',hL,r'⟩) hok hg
theorem Inv.turned {t':Nat} {it:Addr} (I:Inv X pins σ H s) (k:∀ b o,b ≠ it->s.heap.get? b=some o->h'.get? b=some o) (hn:H it=none) (hL:it ≠ X.env.locals)
    (h1:it ∈ X.ex\/X.s₀.heap.objs.size<=it) (h2:∀ x c,X.env.cells.lookup x=some c->c ≠ it) (h3:∀ p ∈ X.pn ++ pins,p.1 ≠ it):Inv X pins σ H { s with heap:=h',toks:=t' }:=by
  have nit:∀ b u,H b=some u->b ≠ it:=fun b u e z=>by rw [z,hn] at e;cases e
  refine I.step (g':=s.gens) (d':=s.drawn) (ch:=[it]) (fun b hb=>?_) (fun b o _ _ hc e _=>k b o (fun z=>hc (by simp [z])) e) (fun b o _ _ hc e _=>⟨o.slots,k b o (fun z=>hc (by simp [z])) e⟩) (fun _ _ _ _ n=>n)
    (fun b o hc e=>⟨o,k b o (fun z=>hc (by simp [z])) e⟩) (fun _ _ e=>e) (fun _ _ _ e=>e) (fun b ps e=>⟨#[],by rw [e];simp⟩) (fun m hm=>?_) (fun b u e=>?_) I.bare
  · have e:b=it:=by simpa using hb
    subst e
    exact ⟨h1,hL,h2,h3⟩
  · obtain ⟨o,es,ep,ho,r⟩:=hm
    exact ⟨o,es,ep,k _ o (Ne.symm hL) ho,r⟩
  · refine (I.hok b u e).stay (fun c v hc q=>k c v ?_ q) (fun _ q=>q) fun _ _ q=>q
    rcases hc with z | z
    · rw [z];exact nit b u e
    · exact nit c _ z
theorem Inv.tok (I:Inv X pins σ H s) (t:Nat):Inv X pins σ H { s with toks:=t }:=I.un (h':=s.heap) (t':=t) Un.refl I.hok
theorem Inv.kept {t':Nat} (I:Inv X pins σ H s) (k:∀ b u,s.heap.get? b=some u->h'.get? b=some u):Inv X pins σ H { s with heap:=h',toks:=t' }:=I.un (Un.kept k) (I.hok.kept k)
theorem Inv.laid {a:Addr} {o:HO} {t':Nat} (I:Inv X pins σ H s) (k:∀ b u,s.heap.get? b=some u->h'.get? b=some u) (hp:s.heap.objs.size<=a) (new:ObjOk X.prog X.w (upd H a o) h' a o) :
    Inv X pins σ (upd H a o) { s with heap:=h',toks:=t' }:=I.un (Un.laid k hp (I.hok.fresh hp)) (I.hok.laid k hp new)
theorem Inv.write {x e:Addr} {o:HO} {t':Nat} (I:Inv X pins σ H s) (mu:Mut (H x)) (he:e=x\/H e=some (.own x)) (k:∀ b u,b ≠ e->s.heap.get? b=some u->h'.get? b=some u) (heo:∃ u,h'.get? e=some u)
    (new:ObjOk X.prog X.w (upd H x o) h' x o):Inv X pins σ (upd H x o) { s with heap:=h',toks:=t' }:=I.un (Un.write mu he k heo) (I.hok.write mu he k heo new)
theorem Inv.pins_of {pins':List (Addr × Obj)} (I:Inv X pins σ H s) (h:∀ p ∈ pins',s.heap.get? p.1=some p.2/\H p.1=none/\p.1 ≠ X.env.locals/\p.1 ∉ X.fs/\∀ v,p.2.data ≠ .cell v):Inv X pins' σ H s :=
  ⟨I.ok,I.os,I.bare,I.base,I.loc,I.cell,I.free,I.freeC,fun p hp=>(yU.mp hp).elim (fun z=>I.pin p (yP _ z)) (h p),I.hok,I.len⟩
theorem mP {N:List Str} (hN:N.Nodup) {i j:Nat} {x:Str} (a:N[i]?=some x) (b:N[j]?=some x):i=j:=by
  obtain ⟨h1,e1⟩:=yX.mp a
  obtain ⟨h2,e2⟩:=yX.mp b
  exact (List.getElem_inj hN).mp (e1.trans e2.symm)
theorem kN {M:Model} {A:Around} {E:Value->Shared->Prop} {i:Nat} {x:Str} {v:V} {u:Value} {Q:Unit->Shared->Prop} (I:Inv X pins σ H s) (hN:X.N.Nodup) (hi:X.N[i]?=some x) (hx:Loc X.env.scope x) (r:RelV v u)
    (h:∀ s',Inv X pins (σ.set i (some v)) H s'->(∃ a,Heap.SameBut a s.heap s'.heap/\(a=X.env.locals\/X.env.cells.lookup x=some a))->Q () s') (hf:X.fn x=true\/X.env.scope.names.lookup x=some .local:=by first | exact .inl rfl | exact .inr rfl | assumption):wpAny M A (storeName X.env x u) Q E s:=by
  obtain ⟨m,hn,hl⟩:=id I.loc
  have hcls:(X.env.scope.kind == .class || (X.env.scope.kind == .module && X.env.locals != X.env.globals))=false:=by rw [I.ok.kind];rfl
  have hiσ:i < σ.length:=by rw [I.len];exact (yX.mp hi).1
  have cne:=I.cne
  have tracked:∀ {a:Addr} {h':Heap},(∃ o,s.heap.get? a=some o/\H a=none)->Heap.SameBut a s.heap h'->HOk X.prog X.w H h':=fun {a h'} ha hs b ob e=>by
    obtain ⟨_,_,hfree⟩:=ha
    refine (I.hok b ob e).stay (fun c w' hc q=>(hs.2 c ?_).trans q) (fun _ q=>q) fun _ _ q=>q
    rintro rfl
    rcases hc with rfl | hc
    · rw [hfree] at e;cases e
    · rw [hfree] at hc;cases hc
  rcases hx with hk | hk
  · refine wpAny_storeName_local hk hn (fun h' hn' hs=>?_) hcls
    obtain ⟨oL,_,_,hoL,_⟩:=id hn
    refine h _ ⟨I.ok,I.os,I.bare,⟨fun b o e n hb hx=>?_,fun b o e n hb hx=>?_,I.base.free,fun b o e hx=>?_,I.base.tups,I.base.frzs,I.base.tbls⟩,⟨_,hn',fun j y v' e1 e2 e3=>?_⟩,fun y c e=>?_,I.free,I.freeC,fun p hp=>?_,tracked ⟨oL,hoL,I.free⟩ hs,by simpa using I.len⟩ ⟨_,hs,.inl rfl⟩
    · exact (hs.2 b (za (zf (yT e) I.ok.above))).trans (I.base.keep b o e n hb hx)
    · obtain ⟨sl,e1⟩:=I.base.slot b o e n hb hx
      exact ⟨sl,(hs.2 b (za (zf (yT e) I.ok.above))).trans e1⟩
    · obtain ⟨o',e1⟩:=I.base.there b o e hx
      exact ⟨o',(hs.2 b (za (zf (yT e) I.ok.above))).trans e1⟩
    · by_cases hj:j=i
      · subst hj
        rw [hi] at e1;cases e1
        rw [List.getElem?_set_self hiσ] at e2
        cases e2
        exact ⟨u,r,.inl ⟨hk,by simp⟩⟩
      · rw [List.getElem?_set_ne (Ne.symm hj)] at e2
        obtain ⟨u',r',q⟩:=hl j y v' e1 e2 e3
        refine ⟨u',r',?_⟩
        rcases q with ⟨k,e⟩ | ⟨k,c,e,z⟩
        · refine .inl ⟨k,?_⟩
          have:y ≠ x:=fun e=>hj (mP hN e1 (e ▸ hi))
          simp [this,e]
        · exact .inr ⟨k,c,e,z.sameBut hs (cne y c e)⟩
    · obtain ⟨w',z⟩:=I.cell y c e
      exact ⟨w',z.sameBut hs (cne y c e)⟩
    · obtain ⟨e,n,ne,nf,d⟩:=I.pin p hp
      exact ⟨(hs.2 p.1 ne).trans e,n,ne,nf,d⟩
  · have hfn:X.fn x=true:=by
      rcases hf with z | z
      · exact z
      · rw [z] at hk;cases hk
    obtain ⟨c,hc⟩:=I.ok.has x (.inl hk)
    obtain ⟨w',z⟩:=I.cell x c hc
    refine wpAny_storeName_cell I.ok.kind hk hc z (fun h' hc' hs=>?_)
    obtain ⟨oc,hoc,hocd⟩:=id z
    refine h { s with heap:=h' } ⟨I.ok,I.os,I.bare,⟨fun b o e n hb hx=>?_,fun b o e n hb hx=>?_,I.base.free,fun b o e hx=>?_,I.base.tups,I.base.frzs,I.base.tbls⟩,⟨m,hn.sameBut hs (Ne.symm (cne x c hc)),fun j y v' e1 e2 e3=>?_⟩,fun y c' e=>?_,I.free,I.freeC,fun p hp=>?_,tracked ⟨oc,hoc,I.freeC x c hc⟩ hs,by simpa using I.len⟩ ⟨c,hs,.inr hc⟩
    · exact (hs.2 b (za (zf (yT e) (I.ok.cab x c hfn hc)))).trans (I.base.keep b o e n hb hx)
    · obtain ⟨sl,e1⟩:=I.base.slot b o e n hb hx
      exact ⟨sl,(hs.2 b (za (zf (yT e) (I.ok.cab x c hfn hc)))).trans e1⟩
    · obtain ⟨o',e1⟩:=I.base.there b o e hx
      exact ⟨o',(hs.2 b (za (zf (yT e) (I.ok.cab x c hfn hc)))).trans e1⟩
    · by_cases hj:j=i
      · subst hj
        rw [hi] at e1;cases e1
        rw [List.getElem?_set_self hiσ] at e2
        cases e2
        exact ⟨u,r,.inr ⟨.inl hk,c,hc,hc'⟩⟩
      · rw [List.getElem?_set_ne (Ne.symm hj)] at e2
        obtain ⟨u',r',q⟩:=hl j y v' e1 e2 e3
        refine ⟨u',r',?_⟩
        rcases q with q | ⟨k,c',e,z'⟩
        · exact .inl q
        · refine .inr ⟨k,c',e,z'.sameBut hs ?_⟩
          rintro rfl
          exact hj (mP hN e1 (I.ok.inj _ _ _ e hc ▸ hi))
    · by_cases hcc:c'=c
      · subst hcc;exact ⟨_,hc'⟩
      · obtain ⟨w2,z2⟩:=I.cell y c' e
        exact ⟨w2,z2.sameBut hs hcc⟩
    · obtain ⟨e,n,ne,nf,d⟩:=I.pin p hp
      refine ⟨(hs.2 p.1 ?_).trans e,n,ne,nf,d⟩
      intro q
      rw [q,hoc] at e
      have q':oc=p.2:=zx e
      exact d w' (by rw [<- q'];exact hocd)
theorem mm {M:Model} {A:Around} {E:Value->Shared->Prop} {i:Nat} {x:Str} {v:V} {u:Value} {Q:Unit->Shared->Prop} (I:Inv X pins σ H s) (hN:X.N.Nodup) (hi:X.N[i]?=some x) (hx:Loc X.env.scope x) (r:RelV v u)
    (h:∀ s',Inv X pins (σ.set i (some v)) H s'->Q () s') (hf:X.fn x=true\/X.env.scope.names.lookup x=some .local:=by first | exact .inl rfl | exact .inr rfl | assumption):wpAny M A (storeName X.env x u) Q E s :=
  kN I hN hi hx r (fun s' I' _=>h s' I') hf
theorem Inv.call' {s':Shared} {ch:List Addr} (I:Inv X pins σ H s) (ho:s'.os=s.os) (u:Un (frs X.stack) ch H H' s.heap s'.heap) (hok:HOk X.prog X.w H' s'.heap) (hg:AllBare s'.gens)
    (hch:∀ b ∈ ch,(b ∈ X.ex\/X.s₀.heap.objs.size<=b)/\b ≠ X.env.locals/\(∀ x c,X.env.cells.lookup x=some c->c ≠ b)/\∀ p ∈ X.pn ++ pins,p.1 ≠ b):Inv X pins σ H' s':=by
  obtain ⟨h',g',d',t',o'⟩:=s'
  have e:o'=s.os:=ho
  subst e
  exact I.call (g':=g') (t':=t') (d':=d') u hok hg hch
end
noncomputable abbrev XK:=Value->Option Addr->Hp->Prop
noncomputable abbrev St:=List (Option V)
noncomputable abbrev VK:=V->Hp->Prop
noncomputable abbrev TE:=St->Hp->VK->Prop
noncomputable abbrev TT:=St->Hp->(Bool->Hp->Prop)->Prop
noncomputable abbrev TA:=St->Hp->(List V->Hp->Prop)->Prop
structure Ends where
  nx:St->Hp->Prop
  rt:VK
  bk:St->Hp->Prop:=fun _ _=>False
  ct:St->Hp->Prop:=fun _ _=>False
noncomputable abbrev TS:=Ends->St->Hp->Prop
noncomputable def EP (X:Cx) (pins:List (Addr × Obj)) (σ:St) (Q:VK) (u:Value) (s':Shared):Prop:=∃ v H',Inv X pins σ H' s'/\RelV v u/\Q v H'
noncomputable def TP (X:Cx) (pins:List (Addr × Obj)) (σ:St) (Q:Bool->Hp->Prop) (b:Bool) (s':Shared):Prop:=∃ H',Inv X pins σ H' s'/\Q b H'
noncomputable def AP (X:Cx) (pins:List (Addr × Obj)) (σ:St) (Q:List V->Hp->Prop) (us:List Value) (s':Shared):Prop:=∃ vs H',Inv X pins σ H' s'/\Vals vs us/\Q vs H'
set_option tactic.hygienic true in
noncomputable def SP (X:Cx) (pins:List (Addr × Obj)) (D:Ends) (f:Flow) (s':Shared):Prop :=
  match f with
  | .next=>∃ σ' H',Inv X pins σ' H' s'/\D.nx σ' H'
  | .brk=>∃ σ' H',Inv X pins σ' H' s'/\D.bk σ' H'
  | .cont=>∃ σ' H',Inv X pins σ' H' s'/\D.ct σ' H'
  | .ret u=>∃ v σ' H',Inv X pins σ' H' s'/\RelV v u/\D.rt v H'
noncomputable def PE (X:Cx) (e:Expr) (t:TE):Prop :=
  ∀ (pins:List (Addr × Obj)) (s:Shared) (σ:St) (H:Hp) (Q:VK),Inv X pins σ H s->t σ H Q->wpAny (model X.prog X.w) X.A (eval e X.env) (EP X pins σ Q) X.xe s
noncomputable def PT (X:Cx) (e:Expr) (t:TT):Prop :=
  ∀ (pins:List (Addr × Obj)) (s:Shared) (σ:St) (H:Hp) (Q:Bool->Hp->Prop),Inv X pins σ H s->t σ H Q->wpAny (model X.prog X.w) X.A (isTrue e X.env (eval e X.env)) (TP X pins σ Q) X.xe s
noncomputable def PW (X:Cx) (e:Expr) (t:TT):Prop :=
  ∀ (whole:Sem Value) (pins:List (Addr × Obj)) (s:Shared) (σ:St) (H:Hp) (Q:Bool->Hp->Prop),Inv X pins σ H s->t σ H Q->wpAny (model X.prog X.w) X.A (isTrue e X.env whole) (TP X pins σ Q) X.xe s
theorem PW.pt {X:Cx} {e:Expr} {t:TT} (h:PW X e t):PT X e t:=h _
noncomputable def PA (X:Cx) (es:List Expr) (t:TA):Prop :=
  ∀ (pos:Pos) (pins:List (Addr × Obj)) (s:Shared) (σ:St) (H:Hp) (Q:List V->Hp->Prop),Inv X pins σ H s->t σ H Q->wpAny (model X.prog X.w) X.A (spliced (backTo pos (starEach es X.env))) (AP X pins σ Q) X.xe s
noncomputable def PS (X:Cx) (st:Stmt) (t:TS):Prop :=
  ∀ (pins:List (Addr × Obj)) (s:Shared) (σ:St) (H:Hp) (D:Ends),Inv X pins σ H s->t D σ H->wpAny (model X.prog X.w) X.A (exec st X.env) (SP X pins D) X.xe s
noncomputable def PSs (X:Cx) (st:List Stmt) (t:TS):Prop :=
  ∀ (pins:List (Addr × Obj)) (s:Shared) (σ:St) (H:Hp) (D:Ends),Inv X pins σ H s->t D σ H->wpAny (model X.prog X.w) X.A (execs st X.env) (SP X pins D) X.xe s
theorem thn {α:Type} {t:Sem α} {Q Q':α->Shared->Prop} {M:Model} {A:Around} {E:Value->Shared->Prop} {s:Shared} (h:wpAny M A t Q E s) (hQ:∀ a s,Q a s->Q' a s):wpAny M A t Q' E s:=wpAny_mono h hQ fun _ _ x=>x
end L2
namespace L2
open PySem PySem.Spec PyProof.Rows
section
variable {X:Cx}
theorem bin {a b:Expr} {ta tb:TE} (ha:PE X a ta) (hb:PE X b tb) {pins:List (Addr × Obj)} {s:Shared} {σ:St} {H:Hp} {R:V->V->Hp->Prop} (I:Inv X pins σ H s) (h:ta σ H fun x H1=>tb σ H1 fun y H2=>R x y H2)
    {α:Type} {Q:α->Shared->Prop} {f:Value->Value->Sem α}
    (hf:∀ v u s2 x y H2,Inv X pins σ H2 s2->RelV x v->RelV y u->R x y H2->wpAny (model X.prog X.w) X.A (f v u) Q X.xe s2) :
    wpAny (model X.prog X.w) X.A (eval a X.env) (fun v s₁=>wpAny (model X.prog X.w) X.A (eval b X.env) (fun u s₂=>wpAny (model X.prog X.w) X.A (f v u) Q X.xe s₂) X.xe s₁) X.xe s:=by
  refine thn (ha pins s σ H _ I h) fun v s1 ⟨x,H1,I1,r1,q1⟩=>?_
  refine thn (hb pins s1 σ H1 _ I1 q1) fun u s2 ⟨y,H2,I2,r2,q2⟩=>?_
  exact hf v u s2 x y H2 I2 r1 r2 q2
noncomputable def ml (i:Nat):TE:=fun σ H Q=>∃ v,σ[i]?=some (some v)/\Q v H
noncomputable def tC (v:V):TE:=fun _ H Q=>Q v H
theorem eX {i:Nat} {x:Str} {pos:Pos} (hN:X.N[i]?=some x) (hv:Vis X.env.scope x) (hd:(x == ("__debug__":Str))=false:=by decide) (hcd:(x == ("__classdict__":Str))=false:=by decide):PE X (.Name x pos) (ml i):=by
  intro pins s σ H Q I h
  obtain ⟨v,e,h⟩:=h
  obtain ⟨m,hn,hl⟩:=I.loc
  obtain ⟨u,r,l⟩:=hl i x v hN e hv
  have fin:EP X pins σ Q u s:=⟨v,H,I,r,h⟩
  rcases l with ⟨hk,hm⟩ | ⟨hk,c,hc,hcell⟩
  · exact wpAny_Name (wpAny_loadName_local I.ok.kind hk hn hm fin) hd
  · rcases hk with hk | hk
    · exact wpAny_Name (wpAny_loadName_cell I.ok.kind hk hc hcell fin) hd
    · exact wpAny_Name (wpAny_loadName_free I.ok.kind hk hc hcell fin hcd) hd
theorem xH {i j pos}:PE X (.Constant (.int i) j pos) (tC (.int i)):=fun _ _ _ H _ I h=>wpAny_Constant_int ⟨.int i,H,I.tok _,⟨_,rfl⟩,h⟩
theorem pe_bl {b j pos}:PE X (.Constant (.bool b) j pos) (tC (.bl b)):=fun _ _ _ H _ I h=>Constant_bool ⟨.bl b,H,I,rfl,h⟩
theorem xF {j pos}:PE X (.Constant .none j pos) (tC .non):=fun _ _ _ H _ I h=>Constant_none ⟨.non,H,I,rfl,h⟩
noncomputable def Gl (X:Cx) (x:Str):Prop:=X.env.kindOf x=some .globalImplicit
theorem pP {E:Value->Shared->Prop} {pins:List (Addr × Obj)} {s:Shared} {σ:St} {H:Hp} {x:Str} {u:Value} {pos:Pos} {Q:Value->Shared->Prop} (I:Inv X pins σ H s) (hg:Gl X x) (hm:X.mg x=some u) (h:Q u s)
    (hd:(x == ("__debug__":Str))=false:=by decide):wpAny (model X.prog X.w) X.A (eval (.Name x pos) X.env) Q E s :=
  Calls.Name_function_global I.ok.kind hg (Calls.loadGlobal_global (by rw [I.ok.glob];exact I.mod.glob.keeps I.bk) hm h) hd
theorem gI {E:Value->Shared->Prop} {pins:List (Addr × Obj)} {s:Shared} {σ:St} {H:Hp} {x:Str} {u:Value} {pos:Pos} {Q:Value->Shared->Prop} (I:Inv X pins σ H s) (hg:Gl X x) (hm:X.mg x=none) (hv:bootBuiltins x=some u) (h:Q u s)
    (hn:x ≠ "__name__":=by decide) (hd:(x == ("__debug__":Str))=false:=by decide):wpAny (model X.prog X.w) X.A (eval (.Name x pos) X.env) Q E s:=by
  obtain ⟨mb,h1,h2⟩:=I.mod.blt
  exact Calls.Name_function_global I.ok.kind hg (Calls.loadGlobal_builtin (by rw [I.ok.glob];exact I.mod.glob.keeps I.bk) hm (by rw [I.ok.blt];exact h1.keeps I.bk) ((h2 x hn).trans hv) h) hd
theorem vv {x:Str} {v:V} {u:Value} {pos:Pos} (hg:Gl X x) (hm:X.mg x=some u) (r:RelV v u) (hd:(x == ("__debug__":Str))=false:=by decide):PE X (.Name x pos) (tC v) :=
  fun _ _ _ H _ I h=>pP I hg hm ⟨v,H,I,r,h⟩ hd
theorem dW {x:Str} {v:V} {u:Value} {pos:Pos} (hg:Gl X x) (hm:X.mg x=none) (hv:bootBuiltins x=some u) (r:RelV v u) (hn:x ≠ "__name__":=by decide) (hd:(x == ("__debug__":Str))=false:=by decide):PE X (.Name x pos) (tC v) :=
  fun _ _ _ H _ I h=>gI I hg hm hv ⟨v,H,I,r,h⟩ hn hd
variable {a b:Expr} {ta tb:TE} {pos:Pos}
noncomputable def PC (X:Cx) (op:CmpOp) (a b:Expr) (t:TE):Prop :=
  ∀ (pins:List (Addr × Obj)) (s:Shared) (σ:St) (H:Hp) (Q:VK),Inv X pins σ H s->t σ H Q ->
    wpAny (model X.prog X.w) X.A (eval a X.env) (fun v s₁=>wpAny (model X.prog X.w) X.A (eval b X.env) (fun u s₂=>wpAny (model X.prog X.w) X.A (compareOp op v u) (EP X pins σ Q) X.xe s₂) X.xe s₁) X.xe s
noncomputable def tB (t:TE):TT:=fun σ H Q=>t σ H fun x H1=>∃ c,x=.bl c/\Q c H1
theorem xu {e:Expr} {t:TE} (h:PE X e t) (he:∀ whole,isTrue e X.env whole=(do let v <- whole;standAt e.pos;holding [v] (truthy v)):=by intro _;rfl):PT X e (tB t):=by
  intro pins s σ H Q I hw
  refine isTrue_plain (thn (h pins s σ H _ I hw) fun v s1 ⟨x,H1,I1,r1,q1⟩=>?_) (he _)
  obtain ⟨d,rfl,q⟩:=q1
  cases r1
  exact zu ⟨H1,I1,q⟩
variable {tA tB':TT} {cM:List Expr}
noncomputable def tAnd (t u:TT):TT:=fun σ H Q=>t σ H fun c H1=>if c=true then u σ H1 Q else Q false H1
noncomputable def tOr (t u:TT):TT:=fun σ H Q=>t σ H fun c H1=>if c=true then Q true H1 else u σ H1 Q
noncomputable def tNot (t:TT):TT:=fun σ H Q=>t σ H fun c H1=>Q (!c) H1
theorem vf (ha:PT X a tA):PW X (.BoolOp .And [a] pos) tA:=by
  intro wh pins s σ H Q I h
  refine isTrue_and (thn (ha pins s σ H Q I h) fun c s1 e=>?_)
  cases c with
  | true=>exact isTrue_and_nil e
  | false=>exact e
theorem xr (ha:PT X a tA):PW X (.BoolOp .Or [a] pos) tA:=by
  intro wh pins s σ H Q I h
  refine isTrue_or (thn (ha pins s σ H Q I h) fun c s1 e=>?_)
  cases c with
  | false=>exact isTrue_or_nil e
  | true=>exact e
theorem xt (ha:PT X a tA) (hb:PW X (.BoolOp .And (b :: cM) pos) tB'):PW X (.BoolOp .And (a :: b :: cM) pos) (tAnd tA tB'):=by
  intro wh pins s σ H Q I h
  refine isTrue_and (thn (ha pins s σ H _ I h) fun c s1 ⟨H1,I1,q1⟩=>?_)
  cases c with
  | true=>exact hb wh pins s1 σ H1 Q I1 q1
  | false=>exact ⟨H1,I1,q1⟩
theorem pw_or (ha:PT X a tA) (hb:PW X (.BoolOp .Or (b :: cM) pos) tB'):PW X (.BoolOp .Or (a :: b :: cM) pos) (tOr tA tB'):=by
  intro wh pins s σ H Q I h
  refine isTrue_or (thn (ha pins s σ H _ I h) fun c s1 ⟨H1,I1,q1⟩=>?_)
  cases c with
  | true=>exact ⟨H1,I1,q1⟩
  | false=>exact hb wh pins s1 σ H1 Q I1 q1
theorem xv (ha:PT X a tA):PT X (.UnaryOp .Not a pos) (tNot tA):=by
  intro pins s σ H Q I h
  exact isTrue_not (ha pins s σ H (fun c H1=>Q (!c) H1) I h)
noncomputable def wo (ta tb:TE):TE:=fun σ H Q=>ta σ H fun x H1=>∃ c,x=.bl c/\if c=true then tb σ H1 Q else Q (.bl false) H1
noncomputable def we (ta:TE):TE:=fun σ H Q=>ta σ H fun x H1=>∃ c,x=.bl c/\Q (.bl (!c)) H1
theorem xD {op} {t:TE} (h:PE X a t):PE X (.BoolOp op [a] pos) t:=fun pins s σ H Q I hw=>BoolOp_one (h pins s σ H Q I hw)
theorem xJ (ha:PE X a ta) (hb:PE X (.BoolOp .And (b :: cM) pos) tb):PE X (.BoolOp .And (a :: b :: cM) pos) (wo ta tb):=by
  intro pins s σ H Q I h
  refine BoolOp_and (thn (ha pins s σ H _ I h) fun v s1 ⟨x,H1,I1,r1,q1⟩=>?_)
  obtain ⟨c,rfl,q1⟩:=q1
  cases r1
  refine zu ?_
  cases c with
  | true=>exact hb pins s1 σ H1 Q I1 q1
  | false=>exact ⟨.bl false,H1,I1,rfl,q1⟩
theorem xE (ha:PE X a ta):PE X (.UnaryOp .Not a pos) (we ta):=by
  intro pins s σ H Q I h
  refine UnaryOp_ (thn (ha pins s σ H _ I h) fun v s1 ⟨x,H1,I1,r1,q1⟩=>?_)
  obtain ⟨c,rfl,q1⟩:=q1
  cases r1
  exact not_of (zu ⟨.bl (!c),H1,I1,rfl,q1⟩)
noncomputable def tIf (t:TT) (ta tb:TE):TE:=fun σ H Q=>t σ H fun c H1=>if c=true then ta σ H1 Q else tb σ H1 Q
theorem sS {c:Expr} (hc:PT X c tA) (ha:PE X a ta) (hb:PE X b tb):PE X (.IfExp c a b pos) (tIf tA ta tb):=by
  intro pins s σ H Q I h
  refine wpAny_IfExp (thn (hc pins s σ H _ I h) fun d s1 ⟨H1,I1,q1⟩=>?_)
  cases d with
  | true=>exact ha pins s1 σ H1 Q I1 q1
  | false=>exact hb pins s1 σ H1 Q I1 q1
end
end L2
namespace L2
open PySem PySem.Spec PyProof.Rows
noncomputable def SqL (K:FG) (H:Hp) (a:Addr) (xs:List V):Prop :=
  Rd H a (.lst xs) \/
    ∃ (o:Obj) (its:Array Value) (n:Nat),K.lookup a=some o/\o.cls=.type "list"/\o.dict=none/\o.data=.seq its n/\its.size<=sizeLine/\Vals xs its.toList
noncomputable def SqT (K:FG) (H:Hp) (a:Addr) (xs:List V):Prop :=
  Rd H a (.tup xs) \/
    ∃ (o:Obj) (its:Array Value) (n:Nat),K.lookup a=some o/\o.cls=.type "tuple"/\o.data=.seq its n/\its.size<=sizeLine/\Vals xs its.toList
noncomputable def absV:Value->Option V
  | .none=>some .non
  | .bool b=>some (.bl b)
  | .int i _=>some (.int i)
  | .str x _=>some (.str x)
  | .bytes b _=>some (.byt b)
  | .float b _=>some (.flt b)
  | .ref a=>some (.ref a)
  | .type n=>some (.ty n)
  | _=>none
theorem RelV.abs {x:V} {u:Value} (r:RelV x u):absV u=some x:=by
  cases x with
  | non=>cases r;rfl
  | bl _=>cases r;rfl
  | int _=>obtain ⟨t,rfl⟩:=r;rfl
  | str _=>obtain ⟨t,rfl⟩:=r;rfl
  | byt _=>obtain ⟨t,rfl⟩:=r;rfl
  | flt _=>obtain ⟨t,rfl⟩:=r;rfl
  | ref _=>cases r;rfl
  | ty _=>cases r;rfl
theorem RelV.inj {x y:V} {u:Value} (r:RelV x u) (q:RelV y u):x=y:=zx (r.abs.symm.trans q.abs)
theorem Vals.inj:∀ {xs ys:List V} {us:List Value},Vals xs us->Vals ys us->xs=ys
  | _,_,_,.nil,.nil=>rfl
  | _,_,_,.cons r t,.cons r' t'=>by rw [r.inj r',Vals.inj t t']
section
variable {X:Cx} {pins:List (Addr × Obj)} {σ:St} {H:Hp} {s:Shared} {a:Addr} {xs ys:List V}
theorem SqL.of {K:FG} (h:H a=some (.lst xs)):SqL K H a xs:=.inl (.inl h)
theorem SqT.of {K:FG} (h:H a=some (.tup xs)):SqT K H a xs:=.inl (.inl h)
theorem Inv.list (I:Inv X pins σ H s) (h:SqL X.K H a xs):∃ its:List Value,Vals xs its/\PlainL s.heap a its.toArray/\xs.length<=sizeLine:=by
  rcases h with h | ⟨o,its,n,hk,hc,hd,hs,hz,r⟩
  · obtain ⟨z,its,n,r,e⟩:=h.ok I.hok
    exact ⟨its,r,⟨_,n,e,rfl,rfl,rfl⟩,z⟩
  · refine ⟨its.toList,r,⟨o,n,I.kIn a o hk,hc,hd,by simpa using hs⟩,?_⟩
    have e:=r.length
    simp only [Array.length_toList] at e
    omega
theorem Inv.tuple (I:Inv X pins σ H s) (h:SqT X.K H a xs):∃ its:List Value,Vals xs its/\IsTup s.heap a its.toArray/\xs.length<=sizeLine:=by
  rcases h with h | ⟨o,its,n,hk,hc,hs,hz,r⟩
  · obtain ⟨z,its,r,p⟩:=h.ok I.hok
    exact ⟨its,r,p.tup,z⟩
  · refine ⟨its.toList,r,⟨o,I.kIn a o hk,hc,n,by simpa using hs⟩,?_⟩
    have e:=r.length
    simp only [Array.length_toList] at e
    omega
theorem Inv.list_inj (I:Inv X pins σ H s) (h:SqL X.K H a xs) (h':SqL X.K H a ys):xs=ys:=by
  obtain ⟨its,r,⟨o,n,e,_,_,d⟩,_⟩:=I.list h
  obtain ⟨its',r',⟨o',n',e',_,_,d'⟩,_⟩:=I.list h'
  rw [e] at e';cases e'
  rw [d] at d'
  injection d' with d1 _
  have:its=its':=by simpa using congrArg Array.toList d1
  subst this
  exact r.inj r'
theorem Inv.tuple_inj (I:Inv X pins σ H s) (h:SqT X.K H a xs) (h':SqT X.K H a ys):xs=ys:=by
  obtain ⟨its,r,⟨o,e,_,n,d⟩,_⟩:=I.tuple h
  obtain ⟨its',r',⟨o',e',_,n',d'⟩,_⟩:=I.tuple h'
  rw [e] at e';cases e'
  rw [d] at d'
  injection d' with d1 _
  have:its=its':=by simpa using congrArg Array.toList d1
  subst this
  exact r.inj r'
end
noncomputable abbrev Cx.wish (X:Cx) (E:Value->Shared->Prop):Cx:={ X with xe:=E }
noncomputable abbrev Cx.nox (X:Cx):Cx:=X.wish fun _ _=>False
theorem Cx.Ok.wish {X:Cx} (ok:X.Ok) (E:Value->Shared->Prop):(X.wish E).Ok :=
  ⟨ok.mod,ok.kind,ok.glob,ok.blt,ok.above,ok.inj,ok.has,ok.cab,ok.hd,ok.frames,ok.stk,ok.exf,ok.bs,ok.bsz,ok.noex,ok.exfs,ok.funs,ok.frf⟩
theorem Cx.Ok.unwish {X:Cx} {E:Value->Shared->Prop} (ok:(X.wish E).Ok):X.Ok :=
  ⟨ok.mod,ok.kind,ok.glob,ok.blt,ok.above,ok.inj,ok.has,ok.cab,ok.hd,ok.frames,ok.stk,ok.exf,ok.bs,ok.bsz,ok.noex,ok.exfs,ok.funs,ok.frf⟩
section
variable {X:Cx} {pins:List (Addr × Obj)} {σ:St} {H:Hp} {s:Shared} {E:Value->Shared->Prop}
theorem Inv.wish (I:Inv X pins σ H s) (E:Value->Shared->Prop):Inv (X.wish E) pins σ H s:=⟨I.ok.wish E,I.os,I.bare,I.base,I.loc,I.cell,I.free,I.freeC,I.pin,I.hok,I.len⟩
theorem Inv.unwish (I:Inv (X.wish E) pins σ H s):Inv X pins σ H s:=⟨I.ok.unwish,I.os,I.bare,I.base,I.loc,I.cell,I.free,I.freeC,I.pin,I.hok,I.len⟩
set_option tactic.hygienic true in
theorem SP.unwish {D:Ends} {f:Flow} {s':Shared} (h:SP (X.wish E) pins D f s'):SP X pins D f s':=by
  cases f with
  | next=>obtain ⟨σ',H',I,q⟩:=h;exact ⟨σ',H',I.unwish,q⟩
  | brk=>obtain ⟨σ',H',I,q⟩:=h;exact ⟨σ',H',I.unwish,q⟩
  | cont=>obtain ⟨σ',H',I,q⟩:=h;exact ⟨σ',H',I.unwish,q⟩
  | ret u=>obtain ⟨v,σ',H',I,r,q⟩:=h;exact ⟨v,σ',H',I.unwish,r,q⟩
theorem PSs.nox {st:List Stmt} {t:TS} (h:PSs X.nox st t):PSs X st t:=fun pins s σ H D I hw =>
  wpAny_mono (h pins s σ H D (I.wish _) hw) (fun _ _ q=>q.unwish) fun _ _ z=>False.elim z
end
section
variable {X:Cx} {st:Stmt} {cM:List Stmt} {t u:TS} {e:Expr} {te:TE} {pos:Pos}
noncomputable def wg:TS:=fun D σ H=>D.nx σ H
noncomputable def tSeq (t u:TS):TS:=fun D σ H=>t { D with nx:=u D } σ H
theorem vm:PSs X [] wg:=fun _ _ σ H _ I h=>wpAny_execs_nil ⟨σ,H,I,h⟩
set_option tactic.hygienic true in
theorem sK (h1:PS X st t) (h2:PSs X cM u):PSs X (st :: cM) (tSeq t u):=by
  intro pins s σ H D I h
  refine wpAny_execs_cons (thn (h1 pins s σ H { D with nx:=u D } I h) fun f s1 q=>?_)
  cases f with
  | next =>
    obtain ⟨σ',H',I',q⟩:=q
    exact h2 pins s1 σ' H' D I' q
  | ret v=>exact q
  | brk=>exact q
  | cont=>exact q
set_option tactic.hygienic true in
theorem vj (h1:PS X st t):PSs X [st] t:=by
  intro pins s σ H D I h
  refine wpAny_execs_cons (thn (h1 pins s σ H D I h) fun f s1 q=>?_)
  cases f with
  | next=>exact wpAny_execs_nil q
  | ret v=>exact q
  | brk=>exact q
  | cont=>exact q
theorem Inv.quiet {pins:List (Addr × Obj)} {σ:St} {H:Hp} {s:Shared} (I:Inv X pins σ H s):interactive X.env=false:=by simp [interactive,I.ok.kind]
noncomputable def wl (te:TE):TS:=fun D σ H=>te σ H fun _ H1=>D.nx σ H1
theorem vn (he:PE X e te) (hs:swapsWith e none pos.line X.env=pure false:=by rfl):PS X (.Expr e pos) (wl te):=by
  intro pins s σ H D I h
  exact wpAny_Expr_any (thn (he pins s σ H _ I h) fun v s1 ⟨x,H1,I1,r1,q1⟩=>⟨σ,H1,I1,q1⟩) I.quiet hs
noncomputable def tRet (te:TE):TS:=fun D σ H=>te σ H D.rt
theorem xx (he:PE X e te):PS X (.Return (some e) pos) (tRet te):=by
  intro pins s σ H D I h
  exact wpAny_Return_some (thn (he pins s σ H _ I h) fun v s1 ⟨x,H1,I1,r1,q1⟩=>⟨x,σ,H1,I1,r1,q1⟩)
noncomputable def tIfS (c:TT) (t u:TS):TS:=fun D σ H=>c σ H fun b H1=>if b=true then t D σ H1 else u D σ H1
theorem ps_if {c:Expr} {a b:List Stmt} {tc:TT} (hc:PT X c tc) (ha:PSs X a t) (hb:PSs X b u):PS X (.If c a b pos) (tIfS tc t u):=by
  intro pins s σ H D I h
  refine wpAny_If (thn (hc pins s σ H _ I h) fun d s1 ⟨H1,I1,q1⟩=>?_)
  cases d with
  | true=>exact ha pins s1 σ H1 D I1 q1
  | false=>exact hb pins s1 σ H1 D I1 q1
noncomputable def wV:TS:=fun _ _ _=>False
theorem sM:PS X st wV:=fun _ _ _ _ _ _ h=>h.elim
end
noncomputable abbrev TG:=V->St->Hp->(St->Hp->Prop)->Prop
noncomputable abbrev TGs:=List V->St->Hp->(St->Hp->Prop)->Prop
noncomputable def PG (X:Cx) (target:Expr) (t:TG):Prop :=
  ∀ (pins:List (Addr × Obj)) (s:Shared) (σ:St) (H:Hp) (v:V) (u:Value) (Q:St->Hp->Prop),Inv X pins σ H s->RelV v u->t v σ H Q ->
    wpAny (model X.prog X.w) X.A (assign target X.env u) (fun _ s'=>∃ σ' H',Inv X pins σ' H' s'/\Q σ' H') X.xe s
noncomputable def PGs (X:Cx) (ts:List Expr) (t:TGs):Prop :=
  ∀ (pins:List (Addr × Obj)) (s:Shared) (σ:St) (H:Hp) (vs:List V) (us:List Value) (Q:St->Hp->Prop),Inv X pins σ H s->Vals vs us->t vs σ H Q ->
    wpAny (model X.prog X.w) X.A (assignInOrder ((assignEach ts X.env).map (·.2)) us) (fun _ s'=>∃ σ' H',Inv X pins σ' H' s'/\Q σ' H') X.xe s
noncomputable abbrev rE:=V->V->V->Hp->(Hp->Prop)->Prop
noncomputable def uy (X:Cx) (t:rE):Prop :=
  ∀ (pins:List (Addr × Obj)) (s:Shared) (σ:St) (H:Hp) (o i v:V) (ov iv u:Value) (Q:Hp->Prop),Inv X pins σ H s->RelV o ov->RelV i iv->RelV v u->t o i v H Q ->
    wpAny (model X.prog X.w) X.A (setItem ov iv u) (fun _ s'=>∃ H',Inv X pins σ H' s'/\Q H') X.xe s
section
variable {X:Cx} {pos:Pos}
noncomputable def pY (i:Nat):TG:=fun v σ H Q=>Q (σ.set i (some v)) H
theorem bB {i:Nat} {x:Str} (hN:X.N.Nodup) (hi:X.N[i]?=some x) (hx:Loc X.env.scope x) (hf:X.fn x=true\/X.env.scope.names.lookup x=some .local:=by first | exact .inl rfl | exact .inr rfl | assumption):PG X (.Name x pos) (pY i):=by
  intro pins s σ H v u Q I r h
  exact wpAny_assign_Name (mm I hN hi hx r (fun s' I'=>⟨_,H,I',h⟩) hf)
noncomputable def gNil:TGs:=fun vs σ H Q=>vs=[]/\Q σ H
noncomputable def wE (t:TG) (u:TGs):TGs:=fun vs σ H Q=>∃ v r,vs=v :: r/\t v σ H fun σ' H'=>u r σ' H' Q
theorem pE:PGs X [] gNil:=by
  intro pins s σ H vs us Q I r h
  obtain ⟨e,h⟩:=h
  subst e
  cases r
  exact assignInOrder_nil ⟨σ,H,I,h⟩
theorem jT {e:Expr} {es:List Expr} {t:TG} {u:TGs} (h1:PG X e t) (h2:PGs X es u)
    (hs:(assignEach (e :: es) X.env).map (·.2)=assign e X.env :: (assignEach es X.env).map (·.2):=by rfl):PGs X (e :: es) (wE t u):=by
  intro pins s σ H vs us Q I r h
  obtain ⟨v,vr,e1,h⟩:=h
  subst e1
  cases r with
  | cons r rr =>
    rw [hs]
    refine assignInOrder_cons (thn (h1 pins s σ H _ _ _ I r h) fun _ s1 ⟨σ1,H1,I1,q1⟩=>?_)
    exact h2 pins s1 σ1 H1 _ _ Q I1 rr q1
noncomputable def gTup (K:FG) (n:Nat) (t:TGs):TG:=fun v σ H Q=>∃ a xs,v=.ref a/\SqT K H a xs/\xs.length=n/\t xs σ H Q
theorem sQ {es:List Expr} {k:Nat} {t:TGs} {n:Nat} (hc:X.calm=true) (h:PGs X es t)
    (hn:(assignEach es X.env).length=n:=by rfl) (hst:(assignEach es X.env).findIdx? (·.1)=none:=by rfl):PG X (.Tuple es k pos) (gTup X.K n t):=by
  intro pins s σ H v u Q I r hw
  obtain ⟨a,xs,e1,hq,hl,hw⟩:=hw
  subst e1
  cases r
  obtain ⟨its,rv,ht,hz⟩:=I.tuple hq
  refine assign_Tuple_tuple (I.ok.hd hc) ht (by simp [hn,<- hl,rv.length]) hst fun h' hx=>?_
  have I1:Inv X pins σ H { s with heap:=h' }:=I.kept (t':=s.toks) fun b o e=>hx b o (za (yT e)) e
  exact h pins _ σ H xs _ Q I1 (by simpa using rv) hw
noncomputable def gSub (to ti:TE) (t:rE):TG:=fun v σ H Q=>to σ H fun o H1=>ti σ H1 fun i H2=>t o i v H2 fun H3=>Q σ H3
theorem xB {o i:Expr} {to ti:TE} {t:rE} (ho:PE X o to) (hi:PE X i ti) (hs:uy X t)
    (ha:∀ v,assign (.Subscript o i pos) X.env v=(do
      let ov <- holding [v] (eval o X.env)
      let iv <- holding [v,ov] (eval i X.env)
      standAt pos
      holding [v,ov,iv] (setItem ov iv v)
      release [v,ov,iv] []):=by intro _;rfl):PG X (.Subscript o i pos) (gSub to ti t):=by
  intro pins s σ H v u Q I r h
  rw [ha]
  refine yH (yJ (thn (ho pins s σ H _ I h) fun ov s1 ⟨x,H1,I1,r1,q1⟩=>?_))
  refine yH (yJ (thn (hi pins s1 σ H1 _ I1 q1) fun iv s2 ⟨y,H2,I2,r2,q2⟩=>?_))
  refine yH (wpAny_standAt (yH (yJ (thn (hs pins s2 σ H2 x y v ov iv u _ I2 r1 r2 r q2) fun _ s3 ⟨H3,I3,q3⟩=>?_))))
  exact wpAny_release ⟨σ,H3,I3,q3⟩
noncomputable def rS (te:TE) (g:TG):TS:=fun D σ H=>te σ H fun x H1=>g x σ H1 D.nx
theorem sN {tg e:Expr} {te:TE} {g:TG} (he:PE X e te) (hg:PG X tg g) (hs:swapsWithSole [tg] e pos.line X.env=pure false:=by rfl) (hw:swappedStores [tg] e X.env=pure none:=by rfl)
    (h1:(assignEach [tg] X.env).map (·.2)=[assign tg X.env]:=by rfl):PS X (.Assign [tg] e pos) (rS te g):=by
  intro pins s σ H D I h
  refine wpAny_Assign_stores (thn (he pins s σ H _ I h) fun v s1 ⟨x,H1,I1,r1,q1⟩=>?_) hs hw
  rw [h1]
  exact thn (hg pins s1 σ H1 x v _ I1 r1 q1) fun _ s2 q=>q
theorem xw {i:Nat} {x:Str} {e:Expr} {te:TE} {pos':Pos} (hN:X.N.Nodup) (hi:X.N[i]?=some x) (hx:Loc X.env.scope x) (he:PE X e te) (hs:swapsWith e (some (.Name x pos')) pos.line X.env=pure false:=by rfl) (hf:X.fn x=true\/X.env.scope.names.lookup x=some .local:=by first | exact .inl rfl | exact .inr rfl | assumption) :
    PS X (.Assign [.Name x pos'] e pos) (rS te (pY i)):=by
  intro pins s σ H D I h
  refine wpAny_Assign_Name (thn (he pins s σ H _ I h) fun v s1 ⟨y,H1,I1,r1,q1⟩=>?_) hs
  exact mm I1 hN hi hx r1 (fun s2 I2=>⟨_,H1,I2,q1⟩) hf
end
section
variable {X:Cx} {pos:Pos}
noncomputable def rN (c:TT) (tb:TS):TS:=fun D σ H=>∃ W:Nat->St->Hp->Prop,(∃ m,W m σ H)/\∀ m σ H,W m σ H ->
  c σ H fun b H1=>if b=true then ∃ N:St->Hp->Prop,(∀ σ' H',N σ' H'->∃ m',m' < m/\W m' σ' H')/\tb { D with nx:=N,ct:=N,bk:=D.nx } σ H1 else D.nx σ H1
set_option tactic.hygienic true in
theorem sL {c:Expr} {body:List Stmt} {tc:TT} {tb:TS} (hp:PassesOwn (model X.prog X.w) X.A X.env X.xe) (hc:PT X c tc) (hb:PSs X body tb):PS X (.While c body [] pos) (rN tc tb):=by
  intro pins s σ H D I h
  obtain ⟨W,⟨m0,w0⟩,turn⟩:=h
  refine wpAny_While (codeAny_whileLoop (fun n s'=>∃ σ' H',Inv X pins σ' H' s'/\W n σ' H') ?_ m0 ⟨σ,H,I,w0⟩)
  rintro n s1 ⟨σ1,H1,I1,w1⟩
  refine wpAny_passesOwn hp (thn (hc pins s1 σ1 H1 _ I1 (turn n σ1 H1 w1)) fun b s2 ⟨H2,I2,q2⟩=>?_)
  cases b with
  | true =>
    obtain ⟨N,hN,q2⟩:=q2
    rw [if_pos rfl]
    refine wpAny_passesOwn hp (thn (hb pins s2 σ1 H2 _ I2 q2) fun f s3 q3=>?_)
    cases f with
    | next =>
      obtain ⟨σ3,H3,I3,n3⟩:=q3
      obtain ⟨m',hm,w3⟩:=hN σ3 H3 n3
      exact ⟨m',hm,σ3,H3,I3,w3⟩
    | cont =>
      obtain ⟨σ3,H3,I3,n3⟩:=q3
      obtain ⟨m',hm,w3⟩:=hN σ3 H3 n3
      exact ⟨m',hm,σ3,H3,I3,w3⟩
    | brk=>exact q3
    | ret v=>exact q3
  | false =>
    rw [if_neg y9]
    exact wpAny_execs_nil ⟨σ1,H2,I2,q2⟩
end
structure It where
  go:Nat->Hp->Prop
  yld:Nat->Hp->V->Hp->Prop
  stop:Nat->Hp->Prop
noncomputable def FpOk (X:Cx) (pins:List (Addr × Obj)) (H:Hp) (b:Addr):Prop :=
  H b=none/\b ≠ X.env.locals/\b ∉ X.fs/\(b ∈ X.ex\/X.s₀.heap.objs.size<=b)/\(∀ x c,X.env.cells.lookup x=some c->c ≠ b)/\∀ p ∈ X.pn ++ pins,p.1 ≠ b
theorem Inv.fpOk {X:Cx} {pins:List (Addr × Obj)} {σ:St} {H H':Hp} {s:Shared} {b:Addr} (I:Inv X pins σ H s) (hb:s.heap.objs.size<=b) (hn:H' b=none):FpOk X pins H' b:=by
  refine ⟨hn,Nat.ne_of_gt (zf I.lt hb),I.nofs hb,.inr (zv I.sz hb),fun x c e z=>?_,fun p hp z=>?_⟩
  · obtain ⟨v,q⟩:=I.cell x c e
    exact absurd (zf q.lt (by rw [z];exact hb)) (Nat.lt_irrefl _)
  · exact absurd (zf (yT (I.pin p hp).1) (by rw [z];exact hb)) (Nat.lt_irrefl _)
structure Turn (P:Program) (w:World) (K:FG) (tg:Expr) (J:It) (fp:List Addr) (it:Addr) (tn:Nat->Heap->Prop):Prop where
  mem:it ∈ fp
  obj:∀ i h,tn i h->∀ b ∈ fp,∃ o,h.get? b=some o/\∀ v,o.data ≠ .cell v
  keep:∀ i h h',tn i h->(∀ b ∈ fp,∀ o,h.get? b=some o->h'.get? b=some o)->tn i h'
  item:∀ (X:Cx),X.prog=P->X.w=w->X.K=K->X.calm=true->∀ (i:Nat) (pins:List (Addr × Obj)) (s:Shared) (σ:St) (H:Hp) (E:Value->Shared->Prop),Inv X pins σ H s->(∀ b ∈ fp,FpOk X pins H b)->tn i s.heap->J.go i H ->
    wpAny (model P w) X.A (pyNext (.ref it)) (fun r s1=>∃ u,r=some u /\
      wpAny (model P w) X.A (letOwnedTupleGo tg (.ref it) u) (fun _ s2=>∃ x H',Inv X pins σ H' s2/\RelV x u/\J.yld i H x H'/\tn (i+1) s2.heap/\∀ b ∈ fp,H' b=none) E s1) E s
  done:∀ (X:Cx),X.prog=P->X.w=w->X.K=K->X.calm=true->∀ (i:Nat) (pins:List (Addr × Obj)) (s:Shared) (σ:St) (H:Hp) (E:Value->Shared->Prop),Inv X pins σ H s->(∀ b ∈ fp,FpOk X pins H b)->tn i s.heap->J.stop i H ->
    wpAny (model P w) X.A (pyNext (.ref it)) (fun r s1=>r=none/\Inv X pins σ H s1) E s
  self:∀ (A:Around) (i:Nat) (s:Shared) (Q:Value->Shared->Prop) (E:Value->Shared->Prop),tn i s.heap->Q (.ref it) s->wpAny (model P w) A (pyIter (.ref it)) Q E s
noncomputable abbrev TI:=St->Hp->(It->Hp->Prop)->Prop
noncomputable def PIE (X:Cx) (pins:List (Addr × Obj)) (σ:St) (tg:Expr) (R:It->Hp->Prop) (itv:Value) (s2:Shared):Prop :=
  ∃ (it:Addr) (fp:List Addr) (tn:Nat->Heap->Prop) (J:It) (H':Hp),itv=.ref it/\Inv X pins σ H' s2/\Turn X.prog X.w X.K tg J fp it tn/\tn 0 s2.heap/\(∀ b ∈ fp,FpOk X pins H' b)/\R J H'
noncomputable def PI (X:Cx) (tg iter:Expr) (wi:TI):Prop :=
  ∀ (pins:List (Addr × Obj)) (s:Shared) (σ:St) (H:Hp) (R:It->Hp->Prop),Inv X pins σ H s->wi σ H R ->
    wpAny (model X.prog X.w) X.A (eval iter X.env) (fun v s1=>wpAny (model X.prog X.w) X.A (pyIter v) (PIE X pins σ tg R) X.xe s1) X.xe s
theorem tR {M : Model} {A : Around} {E : Value -> Shared -> Prop} {s : Shared} {tg : Expr} {it : Addr} {u : Value} {o : Obj} {n : String} {vs : Array Value} {Q : Unit -> Shared -> Prop} (ho : s.heap.get? it = some o) (hc : o.cls = .type n) (hd : o.data = .fields vs)
    (hn : ["enumerate", "zip", "dict_itemiterator", "dict_reverseitemiterator", "odict_iterator", "itertools.zip_longest", "itertools.pairwise"].contains n = false) (hQ : Q () s) : wpAny M A (letOwnedTupleGo tg (.ref it) u) Q E s := by
  unfold letOwnedTupleGo
  cases tg <;> first
    | exact yI hQ
    | (cases u <;> first
        | exact yI hQ
        | (refine yH (wpAny_load ho ?_)
           rw [hc, hd]
           show wpAny M A (if (["enumerate", "zip", "dict_itemiterator", "dict_reverseitemiterator", "odict_iterator", "itertools.zip_longest", "itertools.pairwise"].contains n && vs[0]? == some (rawInt _)) = true then _ else _) Q E s
           rw [if_neg (by intro h; rw [hn, Bool.false_and] at h; cases h)]
           exact yI hQ))
noncomputable def Itl (K:FG) (a:Addr):It :=
  ⟨fun i H=>∃ xs x,SqL K H a xs/\xs[i]?=some x,fun i H x H'=>H'=H/\∀ xs,SqL K H a xs->xs[i]?=some x,fun i H=>∃ xs,SqL K H a xs/\xs.length<=i⟩
noncomputable def Itt (K:FG) (a:Addr):It :=
  ⟨fun i H=>∃ xs x,SqT K H a xs/\xs[i]?=some x,fun i H x H'=>H'=H/\∀ xs,SqT K H a xs->xs[i]?=some x,fun i H=>∃ xs,SqT K H a xs/\xs.length<=i⟩
noncomputable def Itr (lo:Int) (n:Nat):It:=⟨fun i _=>i < n,fun i H x H'=>H'=H/\x=.int (lo+i),fun i _=>n<=i⟩
theorem qo {P:Program} {w:World} {K:FG} {tg:Expr} (a it:Addr):Turn P w K tg (Itl K a) [it] it (fun i h=>h.IsListIter it a i) where
  mem:=by simp
  obj:=fun i h st b hb=>by
    have e:b=it:=by simpa using hb
    subst e
    obtain ⟨o,e,c,d⟩:=st
    exact ⟨o,e,fun v z=>by rw [d] at z;cases z⟩
  keep:=fun i h h' st k=>st.at fun o e=>k it (by simp) o e
  item:=by
    intro X hP hw hK hc i pins s σ H E I hf st hg
    subst hP hw hK
    obtain ⟨xs,x,hq,hx⟩:=hg
    obtain ⟨its,rv,p,hz⟩:=I.list hq
    obtain ⟨u,hu,ru⟩:=rv.get hx
    obtain ⟨f0,f1,f2,f3,f4,f5⟩:=hf it (by simp)
    refine wpAny_pyNext_list_item st p.isList (x:=u) (by simpa using hu) fun h' st' sb=>?_
    have I1:Inv X pins σ H { s with heap:=h' }:=I.turned (t':=s.toks) (fun b o hb e=>(sb.2 b hb).trans e) f0 f1 f3 f4 f5
    obtain ⟨o,e,c,d⟩:=id st'
    exact ⟨u,rfl,tR (s:={ s with heap:=h' }) e c d (by decide) ⟨x,H,I1,ru,⟨rfl,fun ys hy=>by rw [I.list_inj hy hq];exact hx⟩,st',fun b hb=>(hf b hb).1⟩⟩
  done:=by
    intro X hP hw hK hc i pins s σ H E I hf st hg
    subst hP hw hK
    obtain ⟨xs,hq,hx⟩:=hg
    obtain ⟨its,rv,p,hz⟩:=I.list hq
    obtain ⟨f0,f1,f2,f3,f4,f5⟩:=hf it (by simp)
    have hl:=rv.length
    exact wpAny_pyNext_list_end (I.ok.hd hc) st p.isList (by simp;omega) fun h' eb=>⟨rfl,I.turned (t':=s.toks) (fun b o hb e=>eb b o hb e) f0 f1 f3 f4 f5⟩
  self:=fun _ _ _ _ _ st h=>wpAny_pyIter_listiter st h
theorem nU {P:Program} {w:World} {K:FG} {tg:Expr} (a it:Addr):Turn P w K tg (Itt K a) [it] it (fun i h=>h.IsTupleIter it a i) where
  mem:=by simp
  obj:=fun i h st b hb=>by
    have e:b=it:=by simpa using hb
    subst e
    obtain ⟨o,e,c,d⟩:=st
    exact ⟨o,e,fun v z=>by rw [d] at z;cases z⟩
  keep:=fun i h h' st k=>st.at fun o e=>k it (by simp) o e
  item:=by
    intro X hP hw hK hc i pins s σ H E I hf st hg
    subst hP hw hK
    obtain ⟨xs,x,hq,hx⟩:=hg
    obtain ⟨its,rv,p,hz⟩:=I.tuple hq
    obtain ⟨u,hu,ru⟩:=rv.get hx
    obtain ⟨f0,f1,f2,f3,f4,f5⟩:=hf it (by simp)
    refine wpAny_pyNext_tuple_item st (show s.heap.IsTuple a its.toArray from p) (x:=u) (by simpa using hu) fun h' st' sb=>?_
    have I1:Inv X pins σ H { s with heap:=h' }:=I.turned (t':=s.toks) (fun b o hb e=>(sb.2 b hb).trans e) f0 f1 f3 f4 f5
    obtain ⟨o,e,c,d⟩:=id st'
    exact ⟨u,rfl,tR (s:={ s with heap:=h' }) e c d (by decide) ⟨x,H,I1,ru,⟨rfl,fun ys hy=>by rw [I.tuple_inj hy hq];exact hx⟩,st',fun b hb=>(hf b hb).1⟩⟩
  done:=by
    intro X hP hw hK hc i pins s σ H E I hf st hg
    subst hP hw hK
    obtain ⟨xs,hq,hx⟩:=hg
    obtain ⟨its,rv,p,hz⟩:=I.tuple hq
    obtain ⟨f0,f1,f2,f3,f4,f5⟩:=hf it (by simp)
    have hl:=rv.length
    exact wpAny_pyNext_tuple_end (I.ok.hd hc) st (show s.heap.IsTuple a its.toArray from p) (by simp;omega) fun h' eb=>⟨rfl,I.turned (t':=s.toks) (fun b o hb e=>eb b o hb e) f0 f1 f3 f4 f5⟩
  self:=fun _ _ _ _ _ st h=>wpAny_pyIter_tupleiter st h
theorem nV {P:Program} {w:World} {K:FG} {tg:Expr} (it:Addr) (lo:Int) (n:Nat):Turn P w K tg (Itr lo n) [it] it (fun i h=>IsRangeIter h it (lo+(i:Nat) * 1) ((n:Int) - (i:Nat)) 1) where
  mem:=by simp
  obj:=fun i h st b hb=>by
    have e:b=it:=by simpa using hb
    subst e
    exact ⟨_,st,fun v z=>by
      have z':Data.fields _=Data.cell v:=z
      cases z'⟩
  keep:=fun i h h' st k=>k it (by simp) _ st
  item:=by
    intro X hP hw hK hc i pins s σ H E I hf st hg
    subst hP hw hK
    obtain ⟨f0,f1,f2,f3,f4,f5⟩:=hf it (by simp)
    have W:=Walks.range (prog:=X.prog) (w:=X.w) (I.ok.hd hc) it lo 1 n
    refine W.item i s _ _ hg st fun v h' tk hv st' kk=>?_
    obtain ⟨t,rfl⟩:=hv
    have I1:Inv X pins σ H { s with heap:=h',toks:=tk }:=I.turned (fun b o hb e=>kk b o (by simpa using hb) e) f0 f1 f3 f4 f5
    refine ⟨_,rfl,tR (s:={ s with heap:=h',toks:=tk }) (n:="range_iterator") st' rfl rfl (by decide) ⟨.int (lo+i),H,I1,⟨t,?_⟩,⟨rfl,rfl⟩,st',fun b hb=>(hf b hb).1⟩⟩
    rw [Int.mul_one]
  done:=by
    intro X hP hw hK hc i pins s σ H E I hf st hg
    subst hP hw hK
    obtain ⟨f0,f1,f2,f3,f4,f5⟩:=hf it (by simp)
    exact wpAny_pyNext_range_end (I.ok.hd hc) st (by have:n<=i:=hg;omega) fun h' eb=>⟨rfl,I.turned (t':=s.toks) (fun b o hb e=>eb b o hb e) f0 f1 f3 f4 f5⟩
  self:=fun _ _ _ _ _ st h=>wpAny_pyIter_rangeiter st h
end L2
namespace L2
open PySem PySem.Spec PyProof.Rows
section
variable {X:Cx} {tg:Expr}
theorem mI {pins:List (Addr × Obj)} {σ:St} {H:Hp} {s:Shared} {R:It->Hp->Prop} {E:Value->Shared->Prop} {lo hi:Int} {t u v:Tok} {tk:Nat} (I:Inv X pins σ H s) (h1:-(2 ^ 62)<=lo) (h2:lo < 2 ^ 62) (h3:-(2 ^ 62)<=hi) (h4:hi < 2 ^ 62)
    (q:R (Itr lo (hi - lo).toNat) H):wpAny (model X.prog X.w) X.A (pyIter (.ref s.heap.objs.size)) (PIE X pins σ tg R) E { s with heap:=s.heap.push { cls:=.type "range",data:=.fields #[.int lo t,.int hi u,.int 1 v] },toks:=tk }:=by
  refine wpAny_pyIter_range (IsRange.new ..) (small_one h1 h2 h3 h4) ?_
  have I1:Inv X pins σ H { s with heap:=s.heap.push { cls:=.type "range",data:=.fields #[.int lo t,.int hi u,.int 1 v] },toks:=tk }:=I.kept fun b o e=>yN _ e
  refine ⟨(s.heap.push { cls:=.type "range",data:=.fields #[.int lo t,.int hi u,.int 1 v] }).objs.size,[(s.heap.push { cls:=.type "range",data:=.fields #[.int lo t,.int hi u,.int 1 v] }).objs.size],_,_,H,rfl,
    I1.kept (t':=tk) fun b o e=>yN _ e,nV _ lo (hi - lo).toNat,?_,fun b hb=>?_,q⟩
  · have e1:lo+((0:Nat):Int) * 1=lo:=by simp
    have e2:(((hi - lo).toNat:Nat):Int) - ((0:Nat):Int)=Builtin.Range.rangeSize lo hi 1:=by rw [rangeSize_one];split <;> omega
    show IsRangeIter _ _ (lo+((0:Nat):Int) * 1) ((((hi - lo).toNat:Nat):Int) - ((0:Nat):Int)) 1
    rw [e1,e2]
    exact yV _ rfl
  · have e:b=(s.heap.push { cls:=.type "range",data:=.fields #[.int lo t,.int hi u,.int 1 v] }).objs.size:=by simpa using hb
    subst e
    exact I1.fpOk (y8 _) (I1.hok.fresh (y8 _))
noncomputable def wD (ta:TA):TI:=fun σ H R=>ta σ H fun vs H1=>∃ j:Int,vs=[.int j]/\-(2 ^ 62)<=j/\j < 2 ^ 62/\R (Itr 0 j.toNat) H1
noncomputable def wC (ta:TA):TI:=fun σ H R=>ta σ H fun vs H1=>∃ i j:Int,vs=[.int i,.int j]/\(-(2 ^ 62)<=i/\i < 2 ^ 62/\-(2 ^ 62)<=j/\j < 2 ^ 62)/\R (Itr i (j - i).toNat) H1
theorem qE {a:Expr} {ta:TA} {p pos:Pos} (hg:Gl X "range") (hm:X.mg "range"=none) (ha:PA X [a] ta) (hs:starEach [a] X.env=[(false,eval a X.env)]:=by rfl):PI X tg (.Call (.Name "range" p) [a] [] pos) (wD ta):=by
  intro pins s σ H R I h
  refine Call_ (gI I hg hm boot_range (PyProof.Rows.callWith_type1 (thn (ha pos pins s σ H _ I h) fun us s1 ⟨vs,H1,I1,r1,q1⟩=>?_) hs rfl))
  obtain ⟨j,e,q1,q2,q⟩:=q1
  subst e
  cases r1 with
  | cons r rr =>
    cases rr
    obtain ⟨t,rfl⟩:=r
    exact call_range_1 (mI I1 (by omega) (by omega) q1 q2 (by simpa using q))
theorem qD {a b:Expr} {ta:TA} {p pos:Pos} (hg:Gl X "range") (hm:X.mg "range"=none) (ha:PA X [a,b] ta) (hs:starEach [a,b] X.env=[(false,eval a X.env),(false,eval b X.env)]:=by rfl) (hs2:starEach [b] X.env=[(false,eval b X.env)]:=by rfl) :
    PI X tg (.Call (.Name "range" p) [a,b] [] pos) (wC ta):=by
  intro pins s σ H R I h
  refine Call_ (gI I hg hm boot_range (PyProof.Rows.callWith_type1 (thn (ha pos pins s σ H _ I h) fun us s1 ⟨vs,H1,I1,r1,q1⟩=>?_) (by rw [hs,hs2]) (by rw [hs2];rfl)))
  obtain ⟨i,j,e,⟨q1,q2,q3,q4⟩,q⟩:=q1
  subst e
  cases r1 with
  | cons r rr =>
    cases rr with
    | cons r' rr =>
      cases rr
      obtain ⟨t,rfl⟩:=r
      obtain ⟨t',rfl⟩:=r'
      exact call_range_2 (mI I1 q1 q2 q3 q4 q)
noncomputable def tFor (wi:TI) (g:TG) (tb:TS):TS:=fun D σ H=>wi σ H fun J H1=>∃ W:Nat->Nat->St->Hp->Prop,(∃ m,W 0 m σ H1)/\∀ i m σ H,W i m σ H ->
  (J.stop i H/\D.nx σ H)\/(J.go i H/\∃ N:St->Hp->Prop,(∀ σ' H',N σ' H'->∃ m',m' < m/\W (i+1) m' σ' H')/\∀ x H',J.yld i H x H'->g x σ H' fun σ2 H2=>tb { D with nx:=N,ct:=N,bk:=D.nx } σ2 H2)
noncomputable def jS (fp:List Addr) (h:Heap):List (Addr × Obj):=fp.filterMap fun b=>(h.get? b).map fun o=>(b,o)
theorem eZ {fp:List Addr} {h:Heap} {b:Addr} {o:Obj} (hb:b ∈ fp) (e:h.get? b=some o):(b,o) ∈ jS fp h:=List.mem_filterMap.mpr ⟨b,hb,by rw [e];rfl⟩
theorem qJ {fp:List Addr} {h:Heap} {p:Addr × Obj} (hp:p ∈ jS fp h):p.1 ∈ fp/\h.get? p.1=some p.2:=by
  obtain ⟨b,hb,e⟩:=List.mem_filterMap.mp hp
  cases q:h.get? b with
  | none=>rw [q] at e;cases e
  | some o =>
    rw [q] at e
    have e':(b,o)=p:=zx e
    subst e'
    exact ⟨hb,q⟩
theorem Inv.pinned {pins:List (Addr × Obj)} {σ:St} {H:Hp} {s:Shared} {fp:List Addr} (I:Inv X pins σ H s) (hf:∀ b ∈ fp,FpOk X pins H b) (ho:∀ b ∈ fp,∃ o,s.heap.get? b=some o/\∀ v,o.data ≠ .cell v):Inv X (pins ++ jS fp s.heap) σ H s :=
  I.pins_of fun p hp=>(yU.mp hp).elim (fun z=>I.pin p (yQ _ z)) fun z=>by
    obtain ⟨hb,e⟩:=qJ z
    obtain ⟨f0,f1,f2,_⟩:=hf p.1 hb
    obtain ⟨o,e',d⟩:=ho p.1 hb
    rw [e] at e';cases e'
    exact ⟨e,f0,f1,f2,d⟩
theorem Inv.unpinned {pins pl:List (Addr × Obj)} {σ:St} {H:Hp} {s:Shared} (I:Inv X (pins ++ pl) σ H s):Inv X pins σ H s:=I.pins_of fun p hp=>I.pin p (yQ _ (yP _ hp))
set_option tactic.hygienic true in
theorem xy {iter:Expr} {body:List Stmt} {wi:TI} {g:TG} {tb:TS} {pos:Pos} (hp:PassesOwn (model X.prog X.w) X.A X.env X.xe) (hc:X.calm=true) (hi:PI X tg iter wi) (hg:PG X tg g) (hb:PSs X body tb)
    (hs:∀ x,foldedSetIterable iter X.env x=pure x:=by intro _;rfl):PS X (.For tg iter body [] pos) (tFor wi g tb):=by
  intro pins s σ H D I h
  refine wpAny_For (thn (hi pins s σ H _ I h) fun v s1 h1=>thn h1 fun itv s2 h2=>?_) hs
  obtain ⟨it,fp,tn,J,H2,e,I2,T,st2,f2,W,⟨m0,w0⟩,turn⟩:=h2
  subst e
  have stat:∀ {H':Hp},(∀ b ∈ fp,H' b=none)->∀ b ∈ fp,FpOk X pins H' b:=fun hn b hb=>⟨hn b hb,(f2 b hb).2⟩
  refine codeAny_forLoop_any (fun n s'=>∃ i σ' H',Inv X pins σ' H' s'/\tn i s'.heap/\(∀ b ∈ fp,H' b=none)/\W i n σ' H') ?_ m0 ⟨0,σ,H2,I2,st2,fun b hb=>(f2 b hb).1,w0⟩
  rintro n s3 ⟨i,σ3,H3,I3,st3,fr3,w3⟩
  rcases turn i n σ3 H3 w3 with ⟨stop,qn⟩ | ⟨go,N,hN,step⟩
  · refine wpAny_passesOwn hp (thn (T.done X rfl rfl rfl hc i pins s3 σ3 H3 X.xe I3 (stat fr3) st3 stop) fun r s4 ⟨hr,I4⟩=>?_)
    subst hr
    exact wpAny_execs_nil ⟨σ3,H3,I4,qn⟩
  · refine wpAny_passesOwn hp (thn (T.item X rfl rfl rfl hc i pins s3 σ3 H3 X.xe I3 (stat fr3) st3 go) fun r s4 ⟨u,hr,h4⟩=>?_)
    subst hr
    refine wpAny_passesOwn hp (thn h4 fun _ s5 ⟨x,H5,I5,r5,y5,st5,fr5⟩=>?_)
    have I5':=I5.pinned (stat fr5) (T.obj _ _ st5)
    refine wpAny_passesOwn hp (thn (hg _ s5 σ3 H5 x u _ I5' r5 (step x H5 y5)) fun _ s6 ⟨σ6,H6,I6,q6⟩=>?_)
    refine wpAny_passesOwn hp (thn (hb _ s6 σ6 H6 _ I6 q6) fun f s7 q7=>?_)
    have again:∀ {σ7:St} {H7:Hp},Inv X (pins ++ jS fp s5.heap) σ7 H7 s7->N σ7 H7->∃ m,m < n/\∃ i σ' H',Inv X pins σ' H' s7/\tn i s7.heap/\(∀ b ∈ fp,H' b=none)/\W i m σ' H':=fun {σ7 H7} I7 n7=>by
      obtain ⟨m',hm,w7⟩:=hN σ7 H7 n7
      refine ⟨m',hm,i+1,σ7,H7,I7.unpinned,T.keep _ _ _ st5 fun b hb o e=>(I7.pin (b,o) (yQ _ (yQ _ (eZ hb e)))).1,fun b hb=>?_,w7⟩
      obtain ⟨o,e,d⟩:=T.obj _ _ st5 b hb
      exact (I7.pin (b,o) (yQ _ (yQ _ (eZ hb e)))).2.1
    cases f with
    | next=>obtain ⟨σ7,H7,I7,n7⟩:=q7;exact again I7 n7
    | cont=>obtain ⟨σ7,H7,I7,n7⟩:=q7;exact again I7 n7
    | brk=>obtain ⟨σ7,H7,I7,q7⟩:=q7;exact ⟨σ7,H7,I7.unpinned,q7⟩
    | ret v=>obtain ⟨x7,σ7,H7,I7,r7,q7⟩:=q7;exact ⟨x7,σ7,H7,I7.unpinned,r7,q7⟩
end
end L2
namespace L2
open PySem PySem.Spec PyProof.Rows
noncomputable abbrev R2:=V->V->Hp->VK->Prop
noncomputable def OpR (X:Cx) (f:Value->Value->Sem Value) (r:R2):Prop :=
  ∀ (pins:List (Addr × Obj)) (s:Shared) (σ:St) (H:Hp) (x y:V) (v u:Value) (Q:VK),Inv X pins σ H s->RelV x v->RelV y u->r x y H Q ->
    wpAny (model X.prog X.w) X.A (f v u) (EP X pins σ Q) X.xe s
noncomputable def UnR (X:Cx) (f:Value->Sem Value) (r:V->Hp->VK->Prop):Prop :=
  ∀ (pins:List (Addr × Obj)) (s:Shared) (σ:St) (H:Hp) (x:V) (v:Value) (Q:VK),Inv X pins σ H s->RelV x v->r x H Q ->
    wpAny (model X.prog X.w) X.A (f v) (EP X pins σ Q) X.xe s
noncomputable def di (X:Cx) (f:Value) (r:List V->Hp->VK->Prop):Prop :=
  ∀ (pins:List (Addr × Obj)) (s:Shared) (σ:St) (H:Hp) (xs:List V) (us:List Value) (Q:VK),Inv X pins σ H s->Vals xs us->r xs H Q ->
    wpAny (model X.prog X.w) X.A (call f us) (EP X pins σ Q) X.xe s
noncomputable def tOp (r:R2) (ta tb:TE):TE:=fun σ H Q=>ta σ H fun x H1=>tb σ H1 fun y H2=>r x y H2 Q
noncomputable def tUn (r:V->Hp->VK->Prop) (ta:TE):TE:=fun σ H Q=>ta σ H fun x H1=>r x H1 Q
noncomputable def rI (C:Int->Int->Prop) (g:Int->Int->V):R2:=fun x y H Q=>∃ i j,x=.int i/\y=.int j/\C i j/\Q (g i j) H
noncomputable def rI0 (g:Int->Int->V):R2:=fun x y H Q=>∃ i j,x=.int i/\y=.int j/\Q (g i j) H
noncomputable def rU (g:Int->V):V->Hp->VK->Prop:=fun x H Q=>∃ i,x=.int i/\Q (g i) H
section
variable {X:Cx} {a b c:Expr} {ta tb tc:TE} {pos:Pos}
theorem yD (ha:PE X a ta) (hb:PE X b tb) {pins:List (Addr × Obj)} {s:Shared} {σ:St} {H:Hp} {R:V->V->Hp->Prop} (I:Inv X pins σ H s)
    (h:ta σ H fun x H1=>tb σ H1 fun y H2=>R x y H2) {Q:Value->Shared->Prop} {f:Value->Value->Sem Value}
    (hf:∀ v u s2 x y H2,Inv X pins σ H2 s2->RelV x v->RelV y u->R x y H2->wpAny (model X.prog X.w) X.A (f v u) Q X.xe s2) :
    wpAny (model X.prog X.w) X.A (eval a X.env) (fun v s₁=>wpAny (model X.prog X.w) X.A (eval b X.env) (fun u s₂=>wpAny (model X.prog X.w) X.A (f v u) Q X.xe s₂) X.xe s₁) X.xe s:=by
  refine thn (ha pins s σ H _ I h) fun v s1 ⟨x,H1,I1,r1,q1⟩=>?_
  refine thn (hb pins s1 σ H1 _ I1 q1) fun u s2 ⟨y,H2,I2,r2,q2⟩=>?_
  exact hf v u s2 x y H2 I2 r1 r2 q2
theorem pe_op {op:Operator} {r:R2} (ho:OpR X (binaryOp op) r) (ha:PE X a ta) (hb:PE X b tb):PE X (.BinOp a op b pos) (tOp r ta tb):=by
  intro pins s σ H Q I h
  exact wpAny_BinOp (yD ha hb I h fun v u s2 x y H2 I2 rx ry q=>ho pins s2 σ H2 x y v u Q I2 rx ry q)
theorem pe_un {op:UnaryOp} {r:V->Hp->VK->Prop} (ho:UnR X (unaryOp op) r) (ha:PE X a ta):PE X (.UnaryOp op a pos) (tUn r ta):=by
  intro pins s σ H Q I h
  exact UnaryOp_ (thn (ha pins s σ H _ I h) fun v s1 ⟨x,H1,I1,r1,q1⟩=>ho pins s1 σ H1 x v Q I1 r1 q1)
theorem opI {f:Value->Value->Sem Value} {C:Int->Int->Prop} {g:Int->Int->Int}
    (rule:∀ (i j:Int) (t u:Tok) (s:Shared) (Q:Value->Shared->Prop) (E:Value->Shared->Prop),C i j->Q (.int (g i j) s.toks) { s with toks:=s.toks+1 }->wpAny (model X.prog X.w) X.A (f (.int i t) (.int j u)) Q E s) :
    OpR X f (rI C fun i j=>.int (g i j)):=by
  intro pins s σ H x y v u Q I rx ry h
  obtain ⟨i,j,rfl,rfl,hc,q⟩:=h
  obtain ⟨t,rfl⟩:=rx
  obtain ⟨t',rfl⟩:=ry
  exact rule i j t t' s _ _ hc ⟨.int (g i j),H,I.tok _,⟨_,rfl⟩,q⟩
theorem opI0 {f:Value->Value->Sem Value} {g:Int->Int->Int}
    (rule:∀ (i j:Int) (t u:Tok) (s:Shared) (Q:Value->Shared->Prop) (E:Value->Shared->Prop),Q (.int (g i j) s.toks) { s with toks:=s.toks+1 }->wpAny (model X.prog X.w) X.A (f (.int i t) (.int j u)) Q E s) :
    OpR X f (rI0 fun i j=>.int (g i j)):=by
  intro pins s σ H x y v u Q I rx ry h
  obtain ⟨i,j,rfl,rfl,q⟩:=h
  obtain ⟨t,rfl⟩:=rx
  obtain ⟨t',rfl⟩:=ry
  exact rule i j t t' s _ _ ⟨.int (g i j),H,I.tok _,⟨_,rfl⟩,q⟩
theorem xN {f:Value->Value->Sem Value} {g:Int->Int->Bool}
    (rule:∀ (i j:Int) (t u:Tok) (s:Shared) (Q:Value->Shared->Prop) (E:Value->Shared->Prop),Q (.bool (g i j)) s->wpAny (model X.prog X.w) X.A (f (.int i t) (.int j u)) Q E s) :
    OpR X f (rI0 fun i j=>.bl (g i j)):=by
  intro pins s σ H x y v u Q I rx ry h
  obtain ⟨i,j,rfl,rfl,q⟩:=h
  obtain ⟨t,rfl⟩:=rx
  obtain ⟨t',rfl⟩:=ry
  exact rule i j t t' s _ _ ⟨.bl (g i j),H,I,rfl,q⟩
noncomputable def rG (i j:Int):Prop:=0 < j/\j < 1073741824
noncomputable def uz (i j:Int):Prop:=0<=j/\j<=1000000/\i.natAbs < 2 ^ 64
noncomputable def CMul (i j:Int):Prop:=(-(2 ^ 64) < i/\i < 2 ^ 64)\/(-(2 ^ 64) < j/\j < 2 ^ 64)
theorem CMul.ok {i j:Int} (h:CMul i j):IntMulOk i j:=by
  rcases h with ⟨h1,h2⟩ | ⟨h1,h2⟩
  · exact .of_left (intBits_le_64 h1 h2)
  · exact .of_right (intBits_le_64 h1 h2)
theorem op_add:OpR X (binaryOp .Add) (rI0 fun i j=>.int (i+j)):=opI0 fun _ _ _ _ _ _ _ q=>add_int q
theorem cA:OpR X (binaryOp .Sub) (rI0 fun i j=>.int (i - j)):=opI0 fun _ _ _ _ _ _ _ q=>sub_int q
theorem bY:OpR X (binaryOp .Mult) (rI CMul fun i j=>.int (i * j)):=opI fun _ _ _ _ _ _ _ hc q=>mul_int q hc.ok
theorem iD:OpR X (binaryOp .Mod) (rI (fun _ j=>0 < j) fun i j=>.int (i % j)):=opI fun i j _ _ _ _ _ hc q=>by
  have h1:(0:Int) < j:=hc
  exact mod_int' (by omega) (by rw [Int.fmod_eq_emod_of_nonneg i (by omega)];exact q)
theorem sX:OpR X (binaryOp .Pow) (rI uz fun i j=>.int (i ^ j.toNat)):=opI fun _ _ _ _ _ _ _ hc q=>pow_int_small hc.1 hc.2.1 hc.2.2 q
theorem unI {f:Value->Sem Value} {g:Int->Int}
    (rule:∀ (i:Int) (t:Tok) (s:Shared) (Q:Value->Shared->Prop) (E:Value->Shared->Prop),Q (.int (g i) s.toks) { s with toks:=s.toks+1 }->wpAny (model X.prog X.w) X.A (f (.int i t)) Q E s) :
    UnR X f (rU fun i=>.int (g i)):=by
  intro pins s σ H x v Q I rx h
  obtain ⟨i,rfl,q⟩:=h
  obtain ⟨t,rfl⟩:=rx
  exact rule i t s _ _ ⟨.int (g i),H,I.tok _,⟨_,rfl⟩,q⟩
theorem lp:UnR X (unaryOp .USub) (rU fun i=>.int (-i)):=unI fun _ _ _ _ _ q=>neg_int q
end
noncomputable def xi:V->V->Bool
  | .non,.non=>true | .non,.int _=>true | .int _,.non=>true | .non,.bl _=>true | .bl _,.non=>true | .non,.str _=>true | .str _,.non=>true
  | .int _,.int _=>true | .bl _,.bl _=>true | .str _,.str _=>true | .byt _,.byt _=>true
  | .int _,.str _=>true | .str _,.int _=>true | .bl _,.str _=>true | .str _,.bl _=>true
  | _,_=>false
noncomputable def rEq:R2:=fun x y H Q=>xi x y=true/\Q (.bl (decide (x=y))) H
noncomputable def rNe:R2:=fun x y H Q=>xi x y=true/\Q (.bl (!decide (x=y))) H
theorem qb {i j:Int}:decide (V.int i=V.int j)=(i == j):=by
  rw [Bool.eq_iff_iff]
  simp
theorem t7 {i j:Bool}:decide (V.bl i=V.bl j)=(i == j):=by
  rw [Bool.eq_iff_iff]
  simp
theorem qa {i j:Str}:decide (V.str i=V.str j)=(i == j):=by
  rw [Bool.eq_iff_iff]
  simp
theorem qc {i j:Array UInt8}:decide (V.byt i=V.byt j)=(i.toList == j.toList):=by
  rw [Bool.eq_iff_iff]
  cases i
  cases j
  simp
section
variable {X:Cx} {a b c:Expr} {ta tb tc:TE} {pos:Pos}
theorem aN {pins:List (Addr × Obj)} {σ:St} {H:Hp} {s:Shared} {Q:VK} {k k':Bool} (I:Inv X pins σ H s) (q:Q (.bl k) H) (e:k=k'):EP X pins σ Q (.bool k') s:=by
  subst e
  exact ⟨.bl k,H,I,rfl,q⟩
theorem op_eq:OpR X (compareOp .Eq) rEq:=by
  intro pins s σ H x y v u Q I rx ry h
  obtain ⟨hs,q⟩:=h
  cases x with
  | non =>
    cases rx
    cases y with
    | non=>cases ry;exact PySem.EqNone.eq_none_none (aN I q (by simp))
    | bl j=>cases ry;exact PySem.EqNone.eq_none_bool (aN I q (by simp))
    | int j=>obtain ⟨t',rfl⟩:=ry;exact PySem.EqNone.eq_none_int (aN I q (by simp))
    | str j=>obtain ⟨t',rfl⟩:=ry;exact PySem.EqNone.eq_none_str (aN I q (by simp))
    | _=>exact absurd (show false=true from hs) y9
  | bl i =>
    cases rx
    cases y with
    | non=>cases ry;exact PySem.EqNone.eq_bool_none (aN I q (by simp))
    | bl j=>cases ry;exact eq_bool (aN I q t7)
    | str j=>obtain ⟨t',rfl⟩:=ry;exact PySem.EqMixed.eq_bool_str (aN I q (by simp))
    | _=>exact absurd (show false=true from hs) y9
  | int i =>
    obtain ⟨t,rfl⟩:=rx
    cases y with
    | non=>cases ry;exact PySem.EqNone.eq_int_none (aN I q (by simp))
    | int j=>obtain ⟨t',rfl⟩:=ry;exact eq_int (aN I q qb)
    | str j=>obtain ⟨t',rfl⟩:=ry;exact PySem.EqMixed.eq_int_str (aN I q (by simp))
    | _=>exact absurd (show false=true from hs) y9
  | str i =>
    obtain ⟨t,rfl⟩:=rx
    cases y with
    | non=>cases ry;exact PySem.EqNone.eq_str_none (aN I q (by simp))
    | bl j=>cases ry;exact PySem.EqMixed.eq_str_bool (aN I q (by simp))
    | int j=>obtain ⟨t',rfl⟩:=ry;exact PySem.EqMixed.eq_str_int (aN I q (by simp))
    | str j=>obtain ⟨t',rfl⟩:=ry;exact eq_str (aN I q qa)
    | _=>exact absurd (show false=true from hs) y9
  | byt i =>
    obtain ⟨t,rfl⟩:=rx
    cases y with
    | byt j=>obtain ⟨t',rfl⟩:=ry;exact PySem.W.eq_bytes (aN I q qc)
    | _=>exact absurd (show false=true from hs) y9
  | _=>cases y <;> exact absurd (show false=true from hs) y9
theorem op_ne:OpR X (compareOp .NotEq) rNe:=by
  intro pins s σ H x y v u Q I rx ry h
  obtain ⟨hs,q⟩:=h
  cases x with
  | non =>
    cases rx
    cases y with
    | non=>cases ry;exact PySem.EqNone.ne_none_none (aN I q (by simp))
    | bl j=>cases ry;exact PySem.EqNone.ne_none_bool (aN I q (by simp))
    | int j=>obtain ⟨t',rfl⟩:=ry;exact PySem.EqNone.ne_none_int (aN I q (by simp))
    | str j=>obtain ⟨t',rfl⟩:=ry;exact PySem.EqNone.ne_none_str (aN I q (by simp))
    | _=>exact absurd (show false=true from hs) y9
  | bl i =>
    cases rx
    cases y with
    | non=>cases ry;exact PySem.EqNone.ne_bool_none (aN I q (by simp))
    | bl j=>cases ry;exact ne_bool (aN I q (congrArg not t7))
    | str j=>obtain ⟨t',rfl⟩:=ry;exact PySem.EqMixed.ne_bool_str (aN I q (by simp))
    | _=>exact absurd (show false=true from hs) y9
  | int i =>
    obtain ⟨t,rfl⟩:=rx
    cases y with
    | non=>cases ry;exact PySem.EqNone.ne_int_none (aN I q (by simp))
    | int j=>obtain ⟨t',rfl⟩:=ry;exact ne_int (aN I q (congrArg not qb))
    | str j=>obtain ⟨t',rfl⟩:=ry;exact PySem.EqMixed.ne_int_str (aN I q (by simp))
    | _=>exact absurd (show false=true from hs) y9
  | str i =>
    obtain ⟨t,rfl⟩:=rx
    cases y with
    | non=>cases ry;exact PySem.EqNone.ne_str_none (aN I q (by simp))
    | bl j=>cases ry;exact PySem.EqMixed.ne_str_bool (aN I q (by simp))
    | int j=>obtain ⟨t',rfl⟩:=ry;exact PySem.EqMixed.ne_str_int (aN I q (by simp))
    | str j=>obtain ⟨t',rfl⟩:=ry;exact ne_str (aN I q (congrArg not qa))
    | _=>exact absurd (show false=true from hs) y9
  | byt i =>
    obtain ⟨t,rfl⟩:=rx
    cases y with
    | byt j=>obtain ⟨t',rfl⟩:=ry;exact PySem.W.ne_bytes (aN I q (congrArg not qc))
    | _=>exact absurd (show false=true from hs) y9
  | _=>cases y <;> exact absurd (show false=true from hs) y9
theorem jU:OpR X (compareOp .Lt) (rI0 fun i j=>.bl (decide (i < j))):=xN fun _ _ _ _ _ _ _ q=>lt_int q
theorem kZ:OpR X (compareOp .LtE) (rI0 fun i j=>.bl (decide (i<=j))):=xN fun _ _ _ _ _ _ _ q=>le_int q
theorem pF:OpR X (compareOp .Gt) (rI0 fun i j=>.bl (decide (j < i))):=xN fun _ _ _ _ _ _ _ q=>gt_int q
theorem xL : OpR X (compareOp .Is) (fun x y H Q => y = .non /\ Q (.bl (decide (x = .non))) H) := by
  intro pins s σ H x y v u Q I rx ry h
  obtain ⟨rfl, q⟩ := h
  cases ry
  refine is_none_gen (aN I q ?_)
  cases x <;> first
    | (cases rx; rfl)
    | (obtain ⟨t, rfl⟩ := rx; rfl)
theorem OpR.or {f:Value->Value->Sem Value} {r r':R2} (h:OpR X f r) (h':OpR X f r'):OpR X f (fun x y H Q=>r x y H Q\/r' x y H Q):=by
  intro pins s σ H x y v u Q I rx ry q
  rcases q with q | q
  · exact h pins s σ H x y v u Q I rx ry q
  · exact h' pins s σ H x y v u Q I rx ry q
theorem bc (b : Expr) {op : CmpOp} (h : op ≠ .In := by decide) (h2 : op ≠ .NotIn := by decide) : behindInMarks op b = false := by
  have e1 : (op == CmpOp.In) = false := by cases op <;> first | rfl | exact absurd rfl h
  have e2 : (op == CmpOp.NotIn) = false := by cases op <;> first | rfl | exact absurd rfl h2
  cases b <;> simp [behindInMarks, e1, e2]
theorem vx {op:CmpOp} {r:R2} (ho:OpR X (compareOp op) r) (ha:PE X a ta) (hb:PE X b tb) (hm:behindInMarks op b=false):PE X (.Compare a [op] [b] pos) (tOp r ta tb):=by
  intro pins s σ H Q I h
  exact wpAny_Compare1 (yD ha hb I h fun v u s2 x y H2 I2 rx ry q=>ho pins s2 σ H2 x y v u Q I2 rx ry q) hm
noncomputable def tTest (t:TE):TT:=fun σ H Q=>t σ H fun x H'=>∃ k,x=.bl k/\Q k H'
theorem vi {op:CmpOp} {r:R2} (ho:OpR X (compareOp op) r) (ha:PE X a ta) (hb:PE X b tb) (hm:behindInMarks op b=false):PT X (.Compare a [op] [b] pos) (tTest (tOp r ta tb)):=by
  intro pins s σ H Q I h
  refine wpAny_isTrue_Compare1 (thn (ha pins s σ H _ I h) fun v s1 ⟨x,H1,I1,r1,q1⟩=>thn (hb pins s1 σ H1 _ I1 q1) fun u s2 ⟨y,H2,I2,r2,q2⟩ =>
    thn (ho pins s2 σ H2 x y v u _ I2 r1 r2 q2) fun c s3 ⟨z,H3,I3,r3,k,e,q3⟩=>?_) hm
  subst e
  cases r3
  exact zu ⟨H3,I3,q3⟩
noncomputable def nX (r r':R2) (ta tb tc:TE):TE:=fun σ H Q=>ta σ H fun x H1=>tb σ H1 fun y H2=>r x y H2 fun z H3=>∃ k,z=.bl k /\
  (if k=true then tc σ H3 fun w' H4=>r' y w' H4 Q else Q (.bl false) H3)
theorem mK {op op':CmpOp} {r r':R2} (ho:OpR X (compareOp op) r) (ho':OpR X (compareOp op') r') (ha:PE X a ta) (hb:PE X b tb) (hc:PE X c tc)
    (hm:lastMarks [op,op'] [b,c]=false:=by with_unfolding_all rfl):PE X (.Compare a [op,op'] [b,c] pos) (nX r r' ta tb tc):=by
  intro pins s σ H Q I h
  refine Compare_chain (thn (ha pins s σ H _ I h) fun v s1 ⟨x,H1,I1,r1,q1⟩=>chain_link (thn (hb pins s1 σ H1 _ I1 q1) fun u s2 ⟨y,H2,I2,r2,q2⟩ =>
    thn (ho pins s2 σ H2 x y v u _ I2 r1 r2 q2) fun d s3 ⟨z,H3,I3,r3,k,e,q3⟩=>?_)) hm
  subst e
  cases r3
  refine zu ?_
  cases k with
  | false=>exact ite_ff ⟨.bl false,H3,I3,rfl,q3⟩
  | true=>exact ite_tt (chain_last (thn (hc pins s3 σ H3 _ I3 q3) fun w' s4 ⟨z',H4,I4,r4,q4⟩=>ho' pins s4 σ H4 y z' u w' Q I4 r2 r4 q4))
theorem lK:(sizeLine:Nat) < 2 ^ 63:=by rw [sizeLine_eq];decide
theorem op_add_str:OpR X (binaryOp .Add) (fun x y H Q=>∃ i j,x=.str i/\y=.str j/\i.length+j.length<=sizeLine/\Q (.str (i ++ j)) H):=by
  intro pins s σ H x y v u Q I rx ry h
  obtain ⟨i,j,rfl,rfl,hz,q⟩:=h
  obtain ⟨t,rfl⟩:=rx
  obtain ⟨t',rfl⟩:=ry
  exact add_str (fun t' tk=>⟨.str (i ++ j),H,I.tok _,⟨_,rfl⟩,q⟩) hz
theorem mh {x:V} {us:List Value} (r:Vals [x] us):∃ u,us=[u]/\RelV x u:=by
  cases r with
  | cons r1 r2=>cases r2;exact ⟨_,rfl,r1⟩
theorem jE {x y:V} {us:List Value} (r:Vals [x,y] us):∃ u w',us=[u,w']/\RelV x u/\RelV y w':=by
  cases r with
  | cons r1 r2 =>
    cases r2 with
    | cons r3 r4=>cases r4;exact ⟨_,_,rfl,r1,r3⟩
theorem rn (hc:X.calm=true):di X (.builtin "max") (fun xs H Q=>∃ i j,xs=[.int i,.int j]/\Q (.int (if j > i then j else i)) H):=by
  intro pins s σ H xs us Q I r h
  obtain ⟨i,j,rfl,q⟩:=h
  obtain ⟨u,w',rfl,⟨t,rfl⟩,⟨t',rfl⟩⟩:=jE r
  refine max_two_ints (I.ok.hd hc) fun h' tk k=>⟨_,H,I.kept k,?_,q⟩
  by_cases hj:j > i
  · rw [if_pos hj,if_pos hj];exact ⟨_,rfl⟩
  · rw [if_neg hj,if_neg hj];exact ⟨_,rfl⟩
theorem rm (hc:X.calm=true):di X (.builtin "min") (fun xs H Q=>∃ i j,xs=[.int i,.int j]/\Q (.int (if j < i then j else i)) H):=by
  intro pins s σ H xs us Q I r h
  obtain ⟨i,j,rfl,q⟩:=h
  obtain ⟨u,w',rfl,⟨t,rfl⟩,⟨t',rfl⟩⟩:=jE r
  refine min_two_ints (I.ok.hd hc) fun h' tk k=>⟨_,H,I.kept k,?_,q⟩
  by_cases hj:j < i
  · rw [if_pos hj,if_pos hj];exact ⟨_,rfl⟩
  · rw [if_neg hj,if_neg hj];exact ⟨_,rfl⟩
theorem nF:di X (.builtin "divmod") (fun xs H Q=>∃ i j,xs=[.int i,.int j]/\rG i j/\∀ p,H p=none->Q (.ref p) (upd H p (.tup [.int (i / j),.int (i % j)]))):=by
  intro pins s σ H xs us Q I r h
  obtain ⟨i,j,rfl,⟨h1,h2⟩,q⟩:=h
  obtain ⟨u,w',rfl,⟨t,rfl⟩,⟨t',rfl⟩⟩:=jE r
  refine divmod_int (by omega) ?_ (.inl (PyProof.noPylong_small (by omega)))
  rw [Int.fdiv_eq_ediv_of_nonneg i (by omega),Int.fmod_eq_emod_of_nonneg i (by omega)]
  have hn:H s.heap.objs.size=none:=I.hok.fresh (y8 _)
  refine ⟨.ref s.heap.objs.size,_,?_,rfl,q _ hn⟩
  refine I.laid (fun b o e=>yN _ e) (y8 _) ⟨by simp only [zj,List.length_nil];rw [sizeLine_eq];decide,[.int (i / j) s.toks,.int (i % j) (s.toks+1)],.cons ⟨_,rfl⟩ (.cons ⟨_,rfl⟩ .nil),?_⟩
  exact ⟨_,yV s.heap rfl,rfl,0,rfl⟩
end
end L2
namespace L2
open PySem PySem.Spec PyProof.Rows
theorem RelO.some_of {v:V} {o:Option Value} (r:RelO (some v) o):∃ u,o=some u/\RelV v u:=by
  cases o with
  | none=>exact (show False from r).elim
  | some u=>exact ⟨u,rfl,r⟩
end L2
namespace L2
open PySem PySem.Spec PyProof.Rows
structure Room (k:Nat) (A:Around):Prop where
  hd:A.handled=none
  dp:A.depth+3 * k+5 < recursionLimit
  un:A.units+16 * k+200 < cLine
  gd:A.guards=some []
theorem Room.mono {j k:Nat} {A:Around} (r:Room k A) (h:j<=k):Room j A:=⟨r.hd,by have:=r.dp;omega,by have:=r.un;omega,r.gd⟩
theorem Room.deeper {k:Nat} {A:Around} (r:Room (k+1) A) (env:Env):Room k (A.deeper env) :=
  ⟨r.hd,by have:=r.dp;show A.depth+1+3 * k+5 < _;omega,by have:=r.un;show A.units+3+16 * k+200 < _;omega,r.gd⟩
theorem Room.depth {k:Nat} {A:Around} (r:Room k A):A.depth < recursionLimit:=by have:=r.dp;omega
theorem Room.units {k:Nat} {A:Around} (r:Room k A):A.units+64 < cLine:=by have:=r.un;omega
noncomputable def tNil:TA:=fun _ H Q=>Q [] H
noncomputable def wm (ta:TE) (tr:TA):TA:=fun σ H Q=>ta σ H fun x H1=>tr σ H1 fun xs H2=>Q (x :: xs) H2
section
variable {X:Cx} {e:Expr} {es:List Expr} {te:TE} {t:TA} {pos:Pos}
theorem sT:PA X [] tNil:=fun _ _ _ _ H Q I h=>Calls.spliced_nil ⟨[],H,I,.nil,h⟩
theorem lF (ha:PE X e te) (hr:PA X es t) (hs:starEach (e :: es) X.env=(false,eval e X.env) :: starEach es X.env:=by rfl):PA X (e :: es) (wm te t):=by
  intro pos pins s σ H Q I h
  rw [hs]
  show wpAny _ _ (spliced ((false,eval e X.env) :: backTo pos (starEach es X.env))) _ _ s
  refine Calls.spliced_cons (thn (ha pins s σ H _ I h) fun u s1 ⟨x,H1,I1,r1,q1⟩=>?_)
  exact thn (hr pos pins s1 σ H1 _ I1 q1) fun us s2 ⟨xs,H2,I2,r2,q2⟩=>⟨x :: xs,H2,I2,.cons r1 r2,q2⟩
noncomputable def tTup (t:TA):TE:=fun σ H Q=>t σ H fun xs H1=>xs.length<=sizeLine/\∀ p,H1 p=none->Q (.ref p) (upd H1 p (.tup xs))
noncomputable def tLst (t:TA):TE:=fun σ H Q=>t σ H fun xs H1=>xs.length<=sizeLine/\∀ p,H1 p=none->Q (.ref p) (upd H1 p (.lst xs))
theorem xC {x1} (h:PA X es t):PE X (.Tuple es x1 pos) (tTup t):=by
  intro pins s σ H Q I hq
  refine wpAny_Tuple_spliced (thn (h pos pins s σ H _ I hq) fun us s1 ⟨xs,H1,I1,r,z,q⟩=>⟨by rw [<- r.length];exact z,?_⟩)
  have hf:H1 s1.heap.objs.size=none:=I1.hok.fresh (y8 _)
  refine ⟨.ref s1.heap.objs.size,upd H1 s1.heap.objs.size (.tup xs),I1.laid (t':=s1.toks) (fun b u e=>yN _ e) (y8 _) ?_,rfl,q _ hf⟩
  exact ⟨z,us,r,⟨_,yV _ rfl,rfl,_,rfl⟩⟩
theorem xG (h:PA X es t):PE X (.List es pos) (tLst t):=by
  intro pins s σ H Q I hq
  refine wpAny_List_spliced (thn (h pos pins s σ H _ I hq) fun us s1 ⟨xs,H1,I1,r,z,q⟩=>⟨by rw [<- r.length];exact z,?_⟩)
  have hf:H1 s1.heap.objs.size=none:=I1.hok.fresh (y8 _)
  refine ⟨.ref s1.heap.objs.size,upd H1 s1.heap.objs.size (.lst xs),I1.laid (t':=s1.toks) (fun b u e=>yN _ e) (y8 _) ?_,rfl,q _ hf⟩
  exact ⟨z,us,0,r,yV _ rfl⟩
end
noncomputable abbrev Sp:=List V->Hp->VK->XK->Prop
noncomputable abbrev CXT:=List Env->Hp->Shared->XK->Value->Shared->Prop
structure Env0 (P:Program) (w:World) (K:FG) (mg:Str->Option Value) (base:Heap) (A:Around) (outer:List Env) (s:Shared) (H:Hp):Prop where
  frames:A.frames=some outer
  mod:Mod K mg base
  bs:∀ b o,base.get? b=some o->s.heap.get? b=some o/\H b=none
  bsz:base.objs.size<=s.heap.objs.size
  funs:s.heap.FunFrames base outer
  frf:∀ b ∈ frs outer,H b=none
  hok:HOk P w H s.heap
  bare:AllBare s.gens
noncomputable def CE (outer:List Env) (P:Program) (w:World) (H:Hp) (s:Shared) (Q:VK) (u:Value) (s':Shared):Prop :=
  ∃ v H',s'.os=s.os/\AllBare s'.gens/\Un (frs outer) [] H H' s.heap s'.heap/\HOk P w H' s'.heap/\RelV v u/\Q v H'
noncomputable def CR (CX:CXT) (outer:List Env) (P:Program) (w:World) (H:Hp) (s:Shared) (Q:VK) (E:XK) (r:Result) (s':Shared):Prop :=
  match r with
  | .ok (.ret u)=>CE outer P w H s Q u s'
  | .ok _=>False
  | .error e=>CX outer H s E e s'
structure FnOk (P:Program) (w:World) (K:FG) (mg:Str->Option Value) (base:Heap) (CX:CXT) (k:Nat) (f:Addr) (fd:FuncData) (ps:List Str) (sp:Sp):Prop where
  len:∀ vs H Q E,sp vs H Q E->vs.length=ps.length
  run:∀ (A:Around) (outer:List Env) (s:Shared) (H:Hp) (args:Args) (us:List Value) (vs:List V) (Q:VK) (E:XK),Room k A->Env0 P w K mg base A outer s H->BindsTo s fd args (ps.zip us)->Vals vs us->sp vs H Q E ->
    codeAny (model P w) A (.call (.ref f) args) (CR CX outer P w H s Q E) s
theorem FnOk.imp {P:Program} {w:World} {K:FG} {mg:Str->Option Value} {base:Heap} {CX:CXT} {k:Nat} {f:Addr} {fd:FuncData} {ps:List Str} {sp sp':Sp} (F:FnOk P w K mg base CX k f fd ps sp)
    (h:∀ vs H Q E,sp' vs H Q E->sp vs H Q E):FnOk P w K mg base CX k f fd ps sp' :=
  ⟨fun vs H Q E q=>F.len vs H Q E (h _ _ _ _ q),fun A outer s H args us vs Q E hr he hb hv hs=>F.run A outer s H args us vs Q E hr he hb hv (h _ _ _ _ hs)⟩
section
variable {X:Cx} {pins:List (Addr × Obj)} {σ:St} {H:Hp} {s s':Shared}
theorem Inv.env0 (I:Inv X pins σ H s):Env0 X.prog X.w X.K X.mg X.base X.A X.stack s H :=
  ⟨I.ok.frames,I.ok.mod,I.bs,zv I.ok.bsz I.sz,I.stack,I.stkFree,I.hok,I.bare⟩
theorem Inv.after {Q:VK} {u:Value} (I:Inv X pins σ H s) (h:CE X.stack X.prog X.w H s Q u s'):EP X pins σ Q u s':=by
  obtain ⟨v,H',os,bare,un,hok,r,q⟩:=h
  obtain ⟨hh,g,d,t,os'⟩:=s'
  obtain rfl:os'=s.os:=os
  exact ⟨v,H',I.call (h':=hh) (g':=g) (d':=d) (t':=t) (ch:=[]) un hok bare (fun b z=>absurd z (by simp)),r,q⟩
end
noncomputable def tCall (sp:Sp) (dvs:List V) (E:XK) (t:TA):TE:=fun σ H Q=>t σ H fun vs H1=>sp (vs ++ dvs) H1 Q E
noncomputable def Binds (K:FG) (fd:FuncData) (ps:List Str) (ds:List Value):Prop :=
  ∀ (s:Shared) (us:List Value),K.In s.heap->(us ++ ds).length=ps.length->BindsTo s fd ⟨us,[]⟩ (ps.zip (us ++ ds))
theorem Binds.all {K:FG} {fd:FuncData} {ps:List Str} (h:∀ us:List Value,us.length=ps.length->bindArgs fd ⟨us,[]⟩=pure (ps.zip us)):Binds K fd ps []:=fun s us _ hl=>by
  rw [List.append_nil] at hl ⊢
  exact .of_eq (h us hl)
noncomputable def o5 (CX:CXT) (X:Cx) (E:XK):Prop:=∀ (pins:List (Addr × Obj)) (σ:St) (H:Hp) (s:Shared) (e:Value) (s':Shared),Inv X pins σ H s->CX X.stack H s E e s'->X.xe e s'
section
variable {X:Cx} {CX:CXT} {k:Nat} {f C:Addr} {fd:FuncData} {ps:List Str} {sp:Sp} {dvs:List V} {ds:List Value} {E:XK} {x m:Str} {p pos apos:Pos} {e o:Expr} {es:List Expr} {ta:TE} {t:TA}
set_option tactic.hygienic true in
theorem xl {pins:List (Addr × Obj)} {σ:St} {H:Hp} {s:Shared} {Q:VK} {us:List Value} {vs:List V} (F:FnOk X.prog X.w X.K X.mg X.base CX k f fd ps sp) (hr:Room k X.A) (hb:Binds X.K fd ps ds) (hd:Vals dvs ds) (hx:o5 CX X E)
    (I:Inv X pins σ H s) (r:Vals vs us) (h:sp (vs ++ dvs) H Q E):wpAny (model X.prog X.w) X.A (call (.ref f) us) (EP X pins σ Q) X.xe s:=by
  have r2:Vals (vs ++ dvs) (us ++ ds):=r.append hd
  have hl:(us ++ ds).length=ps.length:=by rw [<- r2.length];exact F.len _ _ _ _ h
  refine wpAny_call (codeAny_mono (F.run X.A X.stack s H ⟨us,[]⟩ (us ++ ds) (vs ++ dvs) Q E hr I.env0 (hb s us I.kIn hl) r2 h) fun r s' hq=>?_)
  cases r with
  | error e=>exact hx pins σ H s e s' I hq
  | ok fl =>
    cases fl with
    | ret u=>exact I.after hq
    | next=>exact False.elim hq
    | brk=>exact False.elim hq
    | cont=>exact False.elim hq
theorem vy (F:FnOk X.prog X.w X.K X.mg X.base CX k f fd ps sp) (hr:Room k X.A) (hg:Gl X x) (hm:X.mg x=some (.ref f)) (hk:PySem.W.keepIn X.K (.ref f)=true) (hb:Binds X.K fd ps ds) (hd:Vals dvs ds) (hx:o5 CX X E)
    (ha:PA X (e :: es) t) (hdb:(x == ("__debug__":Str))=false:=by decide) (he:starEach (e :: es) X.env=(false,eval e X.env) :: starEach es X.env:=by rfl) (hpl:(backTo pos (starEach es X.env)).any (·.1)=false:=by rfl) :
    PE X (.Call (.Name x p) (e :: es) [] pos) (tCall sp dvs E t):=by
  intro pins s σ H Q I h
  refine wpAny_Call_Name_kw (pP I hg hm ?_ hdb)
  refine PySem.W.callWith_K (h₀:=X.base) I.ok.mod.kin hk (thn (ha pos pins s σ H _ I h) fun us s1 ⟨vs,H1,I1,r,q⟩=>⟨I1.kIn,?_⟩) he hpl
  exact xl F hr hb hd hx I1 r q
end
structure FnScope (N P:List Str) (sc:Scope):Prop where
  kind:sc.kind=.function
  co:sc.isCoroutine=false
  gen:sc.isGenerator=false
  nd:N.Nodup
  pre:N.take P.length=P
  par:∀ x ∈ P,sc.names.lookup x=some .local\/sc.names.lookup x=some .cell
  nofree:∀ y ∈ sc.names,y.2 ≠ .free
theorem lh {kindOf:Str->Option NameKind} {x:Str}:∀ {binds:List (Str × Value)} {m:Str->Option Value},(∀ v,(x,v) ∉ binds)->bindL kindOf binds m x=m x
  | [],_,_=>rfl
  | (n,v) :: r,m,h=>by
    unfold bindL
    rw [lh fun w hw=>h w (yM _ hw)]
    split
    · have:x ≠ n:=by rintro rfl;exact h v yK
      simp [this]
    · rfl
theorem lj {kindOf:Str->Option NameKind} {x:Str}:∀ {binds:List (Str × Value)} {m:Str->Option Value},(∀ v,(x,v) ∉ binds)->bindC kindOf binds m x=m x
  | [],_,_=>rfl
  | (n,v) :: r,m,h=>by
    unfold bindC
    rw [lj fun w hw=>h w (yM _ hw)]
    split
    · rfl
    · have:x ≠ n:=by rintro rfl;exact h v yK
      simp [this]
theorem li {kindOf:Str->Option NameKind} {x:Str} {v:Value}:∀ {P:List Str} {vs:List Value} {i:Nat} {m:Str->Option Value},P.Nodup->P[i]?=some x->vs[i]?=some v->kindOf x=some .local ->
    bindL kindOf (P.zip vs) m x=some v
  | [],_,_,_,_,h,_,_=>by simp at h
  | _ :: _,[],_,_,_,_,h,_=>by simp at h
  | p :: P,w :: vs,0,m,nd,h1,h2,hk=>by
    simp at h1 h2;subst h1;subst h2
    show bindL kindOf ((p,w) :: P.zip vs) m p=_
    unfold bindL
    rw [lh fun v hv=>(List.nodup_cons.mp nd).1 (List.of_mem_zip hv).1,if_pos hk]
    simp
  | p :: P,w :: vs,i+1,m,nd,h1,h2,hk=>by
    show bindL kindOf ((p,w) :: P.zip vs) m x=_
    unfold bindL
    exact li (i:=i) (List.nodup_cons.mp nd).2 (by simpa using h1) (by simpa using h2) hk
theorem ll {kindOf:Str->Option NameKind} {x:Str} {v:Value}:∀ {P:List Str} {vs:List Value} {i:Nat} {m:Str->Option Value},P.Nodup->P[i]?=some x->vs[i]?=some v->kindOf x ≠ some .local ->
    bindC kindOf (P.zip vs) m x=some v
  | [],_,_,_,_,h,_,_=>by simp at h
  | _ :: _,[],_,_,_,_,h,_=>by simp at h
  | p :: P,w :: vs,0,m,nd,h1,h2,hk=>by
    simp at h1 h2;subst h1;subst h2
    show bindC kindOf ((p,w) :: P.zip vs) m p=_
    unfold bindC
    rw [lj fun v hv=>(List.nodup_cons.mp nd).1 (List.of_mem_zip hv).1,if_neg hk]
    simp
  | p :: P,w :: vs,i+1,m,nd,h1,h2,hk=>by
    show bindC kindOf ((p,w) :: P.zip vs) m x=_
    unfold bindC
    exact ll (i:=i) (List.nodup_cons.mp nd).2 (by simpa using h1) (by simpa using h2) hk
noncomputable def iU (N:List Str) (vs:List V):St:=vs.map some ++ List.replicate (N.length - vs.length) none
noncomputable def nv (CX:CXT) (P:Program) (w:World) (K:FG) (mg:Str->Option Value) (base:Heap) (N:List Str) (qual:Str) (scope:Scope) (f:Addr) (cd:Value) (A:Around) (outer:List Env) (s:Shared) (H:Hp) (E:XK):Cx where
  prog:=P
  w:=w
  K:=K
  mg:=mg
  base:=base
  A:=A.deeper (envOfC qual scope s.heap.objs.size f cd)
  N:=N
  s₀:=s
  H₀:=H
  env:=envOfC qual scope s.heap.objs.size f cd
  outer:=outer
  stack:=envOfC qual scope s.heap.objs.size f cd :: outer
  ex:=[]
  calm:=true
  fn:=fun _=>true
  pn:=[]
  xe:=fun e s'=>wpAny (model P w) (A.deeper (envOfC qual scope s.heap.objs.size f cd)) (leaving (envOfC qual scope s.heap.objs.size f cd) e) (fun _ s''=>CX outer H s E e s'') (fun e' s''=>CX outer H s E e' s'') s'
theorem nD {sc:Scope} {n:Nat} {x:Str} (h:sc.names.lookup x=some .cell):∃ c,(cellsFrom n sc.names []).lookup x=some c:=by
  have q:=PySem.W.cellsFrom_some sc.names n [] (.inl h)
  exact Option.isSome_iff_exists.mp q
theorem qY {CX:CXT} {P:Program} {w:World} {K:FG} {mg:Str->Option Value} {base:Heap} {N ps:List Str} {qual:Str} {scope:Scope} {f:Addr} {cd:Value} {A:Around} {outer:List Env} {s s1:Shared} {H:Hp} {E:XK} {us:List Value} {vs:List V}
    (S:FnScope N ps scope) (hd:A.handled=none) (e0:Env0 P w K mg base A outer s H) (hl:vs.length=ps.length) (r:Vals vs us)
    (x:InCallC s s.heap.objs.size (bindL (envOfC qual scope s.heap.objs.size f cd).kindOf (ps.zip us) fun _=>none) (cellsFrom (s.heap.objs.size+1) scope.names []) (bindC (envOfC qual scope s.heap.objs.size f cd).kindOf (ps.zip us) fun _=>none) s1) :
    Inv (nv CX P w K mg base N qual scope f cd A outer s H E) [] (iU N vs) H s1:=by
  have hpl:ps.length<=N.length:=by have:=congrArg List.length S.pre;rw [zk] at this;omega
  obtain ⟨h1,tk,rfl,hk⟩:=x.done
  have noA:∀ b:Addr,b ∉ (nv CX P w K mg base N qual scope f cd A outer s H E).ex:=fun b z=>absurd (show b ∈ ([]:List Addr) from z) (by simp)
  refine ⟨⟨e0.mod,S.kind,rfl,rfl,y8 _,fun y z c h1 h2=>?_,fun y hy=>?_,fun y c _ h=>?_,fun _=>hd,Around.frames_deeper e0.frames,.inr ⟨rfl,rfl⟩,fun b z=>absurd z (noA b),e0.bs,e0.bsz,fun b _ _=>noA b,fun b z=>absurd z (noA b),e0.funs,e0.frf⟩,
    rfl,e0.bare,Un.kept hk,⟨_,x.toInCall.ns,fun i y v h1 h2 h3=>?_⟩,fun y c h=>⟨_,x.cell y c h⟩,e0.hok.fresh (y8 _),fun y c h=>?_,fun p hp=>absurd (show p ∈ ([]:List (Addr × Obj)) from hp) (by simp),e0.hok.kept hk,?_⟩
  · exact name_of_addr x.apart (PySem.mem_of_lookup h1) (PySem.mem_of_lookup h2)
  · have hy:scope.names.lookup y=some .cell\/scope.names.lookup y=some .free:=hy
    rcases hy with hy | hy
    · exact nD hy
    · exact absurd rfl (S.nofree _ (PySem.mem_of_lookup hy))
  · exact Nat.le_of_lt (x.above y c (PySem.mem_of_lookup h))
  · have hi:i < vs.length:=by
      unfold iU at h2
      by_cases hi:i < vs.length
      · exact hi
      · rw [List.getElem?_append_right (by simpa using hi)] at h2
        rw [List.getElem?_replicate] at h2
        split at h2 <;> cases h2
    have ha:vs[i]?=some v:=by
      unfold iU at h2
      rw [zr (by simpa using hi),y7] at h2
      cases e:vs[i]? with
      | none=>rw [e] at h2;cases h2
      | some a=>rw [e] at h2;cases h2;rfl
    obtain ⟨u,hu,rv⟩:=r.get ha
    have hp:ps[i]?=some y:=by
      rw [<- S.pre,List.getElem?_take_of_lt (by omega)];exact h1
    have ndP:ps.Nodup:=by rw [<- S.pre];exact S.nd.sublist (List.take_sublist _ _)
    refine ⟨u,rv,?_⟩
    rcases S.par y (yY hp) with k | k
    · exact .inl ⟨k,li ndP hp hu k⟩
    · obtain ⟨c,e⟩:=nD (n:=s.heap.objs.size+1) k
      refine .inr ⟨.inl k,c,e,?_⟩
      have q:=x.cell y c e
      rw [ll ndP hp hu (by show scope.names.lookup y ≠ _;rw [k];decide)] at q
      exact q
  · exact e0.hok.fresh (Nat.le_of_lt (x.above y c (PySem.mem_of_lookup h)))
  · unfold iU
    show _=N.length
    rw [zi,yW,List.length_replicate]
    omega
set_option tactic.hygienic true in
theorem fn_of {CX:CXT} {P:Program} {w:World} {K:FG} {mg:Str->Option Value} {base:Heap} {k:Nat} {f:Addr} {name qual:Str} {params:Arguments} {body:List Stmt} {scope:Scope} {dV kV doc pm cdv ct oc:Value} {an od:Option Addr}
    {osl:Array (Option Value)} {N ps:List Str} {sp:Sp} (lk:K.lookup f=some ⟨oc,od,.func (PySem.W.fnOf name qual params body scope dV kV doc pm an cdv ct),osl⟩) (hcd:PySem.W.codeIn K cdv qual=true) (S:FnScope N ps scope)
    (len:∀ vs H Q E,sp vs H Q E->vs.length=ps.length)
    (hbody:∀ (A:Around) (outer:List Env) (s:Shared) (H:Hp) (vs:List V) (Q:VK) (E:XK),Room k (A.deeper (envOfC qual scope s.heap.objs.size f cdv))->sp vs H Q E ->
      ∃ t,PSs (nv CX P w K mg base N qual scope f cdv A outer s H E) body t/\t { nx:=fun _ H'=>Q .non H',rt:=Q } (iU N vs) H) :
    FnOk P w K mg base CX (k+1) f (PySem.W.fnOf name qual params body scope dV kV doc pm an cdv ct) ps sp:=by
  refine ⟨len,fun A outer s H args us vs Q E hr e0 hb r hsp=>?_⟩
  have hl:=len _ _ _ _ hsp
  have KX:K.In s.heap:=e0.mod.kin.keeps fun b o e=>(e0.bs b o e).1
  have lim:s.heap.NoLimit:=e0.mod.nolimit.keeps fun b o e=>(e0.bs b o e).1
  have hkind:∀ y ∈ ps.zip us,scope.names.lookup y.1=some .local\/(scope.names.lookup y.1=some .cell/\((cellsFrom (s.heap.objs.size+1) scope.names []).lookup y.1).isSome=true):=fun ⟨n,v⟩ hy=>by
    rcases S.par n (List.of_mem_zip hy).1 with q | q
    · exact .inl q
    · exact .inr ⟨q,PySem.W.cellsFrom_some _ _ _ (.inl q)⟩
  refine codeAny_call_function hr.depth (KX _ _ lk) rfl S.co S.gen rfl (PySem.W.codeRec_of KX hcd) (hb _ _ _ _ ?_)
  refine wpAny_newFunctionEnv_cells S.kind hkind fun env he s1 x=>?_
  subst he
  refine ⟨lim.keeps x.toInCall.keep,codeAny_func ?_⟩
  obtain ⟨t,ht,hq⟩:=hbody A outer s H vs Q E (hr.deeper _) hsp
  have I:Inv (nv CX P w K mg base N qual scope f cdv A outer s H E) [] (iU N vs) H s1:=qY S hr.hd e0 hl r x
  refine wpAny_mono (ht [] s1 (iU N vs) H _ I hq) (fun fl s' hs=>?_) fun e s' hs=>hs
  have fin:∀ {σ':St} {H':Hp} {v:V} {u:Value},Inv (nv CX P w K mg base N qual scope f cdv A outer s H E) [] σ' H' s'->RelV v u->Q v H'->CE outer P w H s Q u s' :=
    fun {σ' H' v u} J rv q=>⟨v,H',J.os,J.bare,J.base,J.hok,rv,q⟩
  cases fl with
  | ret u =>
    obtain ⟨v,σ',H',J,rv,q⟩:=hs
    exact fin J rv q
  | next =>
    obtain ⟨σ',H',J,q⟩:=hs
    exact fin (v:=V.non) (u:=Value.none) J rfl q
  | brk =>
    obtain ⟨_,_,_,q⟩:=hs
    exact False.elim q
  | cont =>
    obtain ⟨_,_,_,q⟩:=hs
    exact False.elim q
end L2
namespace L2
open PySem PySem.Spec PyProof.Rows
section
variable {X:Cx} {x:Str} {p pos:Pos} {e:Expr} {es:List Expr} {t:TA} {id T:String} {r:List V->Hp->VK->Prop}
noncomputable def tCB (r:List V->Hp->VK->Prop) (t:TA):TE:=fun σ H Q=>t σ H fun vs H1=>r vs H1 Q
theorem mL (hc:di X (.builtin id) r) (hg:Gl X x) (hm:X.mg x=none) (hv:bootBuiltins x=some (.builtin id)) (ha:PA X (e :: es) t) (hn:x ≠ "__name__":=by decide) (hdb:(x == ("__debug__":Str))=false:=by decide)
    (he:starEach (e :: es) X.env=(false,eval e X.env) :: starEach es X.env:=by rfl) (hpl:(backTo pos (starEach es X.env)).any (·.1)=false:=by rfl):PE X (.Call (.Name x p) (e :: es) [] pos) (tCB r t):=by
  intro pins s σ H Q I h
  refine wpAny_Call_Name_kw (gI I hg hm hv ?_ hn hdb)
  exact PyProof.Rows.callWith_builtin1 (thn (ha pos pins s σ H _ I h) fun us s1 ⟨vs,H1,I1,r1,q1⟩=>hc pins s1 σ H1 vs us Q I1 r1 q1) he hpl
theorem qH (hc:di X (.type T) r) (hg:Gl X x) (hm:X.mg x=none) (hv:bootBuiltins x=some (.type T)) (ha:PA X (e :: es) t) (hn:x ≠ "__name__":=by decide) (hdb:(x == ("__debug__":Str))=false:=by decide)
    (he:starEach (e :: es) X.env=(false,eval e X.env) :: starEach es X.env:=by rfl) (hpl:(backTo pos (starEach es X.env)).any (·.1)=false:=by rfl):PE X (.Call (.Name x p) (e :: es) [] pos) (tCB r t):=by
  intro pins s σ H Q I h
  refine wpAny_Call_Name_kw (gI I hg hm hv ?_ hn hdb)
  exact PyProof.Rows.callWith_type1 (thn (ha pos pins s σ H _ I h) fun us s1 ⟨vs,H1,I1,r1,q1⟩=>hc pins s1 σ H1 vs us Q I1 r1 q1) he hpl
end
end L2
namespace HT
open PySem PyProof.Rows
section
open PySem.SeqAt
open PySem.AutoSeq1 (wpAny_loadPart')
open PySem.MeetsSeq PySem.MeetsSeq2 PySem.MeetsSeq3
end
section
variable {prog:Program} {w:World} {A:Around} {E:Value->Shared->Prop} {s:Shared}
theorem cat_tup {t b:Addr} {vs ws:List Value} {Q:Value->Shared->Prop} (ht:IsTup s.heap t vs.toArray) (hb:IsTup s.heap b ws.toArray) (hv:vs ≠ [])
    (h1:ws=[]->Q (.ref t) s) (h2:ws ≠ []->Q (.ref s.heap.objs.size) { s with heap:=s.heap.push { cls:=.type "tuple",data:=.seq (vs ++ ws).toArray } })
    (hsz:vs.length+ws.length<=sizeLine):wpAny (model prog w) A (binaryOp .Add (.ref t) (.ref b)) Q E s:=by
  obtain ⟨⟨cls,dd,data,sl⟩,ho,hc,n,hd⟩:=id ht
  obtain ⟨⟨cls2,dd2,data2,sl2⟩,ho2,hc2,n2,hd2⟩:=id hb
  simp only at hc hd hc2 hd2
  subst hc hd hc2 hd2
  have e:vs.toArray ++ ws.toArray=(vs ++ ws).toArray:=by simp
  by_cases hw:ws=[]
  · exact concat_meets ⟨_,ho,rfl⟩ ⟨_,ho2,rfl⟩ noFill_tuple_add seq_tuple_add PySem.F.slot_tuple_add PySem.F.entry_tuple_add (PySem.F.args_tuple_add_2 _ _)
      (tuple_addW1 t b vs.toArray ws.toArray n n2 dd dd2 sl sl2 (by simpa using hv) (by simp [hw])) ⟨ho,ho2,h1 hw⟩
  · refine concat_meets ⟨_,ho,rfl⟩ ⟨_,ho2,rfl⟩ noFill_tuple_add seq_tuple_add PySem.F.slot_tuple_add PySem.F.entry_tuple_add (PySem.F.args_tuple_add_2 _ _)
      (tuple_addW2 t b vs.toArray ws.toArray n n2 dd dd2 sl sl2 (by simpa using hv) (by simpa using hw) (by rw [zb,zb];exact hsz)) ⟨ho,ho2,?_⟩
    rw [e]
    exact h2 hw
noncomputable def sIx (n d:Nat):Option Int->Nat
  | none=>d
  | some v=>if v < 0 then (v+(n:Int)).toNat else min v.toNat n
theorem xj (n d:Nat) (hd:d<=n) (o:Option Int):sIx n d o<=n:=by
  cases o with
  | none=>exact hd
  | some v =>
    show (if v < 0 then (v+(n:Int)).toNat else min v.toNat n)<=n
    by_cases hv:v < 0
    · rw [if_pos hv];omega
    · rw [if_neg hv];exact Nat.min_le_right _ _
theorem qg (v:Int) (n d:Nat):(if v < 0 then max (v+(n:Int)) 0 else min v (n:Int))=((sIx n d (some v):Nat):Int):=by
  show (if v < 0 then max (v+(n:Int)) 0 else min v (n:Int))=(((if v < 0 then (v+(n:Int)).toNat else min v.toNat n):Nat):Int)
  by_cases hv:v < 0
  · simp only [if_pos hv];omega
  · simp only [if_neg hv];omega
theorem o4 (lo hi:Option Int) (n:Nat):Builtin.Slice.sliceAdjust lo hi 1 (n:Int)=(((sIx n 0 lo:Nat):Int),((sIx n n hi:Nat):Int)):=by
  have h1:¬ ((1:Int) < 0):=by omega
  unfold Builtin.Slice.sliceAdjust
  simp only [h1,if_false]
  refine Prod.ext ?_ ?_
  · cases lo with
    | none=>rfl
    | some v=>exact qg v n 0
  · cases hi with
    | none=>rfl
    | some v=>exact qg v n n
theorem oA (i j:Nat):Builtin.Slice.slicePlaces (i:Int) (j:Int) 1=j - i:=by
  unfold Builtin.Slice.slicePlaces
  have h1:(1:Int) > 0:=by omega
  simp only [h1,if_true,Int.ediv_one]
  split <;> omega
theorem jH {v:Value} {o:Option Int} {Q:Option Int->Shared->Prop} (p:IsPart v o) (h:Q o s):wpAny (model prog w) A (Builtin.Slice.slicePartIndex v) Q E s:=by
  cases p with
  | none=>exact slicePart_none h
  | int i t=>exact slicePart_int h
theorem eC {sl:Addr} {vl vu:Value} {lo hi:Option Int} {n:Nat} {Q:Int × Int × Nat->Shared->Prop} (hs:s.heap.IsSliceOf sl vl vu .none) (pl:IsPart vl lo) (pu:IsPart vu hi)
    (h:Q (((sIx n 0 lo:Nat):Int),1,sIx n n hi - sIx n 0 lo) s):wpAny (model prog w) A (Builtin.Slice.sliceApplied (.ref sl) (pure (n:Int))) Q E s:=by
  obtain ⟨os,hos,hcs,hds⟩:=id hs
  unfold Builtin.Slice.sliceApplied Builtin.Slice.sliceFields
  refine yH (yH (wpAny_field hos hds (x:=vl) rfl (yH (wpAny_field hos hds (x:=vu) rfl (yH (wpAny_field hos hds (x:=.none) rfl (yI ?_)))))))
  refine yH (slicePart_none ?_)
  show wpAny _ _ (if ((1:Int) == 0)=true then _ else _) _ _ s
  rw [if_neg (by decide)]
  refine yH (jH pl (yH (jH pu (yH (yI ?_)))))
  show wpAny _ _ (match Builtin.Slice.sliceAdjust lo hi 1 (n:Int) with | (lo,hi)=>pure (lo,(1:Int),Builtin.Slice.slicePlaces lo hi 1)) _ _ s
  rw [o4 lo hi n]
  show wpAny _ _ (pure (((sIx n 0 lo:Nat):Int),(1:Int),Builtin.Slice.slicePlaces ((sIx n 0 lo:Nat):Int) ((sIx n n hi:Nat):Int) 1)) _ _ s
  rw [oA]
  exact yI h
theorem sP (xs:Array Value) (i k:Nat):((List.range k).filterMap fun (m:Nat)=>xs[((i:Int)+(m:Int) * 1).toNat]?).toArray=((xs.toList.drop i).take k).toArray:=by
  have e:(fun (m:Nat)=>xs[((i:Int)+(m:Int) * 1).toNat]?)=fun m=>xs[i+m]?:=by
    funext m
    have:((i:Int)+(m:Int) * 1).toNat=i+m:=by omega
    rw [this]
  rw [e]
  have:=pick_run xs i k
  rw [List.filterMap_map] at this
  have e2:((fun x=>xs[x]?) ∘ fun x=>i+x)=fun m=>xs[i+m]?:=rfl
  rw [e2] at this
  rw [this]
theorem getItem_tuple_cut {t sl:Addr} {items:Array Value} {vl vu:Value} {lo hi:Option Int} {Q:Value->Shared->Prop} (ht:IsTup s.heap t items) (hs:s.heap.IsSliceOf sl vl vu .none) (pl:IsPart vl lo) (pu:IsPart vu hi)
    (hw:¬ (sIx items.size 0 lo=0/\sIx items.size items.size hi=items.size))
    (h:Q (.ref s.heap.objs.size) { s with heap:=s.heap.push { cls:=.type "tuple",data:=.seq ((items.toList.drop (sIx items.size 0 lo)).take (sIx items.size items.size hi - sIx items.size 0 lo)).toArray } })
    (hsz:items.size<=sizeLine):wpAny (model prog w) A (getItem (.ref t) (.ref sl)) Q E s:=by
  have htake:sizeOk (.seq ((items.toList.drop (sIx items.size 0 lo)).take (sIx items.size items.size hi - sIx items.size 0 lo)).toArray):=by
    show ((items.toList.drop (sIx items.size 0 lo)).take (sIx items.size items.size hi - sIx items.size 0 lo)).toArray.size<=sizeLine
    rw [zb,zk,List.length_drop,Array.length_toList]
    omega
  have hj:sIx items.size items.size hi<=items.size:=xj _ _ (y8 _) hi
  obtain ⟨os,hos,hcs,hds⟩:=id hs
  have hTs:s.TypeIs (.ref sl) "slice":=⟨os,hos,hcs⟩
  unfold getItem
  try with_reducible refine yJ ?_
  first | refine yH (yI ?_) | skip
  refine yH (wpAny_sequenceKey ht.typeIs (by decide) ?_)
  refine yH (wpAny_callSpecial?_slot (name:=Str.ofString "__getitem__") ht.typeIs PyProof.Rows.slot_tuple_getitem
    (wpAny_call_entry PyProof.Rows.slot_tuple_getitem ht.typeIs entry_tuple_getitem ?_ (args_tuple_getitem _ _)))
  show wpAny _ _ (Builtin.Tuple.tupleItemsOf (.ref t) >>= _) _ _ s
  refine yH (tupleItemsOf_ ht ?_)
  refine yH (wpAny_typeOf hTs ?_)
  rw [if_pos (by decide)]
  refine yH (eC hs pl pu ?_)
  have hno:¬ ((((sIx items.size 0 lo:Nat):Int) == 0 && (1:Int) == 1 && (sIx items.size items.size hi - sIx items.size 0 lo) == items.size)=true):=by
    intro q
    rw [Bool.and_eq_true,Bool.and_eq_true] at q
    have q1:((sIx items.size 0 lo:Nat):Int)=0:=eq_of_beq q.1.1
    have q2:sIx items.size items.size hi - sIx items.size 0 lo=items.size:=eq_of_beq q.2
    exact hw ⟨by omega,by omega⟩
  show wpAny _ _ (if (((sIx items.size 0 lo:Nat):Int) == 0 && (1:Int) == 1 && (sIx items.size items.size hi - sIx items.size 0 lo) == items.size)=true then _ else _) _ _ s
  rw [if_neg hno,sP]
  first
    | exact yH (m:=Builtin.Tuple.tupleExact _) (wpAny_newObj_type (yI ⟨_,rfl,yI h⟩) htake)
    | exact yH (m:=Builtin.Tuple.tupleExact _) (wpAny_newObj_type (yH (yI (yI ⟨_,rfl,yI h⟩))) htake)
    | exact yH (yH (m:=Builtin.Tuple.tupleExact _) (wpAny_newObj_type (yI (yI ⟨_,rfl,yI h⟩)) htake))
    | exact yH (yH (m:=Builtin.Tuple.tupleExact _) (wpAny_newObj_type (yI ⟨_,rfl,yI h⟩) htake))
end
end HT
namespace L2
open PySem PySem.Spec PyProof.Rows
noncomputable abbrev TO:=St->Hp->(Option Int->Hp->Prop)->Prop
noncomputable def PO (X:Cx) (e:Option Expr) (t:TO):Prop :=
  ∀ (pins:List (Addr × Obj)) (s:Shared) (σ:St) (H:Hp) (Q:Option Int->Hp->Prop),Inv X pins σ H s->t σ H Q ->
    wpAny (model X.prog X.w) X.A (evalPart e X.env) (fun u s'=>∃ o H',Inv X pins σ H' s'/\IsPart u o/\Q o H') X.xe s
noncomputable def tPart (t:TE):TO:=fun σ H Q=>t σ H fun x H1=>∃ i,x=.int i/\Q (some i) H1
theorem j6 {ns:List Int}:∀ {us:List Value},Vals (ns.map V.int) us->IntsAre us ns:=by
  induction ns with
  | nil=>intro us r;rw [List.map_nil] at r;cases r;exact .nil
  | cons n ns ih =>
    intro us r
    rw [zc] at r
    cases r with
    | cons r1 r2 =>
      obtain ⟨t,e⟩:=r1
      subst e
      exact .cons n t (ih r2)
section
variable {X:Cx} {e:Expr} {te:TE} {lo hi:Option Expr} {tl th:TO} {pos p2:Pos}
theorem vq (h:PE X e te):PO X (some e) (tPart te):=by
  intro pins s σ H Q I hw
  rw [evalPart_some]
  refine thn (h pins s σ H _ I hw) fun u s1 ⟨x,H1,I1,r1,q1⟩=>?_
  obtain ⟨i,rfl,q⟩:=q1
  obtain ⟨t,rfl⟩:=r1
  exact ⟨some i,H1,I1,.int i t,q⟩
noncomputable def SlR (X:Cx) (r:V->Option Int->Option Int->Hp->VK->Prop):Prop :=
  ∀ (pins:List (Addr × Obj)) (s:Shared) (σ:St) (H:Hp) (x:V) (v vl vu:Value) (lo hi:Option Int) (sl:Addr) (Q:VK),Inv X pins σ H s->RelV x v->s.heap.IsSliceOf sl vl vu .none->IsPart vl lo->IsPart vu hi->r x lo hi H Q ->
    ∃ T id,typeLookup (.type T) "__getitem__"=pure (some (.builtin id))/\s.TypeIs v T/\wpAny (model X.prog X.w) X.A (getItem v (.ref sl)) (EP X pins σ Q) X.xe s
theorem SlR.or {r r':V->Option Int->Option Int->Hp->VK->Prop} (h:SlR X r) (h':SlR X r'):SlR X (fun x lo hi H Q=>r x lo hi H Q\/r' x lo hi H Q):=by
  intro pins s σ H x v vl vu lo hi sl Q I rx hs pl pu q
  rcases q with q | q
  · exact h pins s σ H x v vl vu lo hi sl Q I rx hs pl pu q
  · exact h' pins s σ H x v vl vu lo hi sl Q I rx hs pl pu q
noncomputable def tSl (r:V->Option Int->Option Int->Hp->VK->Prop) (te:TE) (tl th:TO):TE:=fun σ H Q=>te σ H fun x H1=>tl σ H1 fun l H2=>th σ H2 fun u H3=>r x l u H3 Q
theorem sR {r:V->Option Int->Option Int->Hp->VK->Prop} (hr:SlR X r) (he:PE X e te) (hl:PO X lo tl) (hu:PO X hi th):PE X (.Subscript e (.Slice lo hi none p2) pos) (tSl r te tl th):=by
  intro pins s σ H Q I h
  refine Subscript_ (thn (he pins s σ H _ I h) fun v s1 ⟨x,H1,I1,r1,q1⟩=>?_)
  refine wpAny_Slice (thn (hl pins s1 σ H1 _ I1 q1) fun vl s2 ⟨l,H2,I2,pl,q2⟩=>thn (hu pins s2 σ H2 _ I2 q2) fun vu s3 ⟨u,H3,I3,pu,q3⟩=>?_)
  rw [evalPart_none]
  refine yI ?_
  have I4:Inv X pins σ H3 { s3 with heap:=s3.heap.push { cls:=.type "slice",data:=.fields #[vl,vu,.none] } }:=I3.kept (t':=s3.toks) fun b ob q=>yN _ q
  obtain ⟨T,id,hT,ht,hg⟩:=hr pins { s3 with heap:=s3.heap.push { cls:=.type "slice",data:=.fields #[vl,vu,.none] } } σ H3 x v vl vu l u s3.heap.objs.size Q I4 r1 (Heap.IsSliceOf.new ..) pl pu q3
  show wpAny (model X.prog X.w) X.A (subscriptTail e (.Slice lo hi none p2) v (.ref s3.heap.objs.size)) (EP X pins σ Q) X.xe { s3 with heap:=s3.heap.push { cls:=.type "slice",data:=.fields #[vl,vu,.none] } }
  exact tail_any (ops:=[.ref s3.heap.objs.size,v]) ht hT hg (by with_unfolding_all rfl)
noncomputable def nw (xs:List V) (lo hi:Option Int):List V:=(xs.drop (HT.sIx xs.length 0 lo)).take (HT.sIx xs.length xs.length hi - HT.sIx xs.length 0 lo)
theorem jb (xs:List V) (lo hi:Option Int):(nw xs lo hi).length<=xs.length:=by
  unfold nw
  rw [zk,List.length_drop]
  omega
noncomputable def xp (K:FG):V->Option Int->Option Int->Hp->VK->Prop:=fun x lo hi H Q=>∃ a xs,x=.ref a/\SqT K H a xs /\
  ¬ (HT.sIx xs.length 0 lo=0/\HT.sIx xs.length xs.length hi=xs.length)/\∀ p,H p=none->Q (.ref p) (upd H p (.tup (nw xs lo hi)))
theorem sl_tup:SlR X (xp X.K):=by
  intro pins s σ H x v vl vu lo hi sl Q I rx hs pl pu h
  obtain ⟨a,xs,rfl,hx,hw,q⟩:=h
  cases rx
  obtain ⟨its,r,ht,hz⟩:=I.tuple hx
  have hlen:its.toArray.size=xs.length:=by rw [zb];exact r.length.symm
  refine ⟨"tuple",_,PyProof.Rows.slot_tuple_getitem.lookup,ht.typeIs,?_⟩
  refine HT.getItem_tuple_cut ht hs pl pu (by rw [hlen];exact hw) ?_ (by rw [hlen];exact hz)
  rw [hlen]
  refine ⟨.ref s.heap.objs.size,_,I.laid (t':=s.toks) (o:=.tup (nw xs lo hi)) (fun b ob q=>yN _ q) (y8 _) ?_,rfl,q _ (I.hok.fresh (y8 _))⟩
  exact ⟨zv (jb xs lo hi) hz,_,(r.drop (HT.sIx xs.length 0 lo)).take (HT.sIx xs.length xs.length hi - HT.sIx xs.length 0 lo),IsTupD.new _ _⟩
noncomputable def pz (K:FG):R2:=fun x y H Q=>∃ a b xs ys,x=.ref a/\y=.ref b/\SqT K H a xs/\SqT K H b ys/\xs ≠ []/\xs.length+ys.length<=sizeLine /\
  (ys=[]->Q (.ref a) H)/\(ys ≠ []->∀ p,H p=none->Q (.ref p) (upd H p (.tup (xs ++ ys))))
theorem Vals.nil_iff {xs:List V} {us:List Value} (r:Vals xs us):us=[] ↔ xs=[]:=by
  cases r with
  | nil=>simp
  | cons _ _=>simp
theorem op_catT:OpR X (binaryOp .Add) (pz X.K):=by
  intro pins s σ H x y v u Q I rx ry h
  obtain ⟨a,b,xs,ys,rfl,rfl,ha,hb,hx,hz,q1,q2⟩:=h
  cases rx
  cases ry
  obtain ⟨its,r1,p1,_⟩:=I.tuple ha
  obtain ⟨its2,r2,p2,_⟩:=I.tuple hb
  refine HT.cat_tup p1 p2 (fun z=>hx (r1.nil_iff.mp z)) (fun z=>⟨.ref a,H,I,rfl,q1 (r2.nil_iff.mp z)⟩) (fun z=>?_) (by rw [<- r1.length,<- r2.length];exact hz)
  refine ⟨.ref s.heap.objs.size,_,I.laid (t':=s.toks) (o:=.tup (xs ++ ys)) (fun b ob q=>yN _ q) (y8 _) ?_,rfl,q2 (fun w=>z (r2.nil_iff.mpr w)) _ (I.hok.fresh (y8 _))⟩
  exact ⟨by rw [zi];exact hz,_,r1.append r2,IsTupD.new _ _⟩
end
end L2
namespace L2
open PySem PySem.Spec PyProof.Rows
noncomputable def ixN (n:Nat) (i:Int):Option Nat:=if 0<=i then (if i < n then some i.toNat else none) else if -(n:Int)<=i then some (i+n).toNat else none
noncomputable def atI {α:Type} (xs:List α) (i:Int):Option α:=(ixN xs.length i).bind fun j=>xs[j]?
theorem pR {n:Nat} {i:Int} {j:Nat} (h:ixN n i=some j):seqIndex? i n=some j/\j < n/\-(n:Int)<=i/\i < n:=by
  unfold ixN at h
  by_cases h0:0<=i
  · rw [if_pos h0] at h
    by_cases h1:i < n
    · rw [if_pos h1] at h
      have e:i.toNat=j:=zx h
      exact ⟨by rw [seqIndex_of h0 h1,e],by omega,by omega,h1⟩
    · rw [if_neg h1] at h;cases h
  · rw [if_neg h0] at h
    by_cases h1:-(n:Int)<=i
    · rw [if_pos h1] at h
      have e:(i+n).toNat=j:=zx h
      exact ⟨by rw [seqIndex_neg (by omega) h1,e],by omega,h1,by omega⟩
    · rw [if_neg h1] at h;cases h
theorem ql {α:Type} {xs:List α} {i:Int} {v:α} (h:atI xs i=some v):∃ j,seqIndex? i xs.length=some j/\xs[j]?=some v/\j < xs.length/\-(xs.length:Int)<=i/\i < xs.length:=by
  unfold atI at h
  cases e:ixN xs.length i with
  | none=>rw [e] at h;cases h
  | some j =>
    rw [e] at h
    obtain ⟨h1,h2,h3,h4⟩:=pR e
    exact ⟨j,h1,h,h2,h3,h4⟩
noncomputable def qm (b:Expr):Prop:=∀ o i,subscripted b false o i=operate [o,i] (getItem o i)
noncomputable def IxR (X:Cx) (r:R2):Prop :=
  ∀ (value slice:Expr) (pins:List (Addr × Obj)) (s:Shared) (σ:St) (H:Hp) (x y:V) (v u:Value) (Q:VK),Inv X pins σ H s->RelV x v->RelV y u->r x y H Q ->
    subscripted slice false v u=operate [v,u] (getItem v u)->wpAny (model X.prog X.w) X.A (subscriptTail value slice v u) (EP X pins σ Q) X.xe s
noncomputable def MtR (X:Cx) (id:String) (r:V->List V->Hp->VK->Prop):Prop :=
  ∀ (pins:List (Addr × Obj)) (s:Shared) (σ:St) (H:Hp) (x:V) (xs:List V) (v:Value) (us:List Value) (Q:VK),Inv X pins σ H s->RelV x v->Vals xs us->r x xs H Q ->
    wpAny (model X.prog X.w) X.A (call (.builtin id) (v :: us)) (EP X pins σ Q) X.xe s
section
variable {X:Cx} {a b:Expr} {ta tb:TE} {pos:Pos}
theorem IxR.or {r r':R2} (h:IxR X r) (h':IxR X r'):IxR X (fun x y H Q=>r x y H Q\/r' x y H Q):=by
  intro value slice pins s σ H x y v u Q I rx ry q hs
  rcases q with q | q
  · exact h value slice pins s σ H x y v u Q I rx ry q hs
  · exact h' value slice pins s σ H x y v u Q I rx ry q hs
theorem pe_ix {r:R2} (hr:IxR X r) (ha:PE X a ta) (hb:PE X b tb) (hs:qm b):PE X (.Subscript a b pos) (tOp r ta tb):=by
  intro pins s σ H Q I h
  exact Subscript_ (yD ha hb I h fun v u s2 x y H2 I2 rx ry q=>hr a b pins s2 σ H2 x y v u Q I2 rx ry q (hs _ _))
noncomputable def sH (K:FG):R2:=fun x y H Q=>∃ p xs i v,x=.ref p/\y=.int i/\SqL K H p xs/\atI xs i=some v/\Q v H
noncomputable def sG (K:FG):R2:=fun x y H Q=>∃ p xs i v,x=.ref p/\y=.int i/\SqT K H p xs/\atI xs i=some v/\Q v H
theorem ix_list:IxR X (sH X.K):=by
  intro value slice pins s σ H x y v u Q I rx ry h hs
  obtain ⟨p,xs,i,z,rfl,rfl,hq,he,q⟩:=h
  cases rx
  obtain ⟨t,rfl⟩:=ry
  obtain ⟨its,r,pl,hz⟩:=I.list hq
  obtain ⟨j,h1,h2,h3,h4,h5⟩:=ql he
  obtain ⟨w,ew,rw'⟩:=r.get h2
  have hl:=r.length
  have hn:=lK
  have fin:EP X pins σ Q w s:=⟨z,H,I,rw',q⟩
  by_cases h0:0<=i
  · have hj:i.toNat=j:=by
      rw [seqIndex_of h0 h5] at h1
      exact zx h1
    exact item_listR pl.isList h0 (by omega) (by rw [hj];simpa using ew) fin hs
  · have hj:(i+(its.toArray.size:Int)).toNat=j:=by
      rw [seqIndex_neg (by omega) h4] at h1
      rw [zb,<- hl]
      exact zx h1
    exact subscriptTail_builtinR (x:=w) pl.isList.typeIs slot_list_getitem.lookup
      (wpAny_getItem_list_neg (Q:=fun r s'=>r=w/\EP X pins σ Q r s') pl.isList (by omega) (by rw [zb] <;> omega) (by omega) (by rw [hj];simpa using ew) ⟨rfl,fin⟩) hs
theorem ye:IxR X (sG X.K):=by
  intro value slice pins s σ H x y v u Q I rx ry h hs
  obtain ⟨p,xs,i,z,rfl,rfl,hq,he,q⟩:=h
  cases rx
  obtain ⟨t,rfl⟩:=ry
  obtain ⟨its,r,pl,hz⟩:=I.tuple hq
  obtain ⟨j,h1,h2,h3,h4,h5⟩:=ql he
  obtain ⟨w,ew,rw'⟩:=r.get h2
  have hl:=r.length
  have hn:=lK
  have fin:EP X pins σ Q w s:=⟨z,H,I,rw',q⟩
  exact subscriptTail_builtinR (x:=w) pl.typeIs slot_tuple_getitem.lookup
    (getItem_tuple (j:=j) (Q:=fun r s'=>r=w/\EP X pins σ Q r s') pl (by omega) (by omega) (by rw [zb,<- hl];exact h1) (by simpa using ew) ⟨rfl,fin⟩) hs
theorem oG (its:List Value) (n j:Nat) (u:Value):Obj.mapSeq (·.setIfInBounds j u) { cls:=.type "list",data:=.seq its.toArray n } = { cls:=.type "list",data:=.seq (its.set j u).toArray n }:=by
  simp [Obj.mapSeq]
theorem Inv.lst {pins:List (Addr × Obj)} {σ:St} {H:Hp} {s:Shared} {p:Addr} {xs:List V} (I:Inv X pins σ H s) (h:H p=some (.lst xs)) :
    ∃ (its:List Value) (n:Nat),Vals xs its/\s.heap.get? p=some { cls:=.type "list",data:=.seq its.toArray n }/\xs.length<=sizeLine:=by
  obtain ⟨z,its,n,r,e⟩:=I.hok p _ h
  exact ⟨its,n,r,e,z⟩
theorem Inv.lstUpd {pins:List (Addr × Obj)} {σ:St} {H:Hp} {s:Shared} {p:Addr} {xs ys:List V} {its its':List Value} {n n':Nat} {f:Obj->Obj} (I:Inv X pins σ H s) (h:H p=some (.lst xs))
    (ho:s.heap.get? p=some { cls:=.type "list",data:=.seq its.toArray n }) (hf:f { cls:=.type "list",data:=.seq its.toArray n } = { cls:=.type "list",data:=.seq its'.toArray n' }) (r:Vals ys its') (hz:ys.length<=sizeLine) (t:Nat) :
    Inv X pins σ (upd H p (.lst ys)) { s with heap:=s.heap.update p f,toks:=t }:=by
  have e:(s.heap.update p f).get? p=some { cls:=.type "list",data:=.seq its'.toArray n' }:=by
    rw [zh f ho (by rw [hf] <;> rfl),hf]
  refine I.write (x:=p) (e:=p) (by rw [h];trivial) (.inl rfl) (fun b u hb q=>(zt _ _ (Ne.symm hb)).trans q) ⟨_,e⟩ ?_
  exact ⟨hz,its',n',r,e⟩
noncomputable def pp:V->V->V->Hp->(Hp->Prop)->Prop:=fun o i v H Q=>∃ p xs k j,o=.ref p/\i=.int k/\H p=some (.lst xs)/\ixN xs.length k=some j/\Q (upd H p (.lst (xs.set j v)))
theorem rY:uy X pp:=by
  intro pins s σ H o i v ov iv u Q I ro ri rv h
  obtain ⟨p,xs,k,j,rfl,rfl,hp,hj,q⟩:=h
  cases ro
  obtain ⟨t,rfl⟩:=ri
  obtain ⟨its,n,r,ho,hz⟩:=I.lst hp
  obtain ⟨h1,h2,h3,h4⟩:=pR hj
  have hl:=r.length
  have hn:=lK
  have I':Inv X pins σ (upd H p (.lst (xs.set j v))) { s with heap:=s.heap.update p (Obj.mapSeq (·.setIfInBounds j u)) } :=
    I.lstUpd hp ho (oG its n j u) (r.set rv j) (by rw [List.length_set];exact hz) s.toks
  by_cases h0:0<=k
  · have hk:k.toNat=j:=by
      rw [seqIndex_of h0 h4] at h1
      exact zx h1
    exact PySem.W.ki_setAt ho h0 (by omega) (by rw [zb,<- hl];exact h4) (by rw [hk];exact ⟨_,I',q⟩)
  · have hk:(k+(its.toArray.size:Int)).toNat=j:=by
      rw [seqIndex_neg (by omega) h3] at h1
      rw [zb,<- hl]
      exact zx h1
    exact PySem.W.ki_setBack ho (by omega) (by rw [zb,<- hl];exact h3) (by omega) (by rw [hk];exact ⟨_,I',q⟩)
theorem lu (lo hi:Option Int) (n:Nat):(sliceBounds lo hi none n).1=((HT.sIx n 0 lo:Nat):Int)/\(sliceBounds lo hi none n).2.1=((HT.sIx n n hi:Nat):Int)/\(sliceBounds lo hi none n).2.2=1:=by
  refine ⟨?_,?_,rfl⟩
  · cases lo with
    | none=>simp [sliceBounds,HT.sIx]
    | some i =>
      simp only [sliceBounds,HT.sIx,Option.getD_none,show (1:Int) > 0 by decide,if_true]
      by_cases h:i < 0
      · simp only [h,if_true] <;> omega
      · simp only [h,if_false] <;> omega
  · cases hi with
    | none=>simp [sliceBounds,HT.sIx]
    | some i =>
      simp only [sliceBounds,HT.sIx,Option.getD_none,show (1:Int) > 0 by decide,if_true]
      by_cases h:i < 0
      · simp only [h,if_true] <;> omega
      · simp only [h,if_false] <;> omega
theorem ku (its:List Value) (lo hi:Option Int):slicePick its.toArray lo hi none=((its.drop (HT.sIx its.length 0 lo)).take (HT.sIx its.length its.length hi - HT.sIx its.length 0 lo)).toArray:=by
  obtain ⟨h1,h2,h3⟩:=lu lo hi its.toArray.size
  unfold slicePick
  rw [h1,h2,h3]
  simp only [sliceRange_one,pick_run,zb] <;> rfl
noncomputable def xq (K:FG):V->Option Int->Option Int->Hp->VK->Prop:=fun x lo hi H Q=>∃ a xs,x=.ref a/\SqL K H a xs/\∀ p,H p=none->Q (.ref p) (upd H p (.lst (nw xs lo hi)))
theorem sl_list:SlR X (xq X.K):=by
  intro pins s σ H x v vl vu lo hi sl Q I rx hs pl pu h
  obtain ⟨a,xs,rfl,hx,q⟩:=h
  cases rx
  obtain ⟨its,r,ht,hz⟩:=I.list hx
  have hlen:=r.length
  refine ⟨"list",_,slot_list_getitem.lookup,ht.isList.typeIs,?_⟩
  refine wpAny_getItem_list_slice ht.isList hs pl pu .none (by simp) ?_ (by rw [zb] <;> omega)
  rw [ku,<- hlen]
  refine ⟨.ref s.heap.objs.size,_,I.laid (t':=s.toks) (o:=.lst (nw xs lo hi)) (fun b ob q=>yN _ q) (y8 _) ?_,rfl,q _ (I.hok.fresh (y8 _))⟩
  exact ⟨zv (jb xs lo hi) hz,_,0,(r.drop (HT.sIx xs.length 0 lo)).take (HT.sIx xs.length xs.length hi - HT.sIx xs.length 0 lo),yV _ rfl⟩
noncomputable def dh:V->Bool
  | .non=>true
  | .bl _=>true
  | .int _=>true
  | .str _=>true
  | _=>false
noncomputable def eqV:V->V->Bool
  | .non,.non=>true
  | .bl a,.bl b=>a == b
  | .bl a,.int b=>(if a then 1 else 0) == b
  | .int a,.bl b=>a == (if b then 1 else 0)
  | .int a,.int b=>a == b
  | .str a,.str b=>a == b
  | _,_=>false
theorem yr {A:Around} {s:Shared} {y x:V} {u v:Value} (ry:RelV y u) (rx:RelV x v) (fy:dh y=true) (fx:dh x=true):SeqAt.EqAt A s u v (eqV y x):=by
  cases y with
  | non =>
    cases ry
    cases x with
    | non=>cases rx;exact SeqAt.EqAt.same _
    | bl b=>cases rx;exact SeqAt.EqAt.none_bool b
    | int b=>obtain ⟨t,rfl⟩:=rx;exact SeqAt.EqAt.none_int b t
    | str b=>obtain ⟨t,rfl⟩:=rx;exact SeqAt.EqAt.none_str b t
    | _=>exact absurd (show false=true from fx) y9
  | bl a =>
    cases ry
    cases x with
    | non=>cases rx;exact SeqAt.EqAt.bool_none a
    | bl b=>cases rx;exact SeqAt.EqAt.bool_bool a b
    | int b=>obtain ⟨t,rfl⟩:=rx;exact SeqAt.EqAt.bool_int a b t
    | str b=>obtain ⟨t,rfl⟩:=rx;exact SeqAt.EqAt.bool_str a b t
    | _=>exact absurd (show false=true from fx) y9
  | int a =>
    obtain ⟨t',rfl⟩:=ry
    cases x with
    | non=>cases rx;exact SeqAt.EqAt.int_none a t'
    | bl b=>cases rx;exact SeqAt.EqAt.int_bool a t' b
    | int b=>obtain ⟨t,rfl⟩:=rx;exact SeqAt.EqAt.int_int a t' b t
    | str b=>obtain ⟨t,rfl⟩:=rx;exact SeqAt.EqAt.int_str a t' b t
    | _=>exact absurd (show false=true from fx) y9
  | str a =>
    obtain ⟨t',rfl⟩:=ry
    cases x with
    | non=>cases rx;exact SeqAt.EqAt.str_none a t'
    | bl b=>cases rx;exact SeqAt.EqAt.str_bool a t' b
    | int b=>obtain ⟨t,rfl⟩:=rx;exact SeqAt.EqAt.str_int a t' b t
    | str b=>obtain ⟨t,rfl⟩:=rx;exact SeqAt.EqAt.str_str a t' b t
    | _=>exact absurd (show false=true from fx) y9
  | _=>exact absurd (show false=true from fy) y9
noncomputable def eqU (x:V) (u:Value):Bool:=match u with
  | .none=>eqV .non x
  | .bool b=>eqV (.bl b) x
  | .int i _=>eqV (.int i) x
  | .str z _=>eqV (.str z) x
  | _=>false
theorem lT {x y:V} {u:Value} (r:RelV y u) (f:dh y=true):eqU x u=eqV y x:=by
  cases y with
  | non=>cases r;rfl
  | bl b=>cases r;rfl
  | int i=>obtain ⟨t,rfl⟩:=r;rfl
  | str z=>obtain ⟨t,rfl⟩:=r;rfl
  | _=>exact absurd (show false=true from f) y9
theorem ip {x:V}:∀ {xs:List V} {us:List Value},Vals xs us->xs.all dh=true->us.any (eqU x)=xs.any fun y=>eqV y x
  | _,_,.nil,_=>rfl
  | y :: xs,u :: us,.cons r t,f=>by
    rw [List.all_cons,Bool.and_eq_true] at f
    rw [List.any_cons,List.any_cons,lT r f.1,ip t f.2]
theorem eF {A:Around} {s:Shared} {x:V} {v:Value} (rx:RelV x v) (fx:dh x=true):∀ {xs:List V} {us:List Value},Vals xs us->xs.all dh=true->∀ u ∈ us,SeqAt.EqAt A s u v (eqU x u)
  | _,_,.nil,_=>fun u hu=>by cases hu
  | y :: xs,u :: us,.cons r t,f=>fun u' hu=>by
    rw [List.all_cons,Bool.and_eq_true] at f
    rcases yR.mp hu with rfl | hu
    · rw [lT r f.1];exact yr r rx f.1 fx
    · exact eF rx fx t f.2 u' hu
noncomputable def inV (x:V) (xs:List V):Bool:=xs.any fun y=>eqV y x
noncomputable def rIn (K:FG) (neg:Bool):R2:=fun x y H Q=>∃ p xs,y=.ref p/\(SqL K H p xs\/SqT K H p xs)/\dh x=true/\xs.all dh=true/\Q (.bl (if neg then !inV x xs else inV x xs)) H
theorem qI:OpR X (compareOp .In) (rIn X.K false):=by
  intro pins s σ H x y v u Q I rx ry h
  obtain ⟨p,xs,rfl,hq,fx,fs,q⟩:=h
  cases ry
  rcases hq with hq | hq
  · obtain ⟨its,r,pl,hz⟩:=I.list hq
    refine SeqAt.in_listAt (eqU x) pl.isList (fun w hw=>eF rx fx r fs w (by simpa using hw)) ⟨.bl _,H,I,rfl,?_⟩
    rw [show its.toArray.any (eqU x)=its.any (eqU x) by simp,ip r fs]
    exact q
  · obtain ⟨its,r,pl,hz⟩:=I.tuple hq
    refine SeqAt.in_tupleAt (eqU x) pl (fun w hw=>eF rx fx r fs w (by simpa using hw)) ⟨.bl _,H,I,rfl,?_⟩
    rw [show its.toArray.any (eqU x)=its.any (eqU x) by simp,ip r fs]
    exact q
theorem gX:OpR X (compareOp .NotIn) (rIn X.K true):=by
  intro pins s σ H x y v u Q I rx ry h
  obtain ⟨p,xs,rfl,hq,fx,fs,q⟩:=h
  cases ry
  rcases hq with hq | hq
  · obtain ⟨its,r,pl,hz⟩:=I.list hq
    refine SeqAt.notIn_listAt (eqU x) pl.isList (fun w hw=>eF rx fx r fs w (by simpa using hw)) ⟨.bl _,H,I,rfl,?_⟩
    rw [show its.toArray.any (eqU x)=its.any (eqU x) by simp,ip r fs]
    exact q
  · obtain ⟨its,r,pl,hz⟩:=I.tuple hq
    refine SeqAt.notIn_tupleAt (eqU x) pl (fun w hw=>eF rx fx r fs w (by simpa using hw)) ⟨.bl _,H,I,rfl,?_⟩
    rw [show its.toArray.any (eqU x)=its.any (eqU x) by simp,ip r fs]
    exact q
theorem aw:di X (.builtin "len") (fun xs H Q=>∃ p ys,xs=[.ref p]/\(SqL X.K H p ys\/SqT X.K H p ys)/\Q (.int ys.length) H):=by
  intro pins s σ H xs us Q I r h
  obtain ⟨p,ys,rfl,hq,q⟩:=h
  obtain ⟨u,rfl,rx⟩:=mh r
  cases rx
  have hn:=lK
  rcases hq with hq | hq
  · obtain ⟨its,r',pl,hz⟩:=I.list hq
    have hlen:=r'.length
    exact Calls.call_len_list pl.isList (by simp only [zb] <;> omega) ⟨.int ys.length,H,I.tok _,⟨s.toks+1,by rw [zb,hlen]⟩,q⟩
  · obtain ⟨its,r',pl,hz⟩:=I.tuple hq
    have hlen:=r'.length
    exact len_tuple pl (by simp only [zb] <;> omega) ⟨.int ys.length,H,I.tok _,⟨s.toks+1,by rw [zb,hlen]⟩,q⟩
theorem a9:di X (.type "tuple") (fun xs H Q=>∃ p ys,xs=[.ref p]/\((SqL X.K H p ys/\∀ l,H l=none->Q (.ref l) (upd H l (.tup ys)))\/(SqT X.K H p ys/\Q (.ref p) H))):=by
  intro pins s σ H xs us Q I r h
  obtain ⟨p,ys,rfl,h⟩:=h
  obtain ⟨u,rfl,rx⟩:=mh r
  cases rx
  rcases h with ⟨hq,q⟩ | ⟨hq,q⟩
  · obtain ⟨its,r',pl,hz⟩:=I.list hq
    have hlen:=r'.length
    refine call_tuple_list pl.isList (fun h' kp=>?_) (by simp only [zb] <;> omega)
    have I1:Inv X pins σ H { s with heap:=h' }:=I.kept (t':=s.toks) kp
    have I2:Inv X pins σ (upd H h'.objs.size (.tup ys)) { s with heap:=h'.push { cls:=.type "tuple",data:=.seq its.toArray } } :=
      I1.laid (t':=s.toks) (fun b o e=>yN _ e) (y8 _) (show ObjOk X.prog X.w _ _ _ (.tup ys) from ⟨hz,its,r',IsTupD.new _ _⟩)
    exact ⟨.ref h'.objs.size,_,I2,rfl,q _ (I1.hok.fresh (y8 _))⟩
  · obtain ⟨its,r',pl,hz⟩:=I.tuple hq
    exact call_tuple_same pl ⟨.ref p,H,I,rfl,q⟩
noncomputable def tyV (K:FG) (T:String) (x:V) (H:Hp):Prop:=match x with
  | .str _=>T = "str"
  | .int _=>T = "int"
  | .ref p=>(T = "list"/\∃ xs,SqL K H p xs)\/(T = "tuple"/\((∃ o,K.lookup p=some o/\o.cls=.type "tuple"/\o.dict=none)\/∃ xs,H p=some (.tup xs))) \/
      (T = "dict"/\((∃ kvs,H p=some (.dK kvs))\/∃ kvs,H p=some (.dT kvs)))\/(T = "set"/\∃ S n,H p=some (.set S n))
  | _=>False
theorem rL {pins:List (Addr × Obj)} {σ:St} {H:Hp} {s:Shared} {T:String} {x:V} {v:Value} (I:Inv X pins σ H s) (r:RelV x v) (ty:tyV X.K T x H) :
    s.TypeIs v T/\∀ a,v=.ref a->∃ ob,s.heap.get? a=some ob/\ob.dict=none:=by
  cases x with
  | str z =>
    obtain ⟨t,rfl⟩:=r
    cases (show T = "str" from ty)
    exact ⟨typeIs_str s z t,fun _ e=>nomatch e⟩
  | int i =>
    obtain ⟨t,rfl⟩:=r
    cases (show T = "int" from ty)
    exact ⟨typeIs_int s i t,fun _ e=>nomatch e⟩
  | ref p =>
    cases r
    rcases ty with ⟨rfl,xs,hq⟩ | ⟨rfl,⟨o,hk,hc,hd⟩ | ⟨xs,ht⟩⟩ | ⟨rfl,hk⟩ | ⟨rfl,S,n,hk⟩
    · obtain ⟨its,_,pl,_⟩:=I.list hq
      refine ⟨pl.isList.typeIs,fun a e=>?_⟩
      cases e
      obtain ⟨o,n,e,c,hd,_⟩:=pl
      exact ⟨o,e,hd⟩
    · refine ⟨⟨o,I.kIn p o hk,hc⟩,fun a e=>?_⟩
      cases e
      exact ⟨o,I.kIn _ o hk,hd⟩
    · obtain ⟨_,its,_,o,e,c,n,d⟩:=I.hok p _ ht
      refine ⟨⟨o,e,c⟩,fun a e2=>?_⟩
      cases e2
      exact ⟨o,e,congrArg Prod.snd d⟩
    · have z:∃ o,s.heap.get? p=some o/\o.ExactDict:=by
        rcases hk with ⟨kvs,hk⟩ | ⟨kvs,hk⟩
        · obtain ⟨_,_,_,_,o,_,_,e,ex,_⟩:=I.hok p _ hk
          exact ⟨o,e,ex⟩
        · obtain ⟨_,_,_,_,o,_,_,e,ex,_⟩:=I.hok p _ hk
          exact ⟨o,e,ex⟩
      obtain ⟨o,e,ex⟩:=z
      refine ⟨⟨o,e,ex.1⟩,fun a e2=>?_⟩
      cases e2
      exact ⟨o,e,ex.2.1⟩
    · obtain ⟨o,_,_,_,e,ex,_⟩:=I.hok p _ hk
      refine ⟨⟨o,e,ex.1⟩,fun a e2=>?_⟩
      cases e2
      exact ⟨o,e,ex.2.1⟩
  | _=>exact False.elim ty
noncomputable def tBM0 (K:FG) (T:String) (r:V->List V->Hp->VK->Prop) (to:TE):TE:=fun σ H Q=>to σ H fun x H1=>tyV K T x H1/\r x [] H1 Q
noncomputable def tBM (K:FG) (T:String) (r:V->List V->Hp->VK->Prop) (to:TE) (t:TA):TE:=fun σ H Q=>to σ H fun x H1=>tyV K T x H1/\t σ H1 fun xs H2=>r x xs H2 Q
variable {o e:Expr} {es:List Expr} {to:TE} {t:TA} {name:Str} {apos cpos:Pos} {T id:String} {r:V->List V->Hp->VK->Prop}
theorem xI (pa:PlainAttrs T) (slot:Slot T name id) (hty:typeOf (.builtin id)=pure (.type "method_descriptor")) (hm:MtR X id r) (ho:PE X o to)
    (hbase:attributeBase o name X.env (eval o X.env)=eval o X.env:=by rfl) (hline:(apos.endLine == cpos.line)=true:=by rfl):PE X (.Call (.Attribute o name apos) [] [] cpos) (tBM0 X.K T r to):=by
  intro pins s σ H Q I h
  refine wpAny_Call_method0_late hbase hline (thn (ho pins s σ H _ I h) fun v s1 ⟨x,H1,I1,r1,ty,q1⟩=>?_)
  obtain ⟨h1,h2⟩:=rL I1 r1 ty
  exact ⟨T,id,pa,slot,hty,h1,h2,Calls.callWith_builtin rfl (PySem.evalArgs_none (hm pins s1 σ H1 x [] v [] Q I1 r1 .nil q1))⟩
theorem ww (pa:PlainAttrs T) (slot:Slot T name id) (hty:typeOf (.builtin id)=pure (.type "method_descriptor")) (hm:MtR X id r) (ho:PE X o to) (ha:PA X (e :: es) t)
    (hbase:attributeBase o name X.env (eval o X.env)=eval o X.env:=by rfl)
    (hfew:((backTo cpos (starEach (e :: es) X.env)).all (fun x=>!x.1) && (backToKw cpos (keywordEach [] X.env)).all (fun x=>x.1.isSome)
      && decide ((e :: es).length+([]:List Keyword).length+(if ([]:List Keyword).isEmpty then 0 else 1) < 30))=true:=by rfl)
    (hline:(apos.endLine == cpos.line)=true:=by rfl) (hs:starEach (e :: es) X.env=(false,eval e X.env) :: starEach es X.env:=by rfl) (hplain:(backTo cpos (starEach es X.env)).any (·.1)=false:=by rfl) :
    PE X (.Call (.Attribute o name apos) (e :: es) [] cpos) (tBM X.K T r to t):=by
  intro pins s σ H Q I h
  refine wpAny_Call_method_late hbase hfew hline rfl (thn (ho pins s σ H _ I h) fun v s1 ⟨x,H1,I1,r1,ty,q1⟩=>?_)
  obtain ⟨h1,h2⟩:=rL I1 r1 ty
  refine ⟨T,id,pa,slot,hty,h1,h2,?_⟩
  have hA:=ha cpos pins s1 σ H1 _ I1 q1
  rw [hs] at hA ⊢
  refine Calls.callWith_builtin (by show (false || (backTo cpos (starEach es X.env)).any (·.1))=false;rw [hplain] <;> rfl) (Calls.evalArgs_plain ?_)
  exact thn hA fun us s2 ⟨vs,H2,I2,r2,q2⟩=>hm pins s2 σ H2 x vs v us Q I2 r1 r2 q2
end
end L2
namespace L2
open PySem PySem.Spec PyProof.Rows
noncomputable def MtM (X:Cx) (id:String) (r:V->List V->Hp->VK->Prop):Prop :=
  ∀ (pins:List (Addr × Obj)) (s:Shared) (σ:St) (H:Hp) (x:V) (xs:List V) (v:Value) (us:List Value) (Q:VK),Inv X pins σ H s->RelV x v->Vals xs us->r x xs H Q ->
    wpAny (model X.prog X.w) X.A (call (.builtin id) (v :: us)) (EP X pins σ Q) X.xe s
theorem Vals.one:∀ {x:V} {us:List Value},Vals [x] us->∃ u,us=[u]/\RelV x u
  | _,_,.cons r .nil=>⟨_,rfl,r⟩
theorem Vals.zero:∀ {us:List Value},Vals [] us->us=[]
  | _,.nil=>rfl
theorem Vals.dropLast {xs:List V} {us:List Value} (h:Vals xs us):Vals xs.dropLast us.dropLast:=by
  induction h with
  | nil=>exact .nil
  | cons r t ih =>
    cases t with
    | nil=>exact .nil
    | cons q t'=>exact .cons r ih
theorem Vals.rep {xs:List V} {us:List Value} (h:Vals xs us):∀ k:Nat,Vals (List.replicate k xs).flatten (List.replicate k us).flatten
  | 0=>.nil
  | k+1=>by
    rw [List.replicate_succ,List.replicate_succ,List.flatten_cons,List.flatten_cons]
    exact Vals.append h (Vals.rep h k)
theorem oR {α:Type} (l:List α):l.eraseIdx (l.length - 1)=l.dropLast:=by
  induction l with
  | nil=>rfl
  | cons a r ih =>
    cases r with
    | nil=>rfl
    | cons b r =>
      have e:(a :: b :: r).length - 1=((b :: r).length - 1)+1:=by
        have h1:(a :: b :: r).length=r.length+2:=rfl
        have h2:(b :: r).length=r.length+1:=rfl
        omega
      rw [e,List.eraseIdx_cons_succ,ih]
      all_goals rfl
theorem lc (its:List Value):∀ (k:Nat) (acc:List Value),
    List.foldl (fun x1 x2=>x1 ++ x2) acc.toArray (List.replicate k its.toArray)=(acc ++ (List.replicate k its).flatten).toArray
  | 0,acc=>by simp
  | k+1,acc=>by
    have e:acc.toArray ++ its.toArray=(acc ++ its).toArray:=by simp
    have e2:(acc ++ its) ++ (List.replicate k its).flatten=acc ++ (List.replicate (k+1) its).flatten:=by
      rw [List.replicate_succ,List.flatten_cons,List.append_assoc]
    rw [<- e2,<- lc its k (acc ++ its),<- e,List.replicate_succ,List.foldl_cons]
section
variable {X:Cx} {pins:List (Addr × Obj)} {σ:St} {H:Hp} {s:Shared} {l b:Addr} {xs ys zs:List V}
theorem Inv.lset {its its':List Value} {n:Nat} {f:Array Value->Array Value} {t':Nat} (I:Inv X pins σ H s) (hH:H l=some (.lst xs))
    (e:s.heap.get? l=some { cls:=.type "list",data:=.seq its.toArray n }) (hf:f its.toArray=its'.toArray) (hv:Vals ys its') (hz:ys.length<=sizeLine) :
    Inv X pins σ (upd H l (.lst ys)) { s with heap:=s.heap.update l (Obj.mapSeq f),toks:=t' }:=by
  have q:=PySem.IsL.update e f
  rw [hf] at q
  refine I.write (x:=l) (e:=l) (by rw [hH];exact trivial) (.inl rfl) (fun b' u hb hu=>(zt s.heap (Obj.mapSeq f) (Ne.symm hb)).trans hu) ⟨_,q⟩ ?_
  exact ⟨hz,its',_,hv,q⟩
theorem Inv.lnew {its:List Value} {t':Nat} (I:Inv X pins σ H s) (hv:Vals ys its) (hz:ys.length<=sizeLine) :
    Inv X pins σ (upd H s.heap.objs.size (.lst ys)) { s with heap:=s.heap.push { cls:=.type "list",data:=.seq its.toArray },toks:=t' } :=
  I.laid (fun _ _ q=>yN _ q) (y8 _) ⟨hz,its,0,hv,yV _ rfl⟩
theorem Inv.fresh (I:Inv X pins σ H s):H s.heap.objs.size=none:=I.hok.fresh (y8 _)
theorem Inv.lstM (I:Inv X pins σ H s) (hH:H l=some (.lst xs)):xs.length<=sizeLine/\∃ (its:List Value) (n:Nat),Vals xs its/\xs.length=its.length/\s.heap.get? l=some { cls:=.type "list",data:=.seq its.toArray n }:=by
  obtain ⟨z,its,n,r,e⟩:=I.hok l _ hH
  exact ⟨z,its,n,r,r.length,e⟩
theorem mO {n:Nat} (h:n<=sizeLine):Builtin.List.listTooLong n=false:=by
  unfold Builtin.List.listTooLong
  exact ze (by omega)
end
section
variable {X:Cx}
noncomputable def pA:V->List V->Hp->VK->Prop:=fun x vs H Q=>∃ l xs y,x=.ref l/\vs=[y]/\H l=some (.lst xs)/\xs.length < sizeLine/\Q .non (upd H l (.lst (xs ++ [y])))
theorem eD:MtM X "list.append" pA:=by
  intro pins s σ H x vs v us Q I rx rv h
  obtain ⟨l,xs,y,rfl,rfl,hH,hz,q⟩:=h
  cases rx
  obtain ⟨u,rfl,ru⟩:=rv.one
  obtain ⟨z,its,n,r,hl,e⟩:=I.lstM hH
  refine call_meets F.slot_list_append ⟨_,e,rfl⟩ F.entry_list_append (F.args_list_append_2 _ _) (PySem.list_append l its.toArray n u (by rw [zb];omega)) ⟨e,?_⟩
  refine ⟨.non,_,I.lset (its':=its ++ [u]) hH e (by simp) (r.append (.cons ru .nil)) ?_,rfl,q⟩
  rw [zi,List.length_singleton]
  omega
noncomputable def pv:V->List V->Hp->VK->Prop:=fun x vs H Q=>∃ l b xs zs,x=.ref l/\vs=[.ref b]/\H l=some (.lst xs)/\H b=some (.lst zs)/\xs.length+zs.length<=sizeLine/\Q .non (upd H l (.lst (xs ++ zs)))
theorem qM:MtM X "list.extend" pv:=by
  intro pins s σ H x vs v us Q I rx rv h
  obtain ⟨l,b,xs,zs,rfl,rfl,hH,hB,hz,q⟩:=h
  cases rx
  obtain ⟨u,rfl,ru⟩:=rv.one
  cases ru
  obtain ⟨z,its,n,r,hl,e⟩:=I.lstM hH
  obtain ⟨z2,its2,n2,r2,hl2,e2⟩:=I.lstM hB
  have hsz:its.toArray.size+its2.toArray.size<=sizeLine:=by rw [zb,zb];omega
  have hlong:¬ (!its.toArray.isEmpty && Builtin.List.listTooLong (its.toArray.size+its2.toArray.size))=true:=by
    rw [mO hsz,Bool.and_false]
    exact y9
  refine call_meets F.slot_list_extend ⟨_,e,rfl⟩ F.entry_list_extend (F.args_list_extend_2 _ _)
    (AutoSeq1.list_extend_list_list_0 l its.toArray n b its2.toArray n2 hlong (by rw [zb];omega) (by omega)) ⟨e,e2,?_⟩
  refine ⟨.non,_,I.lset (its':=its ++ its2) hH e (by simp) (r.append r2) ?_,rfl,q⟩
  rw [zi]
  omega
noncomputable def rPop:V->List V->Hp->VK->Prop:=fun x vs H Q=>∃ l xs y,x=.ref l/\vs=[]/\H l=some (.lst xs)/\xs[xs.length - 1]?=some y/\Q y (upd H l (.lst xs.dropLast))
theorem xT:MtM X "list.pop" rPop:=by
  intro pins s σ H x vs v us Q I rx rv h
  obtain ⟨l,xs,y,rfl,rfl,hH,hy,q⟩:=h
  cases rx
  have hus:=rv.zero
  subst hus
  obtain ⟨z,its,n,r,hl,e⟩:=I.lstM hH
  obtain ⟨u,hu,ru⟩:=r.get hy
  have hy':its.toArray[its.toArray.size - 1]?=some u:=by
    show its.toArray[its.length - 1]?=some u
    rw [<- Array.getElem?_toList,<- hl]
    exact hu
  refine call_meets F.slot_list_pop ⟨_,e,rfl⟩ F.entry_list_pop (F.args_list_pop_1 _) (MeetsSeq.list_pop_last l its.toArray n u hy' (by rw [zb];omega)) ⟨e,?_⟩
  refine ⟨y,_,I.lset (its':=its.dropLast) hH e ?_ r.dropLast ?_,ru,q⟩
  · show its.toArray.eraseIdxIfInBounds (its.toArray.size - 1)=its.dropLast.toArray
    rw [zb,List.eraseIdxIfInBounds_toArray,oR]
  · rw [List.length_dropLast]
    omega
noncomputable def ve:R2:=fun x y H Q=>∃ l b xs zs,x=.ref l/\y=.ref b/\H l=some (.lst xs)/\H b=some (.lst zs)/\xs.length+zs.length<=sizeLine/\∀ p,H p=none->Q (.ref p) (upd H p (.lst (xs ++ zs)))
theorem xM:OpR X (binaryOp .Add) ve:=by
  intro pins s σ H x y v u Q I rx ry h
  obtain ⟨l,b,xs,zs,rfl,rfl,hH,hB,hz,q⟩:=h
  cases rx
  cases ry
  obtain ⟨z,its,n,r,hl,e⟩:=I.lstM hH
  obtain ⟨z2,its2,n2,r2,hl2,e2⟩:=I.lstM hB
  refine PySem.P.add_list e e2 ?_ (by rw [zb,zb];omega)
  have ea:its.toArray ++ its2.toArray=(its ++ its2).toArray:=by simp
  rw [ea]
  exact ⟨.ref _,_,I.lnew (t':=s.toks) (r.append r2) (by rw [zi];omega),rfl,q _ I.fresh⟩
noncomputable def rRep:R2:=fun x y H Q=>∃ l k xs,x=.ref l/\y=.int k/\H l=some (.lst xs)/\-(2 ^ 63)<=k/\k < 2 ^ 63/\xs.length * k.toNat<=sizeLine /\
  ∀ p,H p=none->Q (.ref p) (upd H p (.lst (List.replicate k.toNat xs).flatten))
theorem vL {α:Type} (xs:List α) (k:Nat):(List.replicate k xs).flatten.length=k * xs.length:=by
  induction k with
  | zero=>simp
  | succ k ih=>rw [List.replicate_succ,List.flatten_cons,zi,ih,Nat.succ_mul,Nat.add_comm]
theorem sW:OpR X (binaryOp .Mult) rRep:=by
  intro pins s σ H x y v u Q I rx ry h
  obtain ⟨l,k,xs,rfl,rfl,hH,h1,h2,hz,q⟩:=h
  cases rx
  obtain ⟨t,rfl⟩:=ry
  obtain ⟨z,its,n,r,hl,e⟩:=I.lstM hH
  have hlen:its.toArray.size * k.toNat<=sizeLine:=by rw [zb,<- hl];exact hz
  have hcap:¬ its.toArray.size * k.toNat > (2 ^ 63 - 1) / 8:=by
    have:(sizeLine:Nat)<=(2 ^ 63 - 1) / 8:=by decide
    omega
  have hfit:¬ (!Builtin.List.listFitsIndex k)=true:=by
    rw [fitsIndex_both h1 h2]
    exact y9
  have hlong:¬ Builtin.List.listTooLong (its.toArray.size * k.toNat)=true:=by
    rw [mO hlen]
    exact y9
  have hnew:List.foldl (fun x1 x2=>x1 ++ x2) #[] (List.replicate (if its.toArray.isEmpty=true then 0 else k.toNat) its.toArray)=(List.replicate k.toNat its).flatten.toArray:=by
    have f0:∀ m:Nat,List.foldl (fun x1 x2=>x1 ++ x2) #[] (List.replicate m its.toArray)=(List.replicate m its).flatten.toArray:=fun m=>by
      have:=lc its m []
      rw [List.nil_append] at this
      exact this
    rw [f0]
    cases its with
    | nil=>simp
    | cons a r'=>rw [if_neg (by simp)]
  refine wpAny_binaryOp_repeat_ref (T:="list") (U:="int") (by decide) ⟨_,e,rfl⟩ (fun s'=>typeIs_int s' k t) noFill_list_mul F.fills_int_mul F.slot_int_rmul repeat_list F.slot_int_index.lookup
    (call_meets F.slot_int_rmul (typeIs_int s k t) F.entry_int_rmul (F.args_int_rmul_2 _ _) (int___rmul___int_list k t l its.toArray n)
      ⟨e,rfl,⟨_,e,rfl⟩,call_meets F.slot_list_mul ⟨_,e,rfl⟩ F.entry_list_mul (F.args_list_mul_2 _ _) (AutoListH.list___mul___list_int_3 l its.toArray n k t hfit hcap hlong) ⟨e,?_⟩⟩)
  rw [hnew]
  exact ⟨.ref _,_,I.lnew (t':=s.toks) (r.rep k.toNat) (by rw [vL,Nat.mul_comm];exact hz),rfl,q _ I.fresh⟩
end
end L2
namespace Att
open PySem PySem.W PySem.Calls PyProof.Rows
theorem jj {P:Params} {h:Heap}:∀ (ns:List Int) (vs:List Value),WellAll P h vs (ns.map WData.int)->IntsAre vs ns:=by
  intro ns
  induction ns with
  | nil =>
    intro vs w
    rw [List.map_nil] at w
    cases w
    exact .nil
  | cons n ns ih =>
    intro vs w
    rw [zc] at w
    cases w with
    | cons a b =>
      cases a
      exact .cons _ _ (ih _ b)
theorem qu {l:OpenLaw} {n:Nat} (hn:l.most=some n) {P:Params} {h:Heap} {args:List WData} {vals:List Value}
    (hpre:l.row.toRowW.claim.pre args=true) (hwl:WellAll P h vals args) :
    ∃ a vs ns,vals=[Value.ref a]/\args=[WData.list (ns.map WData.int)]/\h.get? a=some { cls:=.type "list",data:=.seq vs.toArray }/\IntsAre vs ns/\ns.length<=n:=by
  have hsh:WShape.hasAll [] args [.list .int]=true:=(pre_splitW hpre).1
  have hc:l.pre.holds [] { args:=args }=true:=(pre_splitW hpre).2
  obtain ⟨d,r,rfl,h1,h2⟩:=hasAllW_cons hsh
  obtain rfl:=hasAllW_nil h2
  obtain ⟨xs,rfl,h3⟩:=hasW_list h1
  obtain ⟨ns,rfl⟩:=items_int h3
  have hlen:ns.length<=n:=by
    unfold OpenLaw.pre at hc
    have h4:(WTm.not (.lt (.lit (.int (n:Int))) (.len (.arg 0)))).holds [] { args:=[.list (ns.map .int)] }=true:=by
      have h4:=(holds_andW hc).1
      rw [hn] at h4
      exact h4
    have h5:=condW_of h4 (w_not (w_lt w_lit (w_len_list (w_arg rfl))))
    rw [yW] at h5
    refine Nat.le_of_not_lt fun q=>?_
    have q':(n:Int) < ((ns.length:Nat):Int):=by omega
    first
      | (rw [zd q'] at h5;exact absurd h5 (by decide))
      | (simp at h5;omega)
  cases hwl with
  | cons w1 w2 =>
    cases w2
    cases w1 with
    | list ho hall=>exact ⟨_,_,ns,rfl,rfl,ho,jj ns _ hall,hlen⟩
theorem qC (l:OpenLaw) (args:List WData):l.row.toRowW.claim.post args (.bool true) args=true :=
  postW_of (r:=l.row.toRowW) (X:=(true == true))
    (show WShape.has [] (.bool true) .bool=true by first | rfl | decide | simp [WShape.has,WShape.arms,WShape.armsAll])
    (show (WTm.eq .res (.lit (.bool true))).value [] { args:=args,res:=some (.bool true),after:=args }=some (.bool (true == true)) from w_eq_bool (w_res rfl) w_lit) rfl
theorem attach_call {l:OpenLaw} {n:Nat} {q:Program} {loose:List Str} {XP:(Str->Option Value)->Heap->Prop} {YP:World->Heap->Prop} {d:DefRec}
    (hn:l.most=some n) (hdf:d.params.defaults=[])
    (call:∀ (w:World) (s₀ s₁:Shared) (mg mb:Str->Option Value) (fa:Addr) (o:Obj) (pm cd doc:Value) (a:Addr) (vs:List Value) (ns:List Int),
      Ground q loose [] XP w s₀ mg mb s₁.heap->YP w s₁.heap ->
      s₁.heap.get? fa=some o->o.data=.func (docDef d.name d.params d.body d.scope pm cd doc)->s₁.heap.CodeRec cd d.name->mg d.name=some (.ref fa) ->
      s₁.heap.get? a=some { cls:=.type "list",data:=.seq vs.toArray }->IntsAre vs ns->ns.length<=n->s₁.gens = #[] ->
      codeAny (model l.prog w) callerA (.call (.ref fa) ⟨[.ref a],[]⟩) (fun r s'=>r=.ok (.ret (.bool true))/\OldK s₁.heap s'.heap/\s'.os=s₁.os/\AllBare s'.gens) s₁) :
    WalkO q loose XP YP l.row.toRowW d [] (fun f vs=>PySem.call f vs):=by
  intro w s₀ s₁ mg mb G Y fa o pm cd doc dV kV ho hd hcd hD hmg hg args vals as hpre hlay hrd hwl hlo
  obtain rfl:dV=.none:=Dflts.none hD hdf
  obtain rfl:kV=.none:=Dflts.noKw hD
  obtain ⟨a,vs,ns,rfl,rfl,hobj,hints,hlen⟩:=qu hn hpre hwl
  refine enter_call (codeAny_mono (call w s₀ s₁ mg mb fa o pm cd doc a vs ns G Y ho (fd_plain hd) hcd hmg hobj hints hlen hg) fun r s' hq=>?_)
  obtain ⟨rfl,h2,h3,h4⟩:=hq
  exact ⟨.inl ⟨.bool true,.bool true,[],rfl,fun _=>rfl,.bool true,qC l _,fun _=>⟨List.Pairwise.nil,fun _ hm=>(nomatch hm)⟩⟩,h2,h3,h4⟩
end Att
namespace L2
open PySem PySem.Spec PyProof.Rows
theorem kK:∀ {vs:List Value} {ns:List Int},IntsAre vs ns->Vals (ns.map V.int) vs
  | _,_,.nil=>.nil
  | _,_,.cons n t h=>.cons ⟨t,rfl⟩ (kK h)
noncomputable def wd (H:Hp):Prop:=∀ b,H b=none\/∃ o xs,H b=some (.frz o (.lst xs))
set_option tactic.hygienic true in
theorem tH {P:Program} {w:World} {K:FG} {mg mb:Str->Option Value} {CX:CXT} {k:Nat} {fa a:Addr} {fd:FuncData} {x:Str} {sp:Sp} {s₁:Shared} {vs:List Value} {ns:List Int}
    (KX:K.In s₁.heap) (hns:s₁.heap.Ns mainGlobals mg) (hb:s₁.heap.Ns builtinsNs mb) (hbb:∀ x:Str,x ≠ "__name__"->mb x=bootBuiltins x) (hlim:s₁.heap.NoLimit) (hg:s₁.gens = #[])
    (ha:s₁.heap.get? a=some { cls:=.type "list",data:=.seq vs.toArray }) (hi:IntsAre vs ns) (hl:ns.length<=sizeLine) (hr:Room k callerA)
    (F:∀ base:Heap,K.In base->base.Ns mainGlobals mg->FnOk P w K mg base CX k fa fd [x] sp) (hbind:∀ (s:Shared) (u:Value),BindsTo s fd ⟨[u],[]⟩ [(x,u)])
    (hsp:∀ H:Hp,wd H->SqL K H a (ns.map V.int)->sp [.ref a] H (fun v _=>v=.bl true) fun _ _ _=>False)
    (hCX:∀ H e s',CX [] H s₁ (fun _ _ _=>False) e s'->False) :
    codeAny (model P w) callerA (.call (.ref fa) ⟨[.ref a],[]⟩) (fun r s'=>r=.ok (.ret (.bool true))/\OldK s₁.heap s'.heap/\s'.os=s₁.os/\AllBare s'.gens) s₁:=by
  have rv:=kK hi
  have lenV:=hi.length
  have core:∀ H:Hp,wd H->SqL K H a (ns.map V.int)->HOk P w H s₁.heap->(∀ b,H b ≠ none->b=a)->(H a ≠ none->K.lookup a=none) ->
      codeAny (model P w) callerA (.call (.ref fa) ⟨[.ref a],[]⟩) (fun r s'=>r=.ok (.ret (.bool true))/\OldK s₁.heap s'.heap/\s'.os=s₁.os/\AllBare s'.gens) s₁:=by
    intro H hO hS hok hA hK
    have base_of:∀ {b:Addr} {o:Obj},s₁.heap.get? b=some o->H b=none->(lS s₁.heap H).get? b=some o:=fun e n=>tQ e n
    have noA:∀ {b:Addr} {o:Obj} {es:Array DictEntry} {ep:Nat},s₁.heap.get? b=some o->o.data=.dict es ep->H b=none:=fun {b o es ep} e d=>by
      cases q:H b with
      | none=>rfl
      | some u =>
        have e':b=a:=hA b (by rw [q];simp)
        subst e'
        rw [ha] at e;cases e
        have d':Data.seq vs.toArray _=Data.dict es ep:=d
        cases d'
    have nsK:∀ {b:Addr} {m:Str->Option Value},s₁.heap.Ns b m->(lS s₁.heap H).Ns b m:=fun {b m} ⟨o,es,ep,e,d,r⟩=>⟨o,es,ep,base_of e (noA e d),d,r⟩
    have hKb:K.In (lS s₁.heap H):=fun b o e=>base_of (KX b o e) (by
      cases q:H b with
      | none=>rfl
      | some u =>
        have e':b=a:=hA b (by rw [q];simp)
        subst e'
        rw [hK (by rw [q];simp)] at e;cases e)
    have hM:Mod K mg (lS s₁.heap H):=⟨hKb,nsK hns,⟨mb,nsK hb,hbb⟩,let ⟨mc,h1,h2⟩:=hlim;⟨mc,nsK h1,h2⟩⟩
    have e0:Env0 P w K mg (lS s₁.heap H) callerA [] s₁ H:=⟨rfl,hM,fun b o e=>vz e,Nat.le_of_eq (qZ _ _),trivial,fun b hb=>absurd (show b ∈ ([]:List Addr) from hb) (by simp),hok,.of_eq hg⟩
    refine codeAny_mono ((F _ hKb (nsK hns)).run callerA [] s₁ H ⟨[.ref a],[]⟩ [.ref a] [.ref a] _ _ hr e0 (hbind s₁ (.ref a)) (.cons rfl .nil) (hsp H hO hS)) fun r s' h=>?_
    cases r with
    | error e=>exact (hCX H e s' h).elim
    | ok fl =>
      cases fl with
      | next=>exact False.elim h
      | brk=>exact False.elim h
      | cont=>exact False.elim h
      | ret u =>
        obtain ⟨v,H',os,bare,un,hok',r',q⟩:=h
        have q':v=.bl true:=q
        subst q'
        obtain rfl:u=Value.bool true:=r'
        refine ⟨rfl,OldK.of_keep fun b o e=>?_,os,bare⟩
        cases q:H b with
        | none=>exact un.keep b o e q (by intro z;exact absurd (show b ∈ ([]:List Addr) from z) (by simp)) (by simp)
        | some u =>
          rcases hO b with z | ⟨ob,xs,z⟩
          · rw [q] at z;cases z
          · have z2:=un.frzs b ob _ z
            obtain ⟨e1,_⟩:=hok b _ z
            obtain ⟨e2,_⟩:=hok' b _ z2
            rw [e] at e1;cases e1
            exact e2
  cases hk:K.lookup a with
  | some o =>
    have e:=KX a o hk
    rw [ha] at e
    cases e
    refine core (fun _=>none) (fun _=>.inl rfl) (.inr ⟨_,vs.toArray,_,hk,rfl,rfl,rfl,by rw [zb,lenV];exact hl,by simpa using rv⟩) (fun b u z=>by have z':(none:Option HO)=some u:=z;cases z') (fun b z=>absurd rfl z) fun z=>absurd rfl z
  | none =>
    refine core (fun b=>if b=a then some (.frz { cls:=.type "list",data:=.seq vs.toArray } (.lst (ns.map V.int))) else none) (fun b=>?_) (.inl (.inr ⟨{ cls:=.type "list",data:=.seq vs.toArray },if_pos rfl⟩)) (fun b u z=>?_) (fun b z=>?_) fun _=>hk
    · by_cases hb:b=a
      · exact .inr ⟨_,_,if_pos hb⟩
      · exact .inl (if_neg hb)
    · by_cases hb:b=a
      · have z':=(if_pos hb).symm.trans z
        cases z'
        subst hb
        exact ⟨ha,by rw [yW];exact hl,vs,_,rv,ha⟩
      · have z':=(if_neg hb).symm.trans z
        cases z'
    · by_cases hb:b=a
      · exact hb
      · exact absurd (if_neg hb) z
end L2
namespace L2
open PySem PySem.Spec PyProof.Rows
end L2
namespace L2
open PySem PySem.Spec PyProof.Rows
noncomputable abbrev CX0:CXT:=fun _ _ _ _ _ _=>False
noncomputable abbrev E0:XK:=fun _ _ _=>False
theorem pass0 {X:Cx}:o5 CX0 X E0:=fun _ _ _ _ _ _ _ h=>h.elim
structure Fun (K:FG) (x qual:Str) (st:Stmt) (f:Addr) (fd:FuncData):Prop where
  ex:∃ (oc:Value) (od:Option Addr) (kV doc pm:Value) (an:Option Addr) (cdv ct:Value) (osl:Array (Option Value)),
    fd=PySem.W.fnOf x qual (bg st) (aU st) (ah st) .none kV doc pm an cdv ct/\K.lookup f=some ⟨oc,od,.func fd,osl⟩/\PySem.W.codeIn K cdv qual=true
  kp:PySem.W.keepIn K (.ref f)=true
section
variable {P:Program} {w:World} {K:FG} {mg:Str->Option Value} {base:Heap}
theorem Fun.ok {x qual:Str} {st:Stmt} {f:Addr} {fd:FuncData} {N ps:List Str} {k:Nat} {sp:Sp} (F:Fun K x qual st f fd) (S:FnScope N ps (ah st)) (len:∀ vs H Q E,sp vs H Q E->vs.length=ps.length)
    (hbody:∀ (cdv:Value) (A:Around) (outer:List Env) (s:Shared) (H:Hp) (vs:List V) (Q:VK) (E:XK),Room k (A.deeper (envOfC qual (ah st) s.heap.objs.size f cdv))->sp vs H Q E ->
      ∃ t,PSs (nv CX0 P w K mg base N qual (ah st) f cdv A outer s H E).nox (aU st) t/\t { nx:=fun _ H'=>Q .non H',rt:=Q } (iU N vs) H):FnOk P w K mg base CX0 (k+1) f fd ps sp:=by
  obtain ⟨oc,od,kV,doc,pm,an,cdv,ct,osl,rfl,lk,hcd⟩:=F.ex
  refine fn_of lk hcd S len fun A outer s H vs Q E hr hsp=>?_
  obtain ⟨t,h,q⟩:=hbody cdv A outer s H vs Q E hr hsp
  exact ⟨t,h.nox,q⟩
theorem Fun.binds {x qual:Str} {st:Stmt} {f:Addr} {fd:FuncData} {ps:List Str} (F:Fun K x qual st f fd)
    (h:∀ (kV doc pm:Value) (an:Option Addr) (cdv ct:Value) (us:List Value),us.length=ps.length->bindArgs (PySem.W.fnOf x qual (bg st) (aU st) (ah st) .none kV doc pm an cdv ct) ⟨us,[]⟩=pure (ps.zip us)):Binds K fd ps []:=by
  obtain ⟨oc,od,kV,doc,pm,an,cdv,ct,osl,rfl,lk,hcd⟩:=F.ex
  exact .all (h kV doc pm an cdv ct)
theorem yn {x qual:Str} {st:Stmt} {f:Addr} {oc:Value} {od an:Option Addr} {osl:Array (Option Value)} {kV doc pm cdv ct:Value} (l:K.lookup f=some ⟨oc,od,.func (PySem.W.fnOf x qual (bg st) (aU st) (ah st) .none kV doc pm an cdv ct),osl⟩)
    (c:PySem.W.codeIn K cdv qual=true) (k:PySem.W.keepIn K (.ref f)=true):Fun K x qual st f (PySem.W.fnOf x qual (bg st) (aU st) (ah st) .none kV doc pm an cdv ct):=⟨⟨oc,od,kV,doc,pm,an,cdv,ct,osl,rfl,l,c⟩,k⟩
end
theorem hu_of {A:Around} {k:Nat} (hr:Room k A):A.units+1 < cLine:=Nat.lt_of_le_of_lt (Nat.add_le_add_left (by decide:1<=64) _) hr.units
noncomputable def Same (H H':Hp):Prop:=∀ b o,H b=some o->H' b=some o
theorem Same.refl (H:Hp):Same H H:=fun _ _ h=>h
theorem Same.trans {H H1 H2:Hp} (a:Same H H1) (b:Same H1 H2):Same H H2:=fun c o h=>b c o (a c o h)
theorem Same.free {H H':Hp} (e:Same H H') {l:Addr} (h:H' l=Option.none):H l=Option.none:=by
  cases q:H l with
  | none=>rfl
  | some o =>
    rw [e l o q] at h
    cases h
end L2
end
section
namespace L2
open PySem PySem.Spec PyProof.Rows
section
variable {prog:Program} {w:World} {A:Around} {E:Value->Shared->Prop} {s:Shared}
theorem mn {d:Addr} {k v:Value} {Q:Unit->Shared->Prop} (ty:s.TypeIs (.ref d) "dict") (h:wpAny (model prog w) A.in1 (dictSet d k v) Q E s) :
    wpAny (model prog w) A (setItem (.ref d) k v) Q E s:=by
  unfold setItem
  refine yJ (yH (wpAny_sequenceKey ty (by decide) (yH (wpAny_callSpecial?_slot ty slot_dict_setitem (wpAny_call_entry slot_dict_setitem ty entry_dict_setitem ?_ (args_dict_setitem _ _ _))))))
  refine yH (wpAny_notOrdered_dict ty ?_)
  refine (?_:wpAny _ _ (dictSet d k v >>= _) _ _ s)
  exact yH (wpAny_mono h (fun _ _ z=>yI ⟨_,rfl,yI z⟩) fun _ _ z=>z)
theorem kM {d:Addr} {key v:Value} {hs:Int} {o:Obj} {es:Array DictEntry} {ep:Nat} {F:Option Nat->Prop} {Q:Unit->Shared->Prop} (ho:s.heap.get? d=some o) (hc:o.ExactDict) (hd:o.data=.dict es ep) (hz:es.size<=sizeLine)
    (find:wpAny (model prog w) A (dictFind d key hs) (fun r s'=>s'=s/\F r) E s)
    (old:∀ i h' o',F (some i)->h'.get? d=some o'->o'.ExactDict->o'.data=.dict (es.modify i fun e=>{ e with val:=v }) ep->Heap.SameBut d s.heap h'->Q () { s with heap:=h' })
    (new:∀ h' o',F none->h'.get? d=some o'->o'.ExactDict->o'.data=.dict (es.push ⟨hs,key,v⟩) (ep+1)->Heap.SameBut d s.heap h'->Q () { s with heap:=h' }) :
    wpAny (model prog w) A (dictSetHashed d key hs v) Q E s:=by
  unfold dictSetHashed
  refine yJ (yH (wpAny_mono find ?_ fun _ _ z=>z))
  rintro (_ | i) _ ⟨rfl,f⟩
  · exact yH (wpAny_rule (wpAny_updateDictKeys (hz:=hz) ho hd (new _ _ f (zh _ ho (Obj.isFreed_of_dict (Obj.data_mapDictKeys hd _))) (hc.mapDictKeys _) (Obj.data_mapDictKeys hd _) (Heap.SameBut.update ..))))
  · exact yH (wpAny_rule (yH (wpAny_updateDict ho hd (wpAny_point (old i _ _ f (zh _ ho (Obj.isFreed_of_dict (Obj.data_mapDict hd _))) (hc.mapDict _) (Obj.data_mapDict hd _) (Heap.SameBut.update ..))))))
end
section
variable {prog:Program} {w:World} {K:Type} [DecidableEq K] {A:Around} {E:Value->Shared->Prop} {s:Shared} {d:Addr} {k:K}
section
variable {knd:HeapKind prog w K}
noncomputable def DictOfHE (knd:HeapKind prog w K) (h:Heap) (d:Addr) (xs:List (K × Addr × Value)):Prop :=
  ∃ o es ep,h.get? d=some o/\o.ExactDict/\o.data=.dict es ep/\es.toList=xs.map (entryOfKey knd)/\(∀ x ∈ xs,knd.is h x.1 x.2.1)/\(xs.map (·.1)).Nodup/\ep=es.size
theorem DictOfHE.of {h:Heap} {d:Addr} {xs:List (K × Addr × Value)} (x:DictOfHE knd h d xs):h.DictOfH knd d xs:=let ⟨o,es,ep,h1,h2,h3,h4,h5,h6,_⟩:=x;⟨o,es,ep,h1,h2,h3,h4,h5,h6⟩
theorem qK {xs:List (K × Addr × Value)} {y:Addr × Value} (hn:(xs.map (·.1)).Nodup) (h:k ∉ xs.map (·.1)):((xs ++ [(k,y)]).map (·.1)).Nodup:=by
  rw [List.map_append]
  exact List.nodup_append.mpr ⟨hn,List.nodup_cons.mpr ⟨List.not_mem_nil,List.nodup_nil⟩,fun x hx y hy e=>h (by have:=zo.mp hy;subst this;exact e ▸ hx)⟩
theorem kF {a:Addr} {xs:List (K × Addr × Value)} {v:Value} {Q:Unit->Shared->Prop} (hu:knd.room A) (hkey:knd.is s.heap k a) (hm:DictOfHE knd s.heap d xs)
    (hQ:∀ h',DictOfHE knd h' d (storedH xs k a v)->Heap.SameBut d s.heap h'->Q () { s with heap:=h',toks:=s.toks+knd.draws k })
    (hsz:xs.length<=sizeLine:=by size_fits):wpAny (model prog w) A (dictSet d (.ref a) v) Q E s:=by
  obtain ⟨o,es,ep,ho,hc,hd,he,his,hn,rfl⟩:=hm
  unfold dictSet
  refine yJ (yH (knd.pyHash hu hkey ?_))
  refine kM (s:={ s with toks:=s.toks+knd.draws k }) (F:=fun | none=>∀ (j:Nat) (p:Addr × Value),xs[j]? ≠ some (k,p) | some j=>∃ p,xs[j]?=some (k,p)) ho hc hd (size_of_entries he ▸ hsz)
    (wpAny_dictFind_heap (s:={ s with toks:=s.toks+knd.draws k }) hu hkey ho hd he his hn (fun z=>⟨rfl,z⟩) fun j p z=>⟨rfl,p,z⟩) ?_ ?_
  · rintro i h' o' ⟨p,f⟩ g1 g2 g3 g4
    have at':=storedH_old (atKey_of_get hn f) a v
    refine hQ h' ⟨o',_,_,g1,g2,g3,?_,?_,?_,?_⟩ g4 <;> try rw [at']
    · rw [Array.toList_modify,he]
      exact modify_map_putAt (entryOfKey knd) _ k v (fun _ _=>rfl) hn f
    · intro x hx
      obtain ⟨y,hy,rfl⟩:=y6.mp hx
      have:=knd.keeps (his y hy) ho hd g4
      by_cases e:y.1=k <;> simpa [putAt,e] using this
    · exact (keys_map_putAt xs k v).symm ▸ hn
    · exact (Array.size_modify).symm
  · intro h' o' f g1 g2 g3 g4
    have at':=storedH_new (atKey_none_of_get f) a v
    refine hQ h' ⟨o',_,_,g1,g2,g3,?_,?_,?_,?_⟩ g4 <;> try rw [at']
    · simp [he,entryOfKey]
    · intro x hx
      rcases yU.mp hx with hx | hx
      · exact knd.keeps (his x hx) ho hd g4
      · cases zo.mp hx;exact knd.keeps hkey ho hd g4
    · exact qK hn (not_mem_keys_of_get f)
    · simp
theorem ky {a:Addr} {xs:List (K × Addr × Value)} {v:Value} {Q:Unit->Shared->Prop} (hu:knd.room A.in1) (hkey:knd.is s.heap k a) (hm:DictOfHE knd s.heap d xs)
    (hQ:∀ h',DictOfHE knd h' d (storedH xs k a v)->Heap.SameBut d s.heap h'->Q () { s with heap:=h',toks:=s.toks+knd.draws k })
    (hsz:xs.length<=sizeLine:=by size_fits):wpAny (model prog w) A (setItem (.ref d) (.ref a) v) Q E s :=
  mn hm.of.typeIs (kF (hsz:=hsz) hu hkey hm hQ)
end
section
variable {knd:KeyKind prog w K} {key:Value}
theorem kc {kvs:List (K × Value)} {v:Value} {Q:Unit->Shared->Prop} (hkey:knd.is k key=true) (hm:DictOfE knd s.heap d kvs)
    (hQ:∀ h',DictOfE knd h' d (stored kvs k v)->Heap.SameBut d s.heap h'->Q () { s with heap:=h',toks:=s.toks+1 })
    (hsz:kvs.length<=sizeLine:=by size_fits):wpAny (model prog w) A (dictSet d key v) Q E s:=by
  obtain ⟨o,⟨es⟩,ep,ho,hc,hd,hk,hp,hn,rfl⟩:=hm
  have same:=hp.findIdx k
  have hz:(⟨es⟩:Array DictEntry).size<=sizeLine:=by have:=hp.length;simp at this ⊢;omega
  unfold dictSet
  refine yJ (yH (knd.pyHash hkey ?_))
  refine kM (s:={ s with toks:=s.toks+1 }) (F:=fun r=>es.findIdx? (fun e=>knd.is k e.key)=r) ho hc hd hz
    (wpAny_dictFind_of (s:={ s with toks:=s.toks+1 }) hkey ho hd hk ⟨rfl,by simp⟩) ?_ ?_
  · intro i h' o' f g1 g2 g3 g4
    have at':stored kvs k v=_:=if_pos (any_of_findIdx_some (same.symm.trans f))
    refine hQ h' ⟨o',_,_,g1,g2,g3,hk.modify _ _,?_,?_,(Array.size_modify).symm⟩ g4 <;> rw [at']
    · simpa using hp.modify hn f v
    · exact (keys_map_store kvs k v).symm ▸ hn
  · intro h' o' f g1 g2 g3 g4
    have no:=not_mem_of_findIdx_none (same.symm.trans f)
    have at':stored kvs k v=_:=if_neg fun z=>by
      obtain ⟨x,hx,e⟩:=List.any_eq_true.mp z
      exact no (y6.mpr ⟨x,hx,of_decide_eq_true e⟩)
    refine hQ h' ⟨o',_,_,g1,g2,g3,hk.push hkey _,?_,?_,by simp⟩ g4 <;> rw [at']
    · simpa using hp.append hkey (knd.hash k) v
    · rw [List.map_append]
      exact List.nodup_append.mpr ⟨hn,List.nodup_cons.mpr ⟨List.not_mem_nil,List.nodup_nil⟩,fun x hx y hy e=>no (by cases zo.mp hy;have e':x=k:=e;exact e' ▸ hx)⟩
theorem jI {kvs:List (K × Value)} {v:Value} {Q:Unit->Shared->Prop} (hkey:knd.is k key=true) (hm:DictOfE knd s.heap d kvs)
    (hQ:∀ h',DictOfE knd h' d (stored kvs k v)->Heap.SameBut d s.heap h'->Q () { s with heap:=h',toks:=s.toks+1 })
    (hsz:kvs.length<=sizeLine:=by size_fits):wpAny (model prog w) A (setItem (.ref d) key v) Q E s :=
  mn hm.of.typeIs (kc (hsz:=hsz) hkey hm hQ)
end
end
section
variable {κ:Type} [DecidableEq κ]
noncomputable def jd (kvs:List (κ × V)) (k:κ):Option V:=(kvs.find? fun kv=>decide (kv.1=k)).map (·.2)
noncomputable def eW (kvs:List (κ × V)) (k:κ) (v:V):List (κ × V) :=
  if (kvs.any fun kv=>decide (kv.1=k))=true then kvs.map (fun kv=>if kv.1=k then (kv.1,v) else kv) else kvs ++ [(k,v)]
theorem gL {p:κ × V} {r:List (κ × V)} {k:κ} (e:p.1=k):jd (p :: r) k=some p.2:=by simp [jd,List.find?_cons,e]
theorem gM {p:κ × V} {r:List (κ × V)} {k:κ} (e:¬ p.1=k):jd (p :: r) k=jd r k:=by simp [jd,List.find?_cons,e]
theorem mi (k:κ):∀ kvs:List (κ × V),(kvs.any fun kv=>decide (kv.1=k))=(jd kvs k).isSome
  | []=>rfl
  | p :: r=>by
    rw [List.any_cons]
    by_cases e:p.1=k
    · simp only [gL e,zd e,Bool.true_or,Option.isSome_some]
    · rw [gM e,ze e,Bool.false_or];exact mi k r
theorem i7 (kvs:List (κ × V)) (k:κ) (v:V):(eW kvs k v).length<=kvs.length+1:=by
  unfold eW
  split
  · rw [yW];omega
  · rw [zi,zj,List.length_nil];omega
theorem RelO.isSome_eq {o:Option V} {u:Option Value} (r:RelO o u):o.isSome=u.isSome:=by
  cases o with
  | none=>cases u with
    | none=>rfl
    | some _=>exact (show False from r).elim
  | some _=>cases u with
    | none=>exact (show False from r).elim
    | some _=>rfl
theorem RelO.getD {o:Option V} {u:Option Value} {d:V} {d':Value} (r:RelO o u) (rd:RelV d d'):RelV (o.getD d) (u.getD d'):=by
  cases o with
  | none=>cases u with
    | none=>exact rd
    | some _=>exact (show False from r).elim
  | some _=>cases u with
    | none=>exact (show False from r).elim
    | some _=>exact r
theorem KV.val {kvs:List (κ × V)} {vs:List (κ × Value)} (r:KV kvs vs) (k:κ):RelO (jd kvs k) (valueAt vs k):=by
  unfold KV at r
  induction r with
  | nil=>exact True.intro
  | @cons p q ps qs h t ih =>
    obtain ⟨h1,h2⟩:=h
    by_cases e:p.1=k
    · have e':q.1=k:=h1.symm.trans e
      have b:valueAt (q :: qs) k=some q.2:=by simp [valueAt,List.find?_cons,e']
      rw [gL e,b];exact h2
    · have e':¬ q.1=k:=fun z=>e (h1.trans z)
      have b:valueAt (q :: qs) k=valueAt qs k:=by simp [valueAt,List.find?_cons,e']
      rw [gM e,b];exact ih
theorem KV.any {kvs:List (κ × V)} {vs:List (κ × Value)} (r:KV kvs vs) (k:κ):(kvs.any fun kv=>decide (kv.1=k))=vs.any fun kv=>decide (kv.1=k):=by
  unfold KV at r
  induction r with
  | nil=>rfl
  | cons h t ih=>rw [List.any_cons,List.any_cons,ih,h.1]
theorem KV.repl {kvs:List (κ × V)} {vs:List (κ × Value)} (r:KV kvs vs) (k:κ) {y:V} {u:Value} (ry:RelV y u) :
    KV (kvs.map fun kv=>if kv.1=k then (kv.1,y) else kv) (vs.map fun kv=>if kv.1=k then (kv.1,u) else kv):=by
  unfold KV at r ⊢
  induction r with
  | nil=>exact .nil
  | @cons p q ps qs h t ih =>
    rw [zc,zc]
    refine .cons ?_ ih
    obtain ⟨h1,h2⟩:=h
    by_cases e:p.1=k
    · rw [if_pos e,if_pos (h1.symm.trans e)];exact ⟨h1,ry⟩
    · rw [if_neg e,if_neg (fun z=>e (h1.trans z))];exact ⟨h1,h2⟩
theorem KV.put {kvs:List (κ × V)} {vs:List (κ × Value)} (r:KV kvs vs) (k:κ) {y:V} {u:Value} (ry:RelV y u):KV (eW kvs k y) (stored vs k u):=by
  unfold eW stored
  rw [r.any k]
  by_cases e:(vs.any fun kv=>decide (kv.1=k))=true
  · rw [if_pos e,if_pos e];exact r.repl k ry
  · rw [if_neg e,if_neg e];exact Paired.snoc r ⟨rfl,ry⟩
theorem KV.length {kvs:List (κ × V)} {vs:List (κ × Value)} (r:KV kvs vs):kvs.length=vs.length:=Paired.length r
end
theorem tL {P:Program} {w:World} {k:Key} {u:Value} (r:RelV (kV k) u):(bV P w).is k u=true:=by
  cases k with
  | inl i=>obtain ⟨t,e⟩:=(show ∃ t,u=Value.int i t from r);subst e;exact mT P w i t
  | inr x=>obtain ⟨t,e⟩:=(show ∃ t,u=Value.str x t from r);subst e;exact mS P w x t
theorem k9 {P:Program} {w:World}:∀ {ks:List Key} {us:List Value},Vals (ks.map kV) us->ItemsAre (bV P w) ks us
  | [],_,r=>by rw [List.map_nil] at r;cases r;exact .nil
  | k :: ks,_,r=>by
    rw [zc] at r
    cases r with
    | cons h t=>exact .cons (tL h) (k9 t)
noncomputable abbrev KT (H:Hp):List (List Key × V)->List (List Key × Addr × Value)->Prop:=Paired fun p q=>p.1=q.1/\H q.2.1=some (.tup (p.1.map kV))/\RelV p.2 q.2.2
theorem KT.val {H:Hp} {kvs:List (List Key × V)} {xs:List (List Key × Addr × Value)} (r:KT H kvs xs) (k:List Key):RelO (jd kvs k) ((atKey xs k).map (·.2)):=by
  induction r with
  | nil=>exact True.intro
  | @cons p q ps qs h t ih =>
    obtain ⟨h1,_,h2⟩:=h
    by_cases e:p.1=k
    · have e':q.1=k:=h1.symm.trans e
      have b:atKey (q :: qs) k=some q.2:=by simp [atKey,List.find?_cons,e']
      rw [gL e,b];exact h2
    · have e':¬ q.1=k:=fun z=>e (h1.trans z)
      have b:atKey (q :: qs) k=atKey qs k:=by simp [atKey,List.find?_cons,e']
      rw [gM e,b];exact ih
theorem KT.repl {H:Hp} {kvs:List (List Key × V)} {xs:List (List Key × Addr × Value)} (r:KT H kvs xs) (k:List Key) {y:V} {u:Value} (ry:RelV y u) :
    KT H (kvs.map fun kv=>if kv.1=k then (kv.1,y) else kv) (xs.map (putAt k u)):=by
  induction r with
  | nil=>exact .nil
  | @cons p q ps qs h t ih =>
    rw [zc,zc]
    refine .cons ?_ ih
    obtain ⟨h1,h2,h3⟩:=h
    unfold putAt
    by_cases e:p.1=k
    · rw [if_pos e,if_pos (h1.symm.trans e)];exact ⟨h1,h2,ry⟩
    · rw [if_neg e,if_neg (fun z=>e (h1.trans z))];exact ⟨h1,h2,h3⟩
theorem KT.put {H:Hp} {kvs:List (List Key × V)} {xs:List (List Key × Addr × Value)} (r:KT H kvs xs) (k:List Key) {b:Addr} {y:V} {u:Value} (hb:H b=some (.tup (k.map kV))) (ry:RelV y u) :
    KT H (eW kvs k y) (storedH xs k b u):=by
  have e:(kvs.any fun kv=>decide (kv.1=k))=(atKey xs k).isSome:=by
    rw [mi,(r.val k).isSome_eq,Option.isSome_map]
  unfold eW storedH
  rw [e]
  by_cases q:(atKey xs k).isSome=true
  · rw [if_pos q,if_pos q];exact r.repl k ry
  · rw [if_neg q,if_neg q];exact Paired.snoc r ⟨rfl,hb,ry⟩
theorem KT.keeps {H H':Hp} {kvs:List (List Key × V)} {xs:List (List Key × Addr × Value)} (r:KT H kvs xs) (ht:∀ b ys,H b=some (.tup ys)->H' b=some (.tup ys)):KT H' kvs xs :=
  Paired.mapP r fun _ _ z=>⟨z.1,ht _ _ z.2.1,z.2.2⟩
section
variable {P:Program} {w:World} {H:Hp} {h:Heap} {a:Addr}
theorem wu {u:HO} (ok:HOk P w H h) (e:Rd H a u):ObjOk P w H h a u:=e.ok ok
theorem t6 {kvs:List (Key × V)} (ok:HOk P w H h) (e:Rd H a (.dK kvs)):kvs.length<=sizeLine/\(a == sysModules)=false/\∃ vs,KV kvs vs/\DictOfE (bV P w) h a vs :=
  show ObjOk P w H h a (.dK kvs) from wu ok e
theorem wG {kvs:List (Key × V)} (ok:HOk P w H h) (e:Rd H a (.dK kvs)):kvs.length<=sizeLine/\(a == sysModules)=false/\∃ vs,KV kvs vs/\h.DictOf (bV P w) a vs:=let ⟨z,y,vs,r,d⟩:=t6 ok e;⟨z,y,vs,r,d.of⟩
theorem oQ {ks:List Key} (ok:HOk P w H h) (e:H a=some (.tup (ks.map kV))):(tupleKind (bV P w)).is h ks a:=by
  obtain ⟨_,its,r,o,h1,h2,n,h3⟩:=(show ObjOk P w H h a (.tup (ks.map kV)) from ok a _ e)
  exact ⟨o,its.toArray,n,h1,h2,congrArg Prod.fst h3,by simpa using k9 r⟩
theorem t4 {kvs:List (List Key × V)} (ok:HOk P w H h) (e:Rd H a (.dT kvs)):kvs.length<=sizeLine/\(a == sysModules)=false /\
    ∃ xs,KT H kvs xs/\DictOfHE (tupleKind (bV P w)) h a xs:=by
  obtain ⟨z,y,xs,r,o,es,ep,h1,h2,h3,h4,h5⟩:=(show ObjOk P w H h a (.dT kvs) from wu ok e)
  refine ⟨z,y,xs,r,o,es,ep,h1,h2,h3,h4,fun x hx=>?_,h5⟩
  have all:∀ {l:List (List Key × V)} {m:List (List Key × Addr × Value)},KT H l m->∀ x ∈ m,(tupleKind (bV P w)).is h x.1 x.2.1:=by
    intro l m q
    induction q with
    | nil=>intro x hx;exact nomatch hx
    | @cons p q ps qs hq t ih =>
      intro x hx
      rcases yR.mp hx with e | hx
      · subst e
        exact oQ ok (by rw [<- hq.1];exact hq.2.1)
      · exact ih x hx
  exact all r x hx
theorem wF {kvs:List (List Key × V)} (ok:HOk P w H h) (e:Rd H a (.dT kvs)):kvs.length<=sizeLine/\(a == sysModules)=false /\
    ∃ xs,KT H kvs xs/\h.DictOfH (tupleKind (bV P w)) a xs:=let ⟨z,y,xs,r,d⟩:=t4 ok e;⟨z,y,xs,r,d.of⟩
end
noncomputable def DGet (H:Hp) (a:Addr) (y:V) (r:Option V):Prop :=
  (∃ kvs k,Rd H a (.dK kvs)/\y=kV k/\r=jd kvs k)\/∃ kvs k b,Rd H a (.dT kvs)/\y=.ref b/\H b=some (.tup (k.map kV))/\r=jd kvs k
noncomputable def DPut (H:Hp) (a:Addr) (y v:V) (H':Hp):Prop :=
  (∃ kvs k,H a=some (.dK kvs)/\y=kV k/\kvs.length < sizeLine/\H'=upd H a (.dK (eW kvs k v))) \/
  ∃ kvs k b,H a=some (.dT kvs)/\y=.ref b/\H b=some (.tup (k.map kV))/\kvs.length < sizeLine/\H'=upd H a (.dT (eW kvs k v))
theorem DGet.t {H:Hp} {a b:Addr} {kvs:List (List Key × V)} {k:List Key} (e:H a=some (.dT kvs)) (eb:H b=some (.tup (k.map kV))):DGet H a (.ref b) (jd kvs k):=.inr ⟨kvs,k,b,.inl e,rfl,eb,rfl⟩
theorem DPut.t {H:Hp} {a b:Addr} {kvs:List (List Key × V)} {k:List Key} {v:V} (e:H a=some (.dT kvs)) (eb:H b=some (.tup (k.map kV))) (hl:kvs.length < sizeLine) :
    DPut H a (.ref b) v (upd H a (.dT (eW kvs k v))):=.inr ⟨kvs,k,b,e,rfl,eb,hl,rfl⟩
section
variable {X:Cx} {pins:List (Addr × Obj)} {σ:St} {H:Hp} {s:Shared} {a:Addr} {y v:V} {u r:Value} {o:Option V} {A:Around} {E:Value->Shared->Prop}
theorem rg {Q:Value->Shared->Prop} (hu:A.units+1 < cLine) (I:Inv X pins σ H s) (g:DGet H a y (some v)) (ry:RelV y u) (h:∀ w' s',Inv X pins σ H s'->RelV v w'->Q w' s') :
    wpAny (model X.prog X.w) A (getItem (.ref a) u) Q E s:=by
  rcases g with ⟨kvs,k,e,ey,l⟩ | ⟨kvs,k,b,e,ey,eb,l⟩
  · subst ey
    obtain ⟨z,hd,vs,rel,dd⟩:=wG I.hok e
    obtain ⟨w',hw,rw'⟩:=RelO.some_of (v:=v) (o:=valueAt vs k) (by rw [l];exact rel.val k)
    exact wpAny_getItem_of (tL ry) dd.mapOf hw (h w' _ (I.tok _) rw')
  · subst ey
    cases (show u=Value.ref b from ry)
    obtain ⟨z,hd,xs,rel,dd⟩:=wF I.hok e
    obtain ⟨w',hw,rw'⟩:=RelO.some_of (v:=v) (o:=(atKey xs k).map (·.2)) (by rw [l];exact rel.val k)
    obtain ⟨p,hp,hp2⟩:=yO.mp hw
    refine wpAny_getItem_heap (tupleKind_room_in1 hu) (oQ I.hok eb) dd hp ?_
    rw [hp2]
    exact h w' _ (I.tok _) rw'
theorem qe {h':Heap} {t':Nat} {ob:HO} (I:Inv X pins σ H s) (mu:Mut (H a)) (hs:Heap.SameBut a s.heap h') (he:∃ q,h'.get? a=some q) (new:ObjOk X.prog X.w (upd H a ob) h' a ob) :
    Inv X pins σ (upd H a ob) { s with heap:=h',toks:=t' } :=
  I.write (x:=a) (e:=a) mu (.inl rfl) (fun b q hb z=>(hs.2 b hb).trans z) he new
theorem yt {P:Program} {w:World} {H':Hp} {h':Heap} {kvs:List (Key × V)} {vs:List (Key × Value)} (z:kvs.length<=sizeLine) (hd:(a == sysModules)=false) (rel:KV kvs vs) (dd:DictOfE (bV P w) h' a vs) :
    ObjOk P w H' h' a (.dK kvs):=⟨z,hd,vs,rel,dd⟩
theorem rf {H':Hp} {Q:Unit->Shared->Prop} (hu:A.units+1 < cLine) (I:Inv X pins σ H s) (g:DPut H a y v H') (ry:RelV y u) (rv:RelV v r) (h:∀ s',Inv X pins σ H' s'->Q () s') :
    wpAny (model X.prog X.w) A (setItem (.ref a) u r) Q E s:=by
  rcases g with ⟨kvs,k,e,ey,l,eH⟩ | ⟨kvs,k,b,e,ey,eb,l,eH⟩
  · subst ey eH
    obtain ⟨z,hd,vs,rel,dd⟩:=t6 I.hok (.inl e)
    have hz:vs.length<=sizeLine:=by rw [<- rel.length];exact z
    have hl:(eW kvs k v).length<=sizeLine:=by have:=i7 kvs k v;omega
    refine jI (hsz:=hz) (tL ry) dd fun h' dd' hs=>h _ ?_
    have he:∃ q,h'.get? a=some q:=let ⟨q,_,_,hq,_⟩:=dd';⟨q,hq⟩
    exact qe I (by rw [e];exact True.intro) hs he (yt hl hd (rel.put k rv) dd')
  · subst ey eH
    cases (show u=Value.ref b from ry)
    obtain ⟨z,hd,xs,rel,dd⟩:=t4 I.hok (.inl e)
    have hz:xs.length<=sizeLine:=by rw [<- Paired.length rel];exact z
    have hl:(eW kvs k v).length<=sizeLine:=by have:=i7 kvs k v;omega
    refine ky (hsz:=hz) (tupleKind_room_in1 hu) (oQ I.hok eb) dd fun h' dd' hs=>h _ ?_
    obtain ⟨q,es,ep,hq,h2,h3,h4,_,h5⟩:=dd'
    refine qe I (by rw [e];exact True.intro) hs ⟨q,hq⟩ ⟨hl,hd,_,(rel.put k eb rv).keeps fun c ys ec=>?_,q,es,ep,hq,h2,h3,h4,h5⟩
    rw [aG (ne_of ec e (fun z=>nomatch z))]
    exact ec
end
theorem nt {X:Cx} {pins:List (Addr × Obj)} {σ:St} {H:Hp} {s:Shared} {a:Addr} {y:V} {o:Option V} (I:Inv X pins σ H s) (g:DGet H a y o):s.TypeIs (.ref a) "dict":=by
  rcases g with ⟨kvs,k,e,_,_⟩ | ⟨kvs,k,b,e,_,_,_⟩
  · obtain ⟨_,_,vs,_,dd⟩:=wG I.hok e
    exact dd.typeIs
  · obtain ⟨_,_,xs,_,dd⟩:=wF I.hok e
    exact dd.typeIs
end L2
namespace L2
open PySem PySem.Spec PyProof.Rows
end L2
end
section
namespace L2
open PySem PySem.Spec PyProof.Rows
noncomputable def jm (cells:List (Str × Addr)) (cs:List (Str × Addr)) (x:Str × NameKind):List (Str × Addr) :=
  if x.2 == .free then (match cells.lookup x.1 with | some c=>(x.1,c) :: cs | none=>cs) else cs
noncomputable def clo (cells:List (Str × Addr)) (names:List (Str × NameKind)):List (Str × Addr):=names.foldl (jm cells) []
theorem j8 {α β:Type} {f:α->β->Sem (ForInStep β)} {g:β->α->β}:∀ {l:List α} {c:β},(∀ x ∈ l,∀ c,f x c=pure (.yield (g c x)))->forIn l c f=pure (l.foldl g c)
  | [],c,_=>rfl
  | x :: l,c,h=>by
    rw [List.forIn_cons,h x yK,pure_bind]
    exact j8 fun y hy=>h y (yM _ hy)
theorem ge {scope:Scope} {env:Env} (h:∀ x ∈ scope.names,x.2=.free->∃ c,env.cells.lookup x.1=some c):closureFor scope env=pure (clo env.cells scope.names):=by
  simp only [closureFor]
  rw [j8 (g:=jm env.cells) (fun x hx c=>by
    obtain ⟨n,kind⟩:=x
    unfold jm
    by_cases hk:kind=.free
    · subst hk
      obtain ⟨a,e⟩:=h _ hx rfl
      have e':env.cells.lookup n=some a:=e
      simp [cellOf,e']
    · have hb:(kind == NameKind.free)=false:=by simpa using hk
      simp [hb])]
  rfl
theorem lb {cells:List (Str × Addr)} {x:Str} {c:Addr}:∀ {l:List (Str × NameKind)} {cs:List (Str × Addr)},(∀ y d,cs.lookup y=some d->cells.lookup y=some d)->(l.foldl (jm cells) cs).lookup x=some c->cells.lookup x=some c
  | [],cs,h,e=>h x c e
  | y :: l,cs,h,e=>by
    refine lb (l:=l) (cs:=jm cells cs y) (fun z d q=>?_) e
    unfold jm at q
    split at q
    · cases e2:cells.lookup y.1 with
      | none=>rw [e2] at q;exact h z d q
      | some a =>
        rw [e2] at q
        simp only [List.lookup_cons] at q
        cases hz:z == y.1 with
        | true=>rw [hz] at q;have:=eq_of_beq hz;subst this;rw [e2];exact q
        | false=>rw [hz] at q;exact h z d q
    · exact h z d q
theorem lX {cells:List (Str × Addr)} {l:List (Str × NameKind)} {x:Str} {c:Addr} (e:(clo cells l).lookup x=some c):cells.lookup x=some c:=lb (fun _ _ q=>by simp at q) e
theorem j9 {cells:List (Str × Addr)} {x:Str} {c:Addr} (hc:cells.lookup x=some c):∀ {l:List (Str × NameKind)} {cs:List (Str × Addr)},cs.lookup x=some c->(l.foldl (jm cells) cs).lookup x=some c
  | [],_,e=>e
  | y :: l,cs,e=>by
    refine j9 hc (l:=l) (cs:=jm cells cs y) ?_
    unfold jm
    split
    · cases e2:cells.lookup y.1 with
      | none=>exact e
      | some a =>
        simp only [List.lookup_cons]
        cases hz:x == y.1 with
        | true=>have:=eq_of_beq hz;subst this;rw [hc] at e2;exact e2.symm
        | false=>exact e
    · exact e
theorem ld {cells:List (Str × Addr)} {x:Str} {c:Addr} (hc:cells.lookup x=some c):∀ {l:List (Str × NameKind)} {cs:List (Str × Addr)},(x,NameKind.free) ∈ l->(l.foldl (jm cells) cs).lookup x=some c
  | [],_,m=>by simp at m
  | y :: l,cs,m=>by
    rcases yR.mp m with rfl | m
    · refine j9 hc (l:=l) ?_
      simp [jm,hc]
    · exact ld hc (l:=l) (cs:=jm cells cs y) m
theorem qf {cells:List (Str × Addr)} {l:List (Str × NameKind)} {x:Str} {c:Addr} (hc:cells.lookup x=some c) (m:(x,NameKind.free) ∈ l):(clo cells l).lookup x=some c:=ld hc m
theorem gV {env:Env}:∀ {names:List (Str × NameKind)} {x:Str},names.lookup x=some .free ->
    (names.map fun (n,k)=>if (k == NameKind.free && env.scope.kind == .function && env.kindOf n == some .cell) then (n,NameKind.cell) else (n,k)).lookup x=some .cell \/
    (names.map fun (n,k)=>if (k == NameKind.free && env.scope.kind == .function && env.kindOf n == some .cell) then (n,NameKind.cell) else (n,k)).lookup x=some .free
  | [],_,h=>by simp at h
  | (n,k) :: r,x,h=>by
    have ih:=@gV env r x
    show List.lookup x ((if (k == NameKind.free && env.scope.kind == .function && env.kindOf n == some .cell)=true then (n,NameKind.cell) else (n,k)) :: _)=_ \/
      List.lookup x ((if (k == NameKind.free && env.scope.kind == .function && env.kindOf n == some .cell)=true then (n,NameKind.cell) else (n,k)) :: _)=_
    cases hx:x == n with
    | true =>
      simp only [List.lookup_cons,hx] at h
      cases h
      split
      · left;simp [List.lookup_cons,hx]
      · right;simp [List.lookup_cons,hx]
    | false =>
      simp only [List.lookup_cons,hx] at h
      split
      · simp only [List.lookup_cons,hx];exact ih h
      · simp only [List.lookup_cons,hx];exact ih h
theorem jO {env:Env}:∀ {names:List (Str × NameKind)} {x:Str},(∀ y ∈ names,y.2 ≠ .cell) ->
    ((names.map fun (n,k)=>if (k == NameKind.free && env.scope.kind == .function && env.kindOf n == some .cell) then (n,NameKind.cell) else (n,k)).lookup x=some .cell \/
    (names.map fun (n,k)=>if (k == NameKind.free && env.scope.kind == .function && env.kindOf n == some .cell) then (n,NameKind.cell) else (n,k)).lookup x=some .free)->(x,NameKind.free) ∈ names
  | [],_,_,h=>by simp at h
  | (n,k) :: r,x,hc,h=>by
    have ih:=@jO env r x (fun y hy=>hc y (yM _ hy))
    have hk:=hc (n,k) yK
    have h':List.lookup x ((if (k == NameKind.free && env.scope.kind == .function && env.kindOf n == some .cell)=true then (n,NameKind.cell) else (n,k)) :: (r.map fun (n,k)=>if (k == NameKind.free && env.scope.kind == .function && env.kindOf n == some .cell) then (n,NameKind.cell) else (n,k)))=some .cell \/
      List.lookup x ((if (k == NameKind.free && env.scope.kind == .function && env.kindOf n == some .cell)=true then (n,NameKind.cell) else (n,k)) :: (r.map fun (n,k)=>if (k == NameKind.free && env.scope.kind == .function && env.kindOf n == some .cell) then (n,NameKind.cell) else (n,k)))=some .free:=h
    cases hx:x == n with
    | true =>
      have e:=eq_of_beq hx
      subst e
      by_cases hf:k=.free
      · subst hf;exact yK
      · exfalso
        have hb:(k == NameKind.free)=false:=by simpa using hf
        simp [hb,List.lookup_cons] at h'
        rcases h' with q | q
        · exact hk q
        · exact hf q
    | false =>
      refine yM _ (ih ?_)
      split at h'
      · simpa only [List.lookup_cons,hx] using h'
      · simpa only [List.lookup_cons,hx] using h'
noncomputable def aX (X:Cx) (NY:List Str) (scope:Scope) (s:Shared) (H:Hp) (C:Addr) (fp:List Addr):Cx where
  prog:=X.prog
  w:=X.w
  K:=X.K
  mg:=X.mg
  base:=X.base
  A:=X.A
  N:=NY
  s₀:=s
  H₀:=H
  env:=compEnvC scope (clo X.env.cells scope.names) C X.env
  outer:=X.stack
  stack:=X.stack
  ex:=fp
  fn:=fun _=>false
  calm:=X.calm
  pn:=[]
  xe:=fun _ _=>False
noncomputable def cap (ix:List (Option Nat)) (σ:St):St:=ix.map fun o=>match o with | some i=>(σ[i]?).getD none | none=>none
noncomputable def iM (sc:Scope) (XN:List Str) (Xsc:Scope) (NY:List Str) (ix:List (Option Nat)):Bool :=
  sc.kind == .function && sc.names.all (fun y=>y.2 != .cell) && sc.names.all (fun y=>y.2 != .local || sc.names.lookup y.1 == some .local) && sc.names.all (fun y=>y.2 != .free || sc.names.lookup y.1 == some .free)
    && sc.names.all (fun y=>y.2 != .free || (Xsc.names.lookup y.1 == some .cell || Xsc.names.lookup y.1 == some .free))
    && ix.length == NY.length && (NY.zip ix).all fun p=>match p.2 with | none=>true | some i=>(XN[i]? == some p.1) && sc.names.contains (p.1,NameKind.free)
structure CompOk (sc:Scope) (XN:List Str) (Xsc:Scope) (NY:List Str) (ix:List (Option Nat)):Prop where
  kind:sc.kind=.function
  nocell:∀ y ∈ sc.names,y.2 ≠ .cell
  loc:∀ y ∈ sc.names,y.2=.local->sc.names.lookup y.1=some .local
  fre:∀ y ∈ sc.names,y.2=.free->sc.names.lookup y.1=some .free
  out:∀ y ∈ sc.names,y.2=.free->Xsc.names.lookup y.1=some .cell\/Xsc.names.lookup y.1=some .free
  len:ix.length=NY.length
  cap:∀ (j:Nat) x i,NY[j]?=some x->ix[j]?=some (some i)->XN[i]?=some x/\(x,NameKind.free) ∈ sc.names
theorem CompOk.of {sc:Scope} {XN:List Str} {Xsc:Scope} {NY:List Str} {ix:List (Option Nat)} (h:iM sc XN Xsc NY ix=true):CompOk sc XN Xsc NY ix:=by
  simp only [iM,Bool.and_eq_true,List.all_eq_true,beq_iff_eq] at h
  obtain ⟨⟨⟨⟨⟨⟨h1,h2⟩,h3⟩,h4⟩,h5⟩,h6⟩,h7⟩:=h
  refine ⟨h1,fun y hy=>by simpa using h2 y hy,fun y hy e=>?_,fun y hy e=>?_,fun y hy e=>?_,h6,fun j x i e1 e2=>?_⟩
  · have:=h3 y hy;rw [e] at this;simpa using this
  · have:=h4 y hy;rw [e] at this;simpa using this
  · have:=h5 y hy;rw [e] at this;simpa using this
  · have m:(x,some i) ∈ NY.zip ix:=by
      refine yY (i:=j) ?_
      rw [List.getElem?_zip_eq_some]
      exact ⟨e1,e2⟩
    have:=h7 _ m
    simpa using this
section
variable {X:Cx}
theorem FpOk.of_upd {pins:List (Addr × Obj)} {H:Hp} {b D:Addr} {o:HO} (f:FpOk X pins H b) (h:b ≠ D):FpOk X pins (upd H D o) b:=⟨by rw [aG h];exact f.1,f.2⟩
theorem HOk.track {P:Program} {w:World} {H:Hp} {h:Heap} {a:Addr} {o:HO} (x:HOk P w H h) (hn:H a=none) (new:ObjOk P w (upd H a o) h a o):HOk P w (upd H a o) h:=fun b u e=>by
  by_cases hb:b=a
  · subst hb;rw [bm] at e;cases e;exact new
  · rw [aG hb] at e
    exact (x b u e).stay (fun c v _ q=>q) (fun c q=>by rw [aG (bd q hn)];exact q) fun c xs q=>by rw [aG (bd q hn)];exact q
noncomputable def PTs (Y:Cx) (ifs:List Expr) (t:TT):Prop :=
  ∀ (pins:List (Addr × Obj)) (s:Shared) (σ:St) (H:Hp) (Q:Bool->Hp->Prop),Inv Y pins σ H s->t σ H Q ->
    wpAny (model Y.prog Y.w) Y.A (forIn ifs true fun c r=>if r=true then do let ok <- isTrue c Y.env (eval c Y.env);pure (ForInStep.yield ok) else pure (ForInStep.yield r)) (TP Y pins σ Q) Y.xe s
noncomputable def tYes:TT:=fun _ H Q=>Q true H
theorem vh {Y:Cx}:PTs Y [] tYes:=fun pins s σ H Q I h=>wpAny_tests_nil ⟨H,I,h⟩
theorem vg {Y:Cx} {c:Expr} {t:TT} (h:PT Y c t):PTs Y [c] t:=fun pins s σ H Q I q=>wpAny_tests_one (h pins s σ H Q I q)
noncomputable def nQ (J:It) (g:TG) (tc:TT) (te:TE) (Z:List V->Hp->Prop) (τ0:St) (H1:Hp):Prop :=
  ∃ W:Nat->Nat->List V->St->Hp->Prop,(∃ m,W 0 m [] τ0 H1)/\∀ i m ys τ H,W i m ys τ H->ys.length < sizeLine /\
    ((J.stop i H/\Z ys H)\/(J.go i H/\∃ N:List V->St->Hp->Prop,(∀ ys' τ' H',N ys' τ' H'->∃ m',m' < m/\W (i+1) m' ys' τ' H')/\∀ x H',J.yld i H x H'->g x τ H' fun τ2 H2=>tc τ2 H2 fun b H3 =>
      if b=true then te τ2 H3 fun y H4=>N (ys ++ [y]) τ2 H4 else N ys τ2 H3))
noncomputable def wn (wi:TI) (g:TG) (tc:TT) (te:TE) (ix:List (Option Nat)):TE:=fun σ H Q =>
  wi σ H fun J H1=>nQ J g tc te (fun ys H2=>∀ p,H2 p=none->Q (.ref p) (upd H2 p (.lst ys))) (cap ix σ) H1
theorem oS {NY:List Str} {scope:Scope} {ix:List (Option Nat)} {pins:List (Addr × Obj)} {σ:St} {H:Hp} {s s4:Shared} {fp:List Addr} {C:Addr} (ck:CompOk scope X.N X.env.scope NY ix)
    (I:Inv X pins σ H s) (f:∀ b ∈ fp,FpOk X pins H b) (hC:s.heap.objs.size<=C) (hfp:∀ b ∈ fp,b < s.heap.objs.size) (h4:s4.os=s.os) (hg:s4.gens=s.gens) (keep:∀ b o,s.heap.get? b=some o->s4.heap.get? b=some o)
    (ns:s4.heap.Ns C fun _=>none):Inv (aX X NY scope s H C fp) [] (cap ix σ) H s4:=by
  have fC:FpOk X pins H C:=I.fpOk hC (I.hok.fresh hC)
  have cls:∀ x c,(clo X.env.cells scope.names).lookup x=some c->X.env.cells.lookup x=some c:=fun x c e=>lX e
  have hset:∀ x,(x,NameKind.free) ∈ scope.names->∃ c,X.env.cells.lookup x=some c:=fun x m=>by
    rcases ck.out _ m rfl with q | q
    · exact I.ok.has x (.inl q)
    · exact I.ok.has x (.inr q)
  refine ⟨⟨I.ok.mod,ck.kind,I.ok.glob,I.ok.blt,hC,fun x y c e1 e2=>I.ok.inj x y c (cls x c e1) (cls y c e2),fun x hx=>?_,fun x c e _=>(y9 e).elim,fun e=>I.ok.hd e,I.ok.frames,.inl rfl,fun b hb=>⟨za (zf (hfp b hb) hC),fun x c e=>(f b hb).2.2.2.2.1 x c (cls x c e)⟩,
    I.bs,zv I.ok.bsz I.sz,fun b o e hb=>?_,fun b hb hz=>?_,I.stack,I.stkFree⟩,h4,by rw [hg];exact I.bare,Un.kept keep,⟨_,ns,fun i x v e1 e2 e3=>?_⟩,fun x c e=>?_,fC.1,fun x c e=>I.freeC x c (cls x c e),fun p hp=>absurd (show p ∈ ([]:List (Addr × Obj)) from hp) (by simp),I.hok.kept keep,?_⟩
  · have m:(x,NameKind.free) ∈ scope.names:=jO ck.nocell hx
    obtain ⟨c,e⟩:=hset x m
    exact ⟨c,qf e m⟩
  · rcases (f b hb).2.2.2.1 with z | z
    · exact I.ok.noex b o e z
    · exact absurd (zf (yT e) (zv I.ok.bsz z)) (Nat.lt_irrefl _)
  · rcases yR.mp (I.stkSub b hz) with e | e
    · exact (f b hb).2.1 e
    · exact (f b hb).2.2.1 e
  · -- a captured name
    have q:∃ k,ix[i]?=some (some k)/\σ[k]?=some (some v):=by
      unfold cap at e2
      rw [y7] at e2
      cases e:ix[i]? with
      | none=>rw [e] at e2;simp at e2
      | some o =>
        rw [e] at e2
        cases o with
        | none=>simp at e2
        | some k =>
          refine ⟨k,rfl,?_⟩
          simp only [zm,Option.some.injEq] at e2
          cases e':σ[k]? with
          | none=>rw [e'] at e2;simp at e2
          | some o'=>rw [e'] at e2;simp at e2;rw [e2]
    obtain ⟨k,ek,ev⟩:=q
    obtain ⟨eN,m⟩:=ck.cap i x k e1 ek
    obtain ⟨mX,hnX,hl⟩:=I.loc
    have hv:Vis X.env.scope x:=by
      rcases ck.out _ m rfl with q | q
      · exact .inr (.inl q)
      · exact .inr (.inr q)
    obtain ⟨u,r,l⟩:=hl k x v eN ev hv
    refine ⟨u,r,.inr ?_⟩
    rcases l with ⟨kl,_⟩ | ⟨_,c,ec,hc⟩
    · exfalso
      rcases ck.out _ m rfl with q | q
      · have:=kl.symm.trans q;cases this
      · have:=kl.symm.trans q;cases this
    · obtain ⟨o,ho,hd⟩:=hc
      exact ⟨gV (ck.fre _ m rfl),c,qf ec m,o,keep c o ho,hd⟩
  · obtain ⟨v,o,ho,hd⟩:=I.cell x c (cls x c e)
    exact ⟨v,o,keep c o ho,hd⟩
  · show (cap ix σ).length=NY.length
    unfold cap
    rw [yW]
    exact ck.len
set_option tactic.hygienic true in
theorem gc {prog:Program} {w:World} {A:Around} {R:Result->Shared->Prop} {s:Shared} {elt target iter:Expr} {ifs:List Expr} {scope:Scope} {pos:Pos} {it acc:Value} {env:Env} (I:Nat->Shared->Prop)
    (turn:∀ n s,I n s->wpAny (model prog w) A (pyNext it) (fun r s₁=>match r with
      | none=>R (.ok .next) s₁
      | some v=>wpAny (model prog w) A (letOwnedTupleGo target it v) (fun _ s₁'=>wpAny (model prog w) A (assign target env v) (fun _ s₂ =>
          wpAny (model prog w) A (forIn ifs true fun c r=>if r=true then do let ok <- isTrue c env (eval c env);pure (ForInStep.yield ok) else pure (ForInStep.yield r)) (fun ok s₃ =>
            if ok=true then wpAny (model prog w) A (eval elt env) (fun x s₄ =>
              wpAny (model prog w) A (call (.builtin "list.append") [acc,x]) (fun _ s₅=>∃ m,m < n/\I m s₅) (fun _ _=>False) s₄) (fun _ _=>False) s₃
            else ∃ m,m < n/\I m s₃) (fun _ _=>False) s₂) (fun _ _=>False) s₁') (fun _ _=>False) s₁) (fun _ _=>False) s)
    (n:Nat) (h:I n s) :
    codeAny (model prog w) A (.compLoop (.ListComp elt [⟨target,iter,ifs,0⟩] scope pos) 0 it acc env) R s:=by
  refine codeAny_loop rfl I (fun n s hI=>?_) n h
  show wpAny _ A ((compTurn (.ListComp elt [⟨target,iter,ifs,0⟩] scope pos) 0 it acc env).onRaise (fun x=>do noteFrame x env;theTreesLotGoes x)) _ _ s
  refine wpAny_noted ?_
  rw [compTurn_list]
  refine yH (wpAny_standAt (yH (wpAny_mono (turn n s hI) (fun r s₁ h₁=>?_) fun _ _ h'=>h'.elim)))
  cases r with
  | none=>exact yI h₁
  | some v =>
    refine yH (wpAny_mono h₁ (fun _ s₁' h₁'=>?_) fun _ _ h'=>h'.elim)
    refine yH (wpAny_mono h₁' (fun _ s₂ h₂=>yH (wpAny_mono h₂ (fun ok s₃ h₃=>?_) fun _ _ h'=>h'.elim)) fun _ _ h'=>h'.elim)
    cases ok with
    | false=>exact yI ⟨rfl,h₃⟩
    | true =>
      exact yH (yH (wpAny_mono h₃ (fun x s₄ h₄=>yH (wpAny_mono h₄ (fun _ s₅ h₅=>yI (yI ⟨rfl,h₅⟩)) fun _ _ h'=>h'.elim)) fun _ _ h'=>h'.elim))
set_option tactic.hygienic true in
theorem nB {elt tg iter:Expr} {ifs:List Expr} {NY:List Str} {scope:Scope} {ix:List (Option Nat)} {pos:Pos} {pins:List (Addr × Obj)} {σ:St} {H:Hp} {s:Shared} {fp:List Addr} {it:Addr} {tn:Nat->Heap->Prop} {J:It} {g:TG} {tc:TT} {te:TE} {Z:List V->Hp->Prop} {E:Value->Shared->Prop}
    {RR:Value->Addr->Result->Shared->Prop} (hc:X.calm=true) (ck:CompOk scope X.N X.env.scope NY ix)
    (hg:∀ s H C fp,PG (aX X NY scope s H C fp) tg g) (ht:∀ s H C fp,PTs (aX X NY scope s H C fp) ifs tc) (he:∀ s H C fp,PE (aX X NY scope s H C fp) elt te)
    (I:Inv X pins σ H s) (T:Turn X.prog X.w X.K tg J fp it tn) (st:tn 0 s.heap) (f:∀ b ∈ fp,FpOk X pins H b) (hW:nQ J g tc te Z (cap ix σ) H)
    (hRR:∀ D C s' ys H' m,s'.heap.Ns C m->H' D=none->FpOk X pins (upd H' D (.lst ys)) C->Inv X pins σ (upd H' D (.lst ys)) s'->Z ys H'->RR (.ref D) C (.ok .next) s') :
    wpAny (model X.prog X.w) X.A (newList []) (fun acc s₃=>wpAny (model X.prog X.w) X.A (newFunctionEnv scope X.env.globals (clo X.env.cells scope.names) [] X.env.qual none .none (some X.env)) (fun cenv s₄ =>
      codeAny (model X.prog X.w) X.A (.compStart (.ListComp elt [⟨tg,iter,ifs,0⟩] scope pos) 0 (.ref it) acc { cenv with scope:=relabel scope X.env }) (RR acc cenv.locals) s₄) E s₃) E s:=by
  obtain ⟨W,⟨m0,w0⟩,turn⟩:=hW
  refine wpAny_newObj_type (wpAny_newFunctionEnv ck.nocell (by intro y hy;simp at hy) (fun h₁ hns₁ hsb₁=>?_) ck.kind)
  dsimp only at hns₁ hsb₁ ⊢
  generalize hH2:s.heap.push { cls:=.type "list",dict:=none,data:=.seq ([]:List Value).toArray }=H2 at hns₁ hsb₁ ⊢
  have hCs:H2.objs.size=s.heap.objs.size+1:=by rw [<- hH2,Heap.size_push]
  have hDC:s.heap.objs.size ≠ H2.objs.size:=by rw [hCs];exact za (Nat.lt_succ_self _)
  have hCle:s.heap.objs.size<=H2.objs.size:=by rw [hCs];exact Nat.le_succ _
  generalize hD:s.heap.objs.size=D at *
  generalize hC:H2.objs.size=C at *
  have below:∀ b o,s.heap.get? b=some o->b < D:=fun b o e=>by rw [<- hD];exact yT e
  have old:∀ b o,s.heap.get? b=some o->h₁.get? b=some o:=fun b o e=>hsb₁.extBut b o (za (zf (below b o e) hCle)) (yN _ (hH2 ▸ yN _ e))
  have hacc0:H2.get? D=some { cls:=.type "list",dict:=none,data:=.seq ([]:List Value).toArray }:=by
    rw [<- hH2,<- hD];exact yV _ rfl
  have hacc:h₁.PlainList D #[]:=⟨_,hsb₁.extBut _ _ hDC (yN _ hacc0)⟩
  have hfp:∀ b ∈ fp,b < s.heap.objs.size:=fun b hb=>by
    obtain ⟨o,e,_⟩:=T.obj 0 _ st b hb
    exact yT e
  have hfpD:∀ b ∈ fp,b < D:=fun b hb=>by rw [<- hD];exact hfp b hb
  have IY:Inv (aX X NY scope s H C fp) [] (cap ix σ) H { s with heap:=h₁,toks:=s.toks+([]:List (Str × Value)).length } :=
    oS ck I f (by rw [hD];exact hCle) hfp rfl rfl old hns₁
  have HDn:H D=none:=I.hok.fresh (by rw [hD];exact y8 _)
  have stackLt:∀ b ∈ frs X.stack,b < D:=fun b hb=>by
    obtain ⟨_,o,ho,_⟩:=I.stack.mem hb
    exact below b o ho
  have loop:∀ s₃:Shared,s₃ = { s with heap:=h₁,toks:=s.toks+([]:List (Str × Value)).length } ->
      codeAny (model X.prog X.w) X.A (.compLoop (.ListComp elt [⟨tg,iter,ifs,0⟩] scope pos) 0 (.ref it) (.ref D) (aX X NY scope s H C fp).env) (RR (.ref D) C) s₃:=by
    rintro s₃ rfl
    refine gc (fun n s'=>∃ i ys τ H' its,Inv (aX X NY scope s H C fp) [] τ H' s'/\H' D=none/\s'.heap.PlainList D its/\Vals ys its.toList/\tn i s'.heap/\(∀ b ∈ fp,H' b=none)/\W i n ys τ H') ?_ m0
      ⟨0,[],cap ix σ,H,#[],IY,HDn,hacc,.nil,T.keep _ _ _ st fun b _ o e=>old b o e,fun b hb=>(f b hb).1,w0⟩
    rintro n s3 ⟨i,ys,τ,H3,its,I3,d3,l3,v3,st3,fr3,w3⟩
    obtain ⟨nl,e3⟩:=id l3
    have I3p:Inv (aX X NY scope s H C fp) [(D,{ cls:=.type "list",data:=.seq its nl })] τ H3 s3:=I3.pins_of fun p hp=>by
      have e:p=(D,{ cls:=.type "list",data:=.seq its nl }):=by simpa using hp
      subst e
      exact ⟨e3,d3,hDC,fun z=>Nat.lt_irrefl _ (stackLt D z),fun v z=>by cases z⟩
    have fpo:∀ {H':Hp} {pl:List (Addr × Obj)},(∀ b ∈ fp,H' b=none)->(∀ p ∈ pl,p.1=D)->∀ b ∈ fp,FpOk (aX X NY scope s H C fp) pl H' b:=fun hn hp b hb =>
      ⟨hn b hb,za (zf (hfpD b hb) hCle),fun z=>by
        rcases yR.mp (I.stkSub b z) with e | e
        · exact (f b hb).2.1 e
        · exact (f b hb).2.2.1 e,.inl hb,fun x c e=>(f b hb).2.2.2.2.1 x c (lX e),fun p hp'=>by
        have e:p.1=D:=hp p ((yU.mp hp').elim (fun z=>absurd (show p ∈ ([]:List (Addr × Obj)) from z) (by simp)) fun z=>z)
        rw [e]
        exact Nat.ne_of_gt (hfpD b hb)⟩
    obtain ⟨zl,step⟩:=turn i n ys τ H3 w3
    have single:∀ p ∈ [(D,({ cls:=.type "list",data:=.seq its nl }:Obj))],p.1=D:=fun p hp=>by
      have e:p=(D,{ cls:=.type "list",data:=.seq its nl }):=by simpa using hp
      rw [e]
    rcases step with ⟨stop,qn⟩ | ⟨go,N,hN,step⟩
    · refine wpAny_mono (T.done (aX X NY scope s H C fp) rfl rfl rfl hc i _ s3 τ H3 (fun _ _=>False) I3p (fpo fr3 single) st3 stop) (fun r s4 ⟨hr,I4⟩=>?_) fun _ _ e=>e
      subst hr
      obtain ⟨mC,hnC,_⟩:=id I4.loc
      obtain ⟨e4,d4,_⟩:=I4.pin (D,{ cls:=.type "list",data:=.seq its nl }) (by simp [aX])
      have lt4:∀ b o,s.heap.get? b=some o->b ≠ D:=fun b o e=>za (below b o e)
      have u4:=I4.base
      refine hRR D C s4 ys H3 mC hnC d4 ?_ ?_ qn
      · exact (I.fpOk (by rw [hD];exact hCle) (by exact I4.free)).of_upd (Ne.symm hDC)
      · refine I.call' (ch:=fp) I4.os (H':=upd H3 D (.lst ys)) ⟨u4.keep,u4.slot,fun b o e n hx=>?_,u4.there,fun b xs e=>?_,fun b o u e=>?_,fun b ps e=>?_⟩ ?_ I4.bare fun b hb=>?_
        · rw [aG (lt4 b o e)];exact u4.free b o e n hx
        · have q:=u4.tups b xs e;rw [aG (bd q d4)];exact q
        · have q:=u4.frzs b o u e;rw [aG (bd q d4)];exact q
        · obtain ⟨more,q⟩:=u4.tbls b ps e;exact ⟨more,by rw [aG (bd q d4)];exact q⟩
        · exact I4.hok.track d4 ⟨Nat.le_of_lt zl,its.toList,nl,v3,by simpa using e4⟩
        · exact ⟨(f b hb).2.2.2.1,(f b hb).2.1,(f b hb).2.2.2.2.1,(f b hb).2.2.2.2.2⟩
    · refine wpAny_mono (T.item (aX X NY scope s H C fp) rfl rfl rfl hc i _ s3 τ H3 (fun _ _=>False) I3p (fpo fr3 single) st3 go) (fun r s4 ⟨u,hr,h4⟩=>?_) fun _ _ e=>e
      subst hr
      refine wpAny_mono h4 (fun _ s5 ⟨x,H5,I5,r5,y5,st5,fr5⟩=>?_) fun _ _ e=>e
      have I5':=I5.pinned (fpo fr5 single) (T.obj _ _ st5)
      refine wpAny_mono (hg s H C fp _ s5 τ H5 x u _ I5' r5 (step x H5 y5)) (fun _ s6 ⟨τ6,H6,I6,q6⟩=>?_) fun _ _ e=>e
      refine wpAny_mono (ht s H C fp _ s6 τ6 H6 _ I6 q6) (fun b s7 ⟨H7,I7,q7⟩=>?_) fun _ _ e=>e
      have after:∀ {s':Shared} {H':Hp},Inv (aX X NY scope s H C fp) ([(D,{ cls:=.type "list",data:=.seq its nl })] ++ jS fp s5.heap) τ6 H' s'->tn (i+1) s'.heap/\(∀ b ∈ fp,H' b=none)/\H' D=none/\s'.heap.PlainList D its:=fun {s' H'} I' =>
        ⟨T.keep _ _ _ st5 fun b hb o e=>(I'.pin (b,o) (yQ _ (yQ _ (eZ hb e)))).1,fun b hb=>by
          obtain ⟨o,e,d⟩:=T.obj _ _ st5 b hb
          exact (I'.pin (b,o) (yQ _ (yQ _ (eZ hb e)))).2.1,(I'.pin (D,_) (yQ _ (yP _ (zo.mpr rfl)))).2.1,
          nl,(I'.pin (D,_) (yQ _ (yP _ (zo.mpr rfl)))).1⟩
      cases b with
      | false =>
        rw [if_neg y9]
        rw [if_neg y9] at q7
        obtain ⟨m',hm,w7⟩:=hN _ _ _ q7
        obtain ⟨a1,a2,a3,a4⟩:=after I7
        exact ⟨m',hm,i+1,ys,τ6,H7,its,I7.pins_of (fun _ z=>absurd z (by simp)),a3,a4,v3,a1,a2,w7⟩
      | true =>
        rw [if_pos rfl]
        rw [if_pos rfl] at q7
        refine wpAny_mono (he s H C fp _ s7 τ6 H7 _ I7 q7) (fun y s8 ⟨yv,H8,I8,r8,n8⟩=>?_) fun _ _ e=>e
        obtain ⟨m',hm,w8⟩:=hN _ _ _ n8
        obtain ⟨a1,a2,a3,a4⟩:=after I8
        have hsz0:ys.length=its.size:=by simpa using v3.length
        have hsz:its.size<=sizeLine:=by omega
        refine wpAny_list_append_plain (hsz:=hsz) a4 fun h9 l9 sb9=>?_
        have I9:Inv (aX X NY scope s H C fp) [] τ6 H8 { s8 with heap:=h9,toks:=s8.toks }:=(I8.pins_of (pins':=[]) fun _ z=>absurd z (by simp)).turned (it:=D) (fun b o hb e=>(sb9.2 b hb).trans e) a3 hDC (.inr (by show s.heap.objs.size<=D;rw [hD];exact y8 _)) (fun x c e z=>?_) fun p z=>absurd (show p ∈ ([]:List (Addr × Obj)) from z) (by simp)
        · refine ⟨m',hm,i+1,ys ++ [yv],τ6,H8,its.push y,I9,a3,l9,?_,T.keep _ _ _ a1 fun b hb o e=>(sb9.2 b (za (hfpD b hb))).trans e,a2,w8⟩
          rw [Array.toList_push]
          exact v3.append (.cons r8 .nil)
        · obtain ⟨v,o,ho,_⟩:=I.cell x c (lX e)
          exact Nat.lt_irrefl _ (z ▸ below c o ho)
  exact codeAny_compStart_list (loop _ rfl) (T.self X.A 0 _ _ _ (T.keep _ _ _ st fun b _ o e=>old b o e) (loop _ rfl))
theorem vw {elt tg iter:Expr} {ifs:List Expr} {scope:Scope} {pos:Pos} {wi:TI} {g:TG} {tc:TT} {te:TE} (NY:List Str) (ix:List (Option Nat)) (hc:X.calm=true) (hi:PI X tg iter wi)
    (hg:∀ s H C fp,PG (aX X NY scope s H C fp) tg g) (ht:∀ s H C fp,PTs (aX X NY scope s H C fp) ifs tc) (he:∀ s H C fp,PE (aX X NY scope s H C fp) elt te)
    (ck:iM scope X.N X.env.scope NY ix=true) (hs:∀ x,foldedSetIterable iter X.env x=pure x:=by intro _;rfl):PE X (.ListComp elt [⟨tg,iter,ifs,0⟩] scope pos) (wn wi g tc te ix):=by
  intro pins s σ H Q I h
  have ck:=CompOk.of ck
  rw [eval_ListComp]
  refine wpAny_comprehension_free (use:=none) rfl hs (ge (scope:=scope) (env:=X.env) fun x m e=>?_) ck.kind ck.loc (thn (hi pins s σ H _ I h) fun v s1 h1=>thn h1 fun itv s2 h2=>?_)
  · rcases ck.out x m e with q | q
    · exact I.ok.has x.1 (.inl q)
    · exact I.ok.has x.1 (.inr q)
  · obtain ⟨it,fp,tn,J,H2,e,I2,T,st2,f2,hW⟩:=h2
    subst e
    refine nB (RR:=fun acc C=>compPost (model X.prog X.w) X.A X.xe none (EP X pins σ Q) acc C) hc ck hg ht he I2 T st2 f2 hW ?_
    intro D C s' ys H' m hn hD fC I' hZ
    obtain ⟨f0,f1,f2,f3,f4,f5⟩:=fC
    exact ⟨m,hn,fun h' sb=>⟨.ref D,_,I'.turned (t':=s'.toks) (fun b o hb e=>(sb.2 b hb).trans e) f0 f1 f3 f4 f5,rfl,hZ D hD⟩⟩
noncomputable def wr (i:Nat) (wi:TI) (g:TG) (tc:TT) (te:TE) (ix:List (Option Nat)):TS:=fun D σ H =>
  wi σ H fun J H1=>nQ J g tc te (fun ys H2=>∀ p,H2 p=none->D.nx (σ.set i (some (.ref p))) (upd H2 p (.lst ys))) (cap ix σ) H1
set_option tactic.hygienic true in
theorem oq {i:Nat} {y:Str} {py spos:Pos} {elt tg iter:Expr} {ifs:List Expr} {scope:Scope} {pos:Pos} {wi:TI} {g:TG} {tc:TT} {te:TE} (hN:X.N.Nodup) (hy:X.N[i]?=some y) (hx:Loc X.env.scope y) (NY:List Str) (ix:List (Option Nat)) (hc:X.calm=true) (hi:PI X tg iter wi)
    (hg:∀ s H C fp,PG (aX X NY scope s H C fp) tg g) (ht:∀ s H C fp,PTs (aX X NY scope s H C fp) ifs tc) (he:∀ s H C fp,PE (aX X NY scope s H C fp) elt te)
    (ck:iM scope X.N X.env.scope NY ix=true)
    (hsw:swapsWith (.ListComp elt [⟨tg,iter,ifs,0⟩] scope pos) (some (.Name y py)) spos.line X.env=pure true:=by rfl)
    (hf:X.fn y=true\/X.env.scope.names.lookup y=some .local:=by first | exact .inl rfl | exact .inr rfl | assumption)
    (hs:∀ x,foldedSetIterable iter X.env x=pure x:=by intro _;rfl):PS X (.Assign [.Name y py] (.ListComp elt [⟨tg,iter,ifs,0⟩] scope pos) spos) (wr i wi g tc te ix):=by
  intro pins s σ H D I h
  have ck:=CompOk.of ck
  rw [exec_Assign_Name_used _ _ _ _ hsw]
  refine yH (wpAny_standAt (yH ?_))
  show wpAny _ X.A (do let _ <- comprehension (.ListComp elt [⟨tg,iter,ifs,0⟩] scope pos) scope X.env _ (newList []) false (eval iter X.env) (some (assign (.Name y py) X.env))) _ _ s
  refine yH (wpAny_mono (wpAny_comprehension_free (use:=some (assign (.Name y py) X.env)) (Q:=fun _ s'=>SP X pins D .next s') rfl hs (ge (scope:=scope) (env:=X.env) fun x m e=>?_) ck.kind ck.loc
    (thn (hi pins s σ H _ I h) fun v s1 h1=>thn h1 fun itv s2 h2=>?_)) (fun _ s' hq=>yI (yI hq)) fun _ _ e=>e)
  · rcases ck.out x m e with q | q
    · exact I.ok.has x.1 (.inl q)
    · exact I.ok.has x.1 (.inr q)
  · obtain ⟨it,fp,tn,J,H2,e,I2,T,st2,f2,hW⟩:=h2
    subst e
    refine nB (RR:=fun acc C=>compPost (model X.prog X.w) X.A X.xe (some (assign (.Name y py) X.env)) (fun _ s'=>SP X pins D .next s') acc C) hc ck hg ht he I2 T st2 f2 hW ?_
    intro D' C s' ys H' m hn hD fC I' hZ
    obtain ⟨f0,f1,f2,f3,f4,f5⟩:=fC
    show wpAny _ X.A (assign (.Name y py) X.env (.ref D')) _ _ _
    refine wpAny_assign_Name (kN I' hN hy hx (v:=.ref D') rfl (fun s'' I'' ⟨a,sb,ha⟩=>?_) hf)
    have hCa:C ≠ a:=by
      rcases ha with e | e
      · rw [e];exact f1
      · exact fun z=>f4 y a e z.symm
    exact ⟨m,hn.sameBut sb hCa,fun h' sb'=>⟨_,_,I''.turned (t':=s''.toks) (fun b o hb e=>(sb'.2 b hb).trans e) f0 f1 f3 f4 f5,hZ D' hD⟩⟩
end
end L2
end
section
namespace L2
open PySem PySem.Spec PyProof.Rows
section
variable {X:Cx}
inductive KindOf (K:FG) (H:Hp):V->String->Prop
  | int (i:Int):KindOf K H (.int i) "int"
  | bool (b:Bool):KindOf K H (.bl b) "bool"
  | str (x:Str):KindOf K H (.str x) "str"
  | non:KindOf K H .non "NoneType"
  | tuple {a:Addr} {xs:List V}:SqT K H a xs->KindOf K H (.ref a) "tuple"
  | list {a:Addr} {xs:List V}:SqL K H a xs->KindOf K H (.ref a) "list"
  | dK {a:Addr} {kvs}:H a=some (.dK kvs)->KindOf K H (.ref a) "dict"
  | dT {a:Addr} {kvs}:H a=some (.dT kvs)->KindOf K H (.ref a) "dict"
noncomputable def lM (k t:String):Bool:=k == t || (k == "bool" && t == "int")
theorem Inv.clsK {pins:List (Addr × Obj)} {s:Shared} {σ:St} {H:Hp} {a:Addr} {k:String} (I:Inv X pins σ H s) (h:KindOf X.K H (.ref a) k):∃ o,s.heap.get? a=some o/\o.cls=.type k:=by
  cases h with
  | tuple h=>obtain ⟨its,_,⟨o,e,c,_⟩,_⟩:=I.tuple h;exact ⟨o,e,c⟩
  | list h=>obtain ⟨its,_,⟨o,n,e,c,_⟩,_⟩:=I.list h;exact ⟨o,e,c⟩
  | dK h=>obtain ⟨_,_,_,_,o,_,_,e,c,_⟩:=I.hok a _ h;exact ⟨o,e,c.1⟩
  | dT h=>obtain ⟨_,_,_,_,o,_,_,e,c,_⟩:=I.hok a _ h;exact ⟨o,e,c.1⟩
theorem il:di X (.builtin "isinstance") (fun xs H Q=>∃ x k,xs=[x,.ty "int"]/\KindOf X.K H x k/\Q (.bl (lM k "int")) H):=by
  intro pins s σ H xs us Q I r h
  obtain ⟨x,k,rfl,hk,q⟩:=h
  obtain ⟨u,v,rfl,ru,rv⟩:=jE r
  cases (show v=Value.type "int" from rv)
  cases hk with
  | int i=>obtain ⟨tk,rfl⟩:=ru;exact IsiPair.int_int ⟨.bl true,H,I,rfl,q⟩
  | bool b=>cases (show u=Value.bool b from ru);exact IsiPair.bool_int ⟨.bl true,H,I,rfl,q⟩
  | str z=>obtain ⟨tk,rfl⟩:=ru;exact IsiPair.str_int ⟨.bl false,H,I.tok _,rfl,q⟩
  | non=>cases (show u=Value.none from ru);exact IsiPair.NoneType_int ⟨.bl false,H,I.tok _,rfl,q⟩
  | tuple hh=>cases ru;obtain ⟨o,e,c⟩:=I.clsK (.tuple hh);exact IsiPair.tuple_int e c ⟨.bl false,H,I.tok _,rfl,q⟩
  | list hh=>cases ru;obtain ⟨o,e,c⟩:=I.clsK (.list hh);exact IsiPair.list_int e c ⟨.bl false,H,I.tok _,rfl,q⟩
  | dK hh=>cases ru;obtain ⟨o,e,c⟩:=I.clsK (.dK hh);exact IsiPair.dict_int e c ⟨.bl false,H,I.tok _,rfl,q⟩
  | dT hh=>cases ru;obtain ⟨o,e,c⟩:=I.clsK (.dT hh);exact IsiPair.dict_int e c ⟨.bl false,H,I.tok _,rfl,q⟩
theorem gz:di X (.builtin "isinstance") (fun xs H Q=>∃ x k,xs=[x,.ty "bool"]/\KindOf X.K H x k/\Q (.bl (lM k "bool")) H):=by
  intro pins s σ H xs us Q I r h
  obtain ⟨x,k,rfl,hk,q⟩:=h
  obtain ⟨u,v,rfl,ru,rv⟩:=jE r
  cases (show v=Value.type "bool" from rv)
  cases hk with
  | int i=>obtain ⟨tk,rfl⟩:=ru;exact IsiPair.int_bool ⟨.bl false,H,I.tok _,rfl,q⟩
  | bool b=>cases (show u=Value.bool b from ru);exact IsiPair.bool_bool ⟨.bl true,H,I,rfl,q⟩
  | str z=>obtain ⟨tk,rfl⟩:=ru;exact IsiPair.str_bool ⟨.bl false,H,I.tok _,rfl,q⟩
  | non=>cases (show u=Value.none from ru);exact IsiPair.NoneType_bool ⟨.bl false,H,I.tok _,rfl,q⟩
  | tuple hh=>cases ru;obtain ⟨o,e,c⟩:=I.clsK (.tuple hh);exact IsiPair.tuple_bool e c ⟨.bl false,H,I.tok _,rfl,q⟩
  | list hh=>cases ru;obtain ⟨o,e,c⟩:=I.clsK (.list hh);exact IsiPair.list_bool e c ⟨.bl false,H,I.tok _,rfl,q⟩
  | dK hh=>cases ru;obtain ⟨o,e,c⟩:=I.clsK (.dK hh);exact IsiPair.dict_bool e c ⟨.bl false,H,I.tok _,rfl,q⟩
  | dT hh=>cases ru;obtain ⟨o,e,c⟩:=I.clsK (.dT hh);exact IsiPair.dict_bool e c ⟨.bl false,H,I.tok _,rfl,q⟩
theorem dP:di X (.builtin "isinstance") (fun xs H Q=>∃ x k,xs=[x,.ty "tuple"]/\KindOf X.K H x k/\Q (.bl (lM k "tuple")) H):=by
  intro pins s σ H xs us Q I r h
  obtain ⟨x,k,rfl,hk,q⟩:=h
  obtain ⟨u,v,rfl,ru,rv⟩:=jE r
  cases (show v=Value.type "tuple" from rv)
  cases hk with
  | int i=>obtain ⟨tk,rfl⟩:=ru;exact IsiPair.int_tuple ⟨.bl false,H,I.tok _,rfl,q⟩
  | bool b=>cases (show u=Value.bool b from ru);exact IsiPair.bool_tuple ⟨.bl false,H,I.tok _,rfl,q⟩
  | str z=>obtain ⟨tk,rfl⟩:=ru;exact IsiPair.str_tuple ⟨.bl false,H,I.tok _,rfl,q⟩
  | non=>cases (show u=Value.none from ru);exact IsiPair.NoneType_tuple ⟨.bl false,H,I.tok _,rfl,q⟩
  | tuple hh=>cases ru;obtain ⟨o,e,c⟩:=I.clsK (.tuple hh);exact IsiPair.tuple_tuple e c ⟨.bl true,H,I,rfl,q⟩
  | list hh=>cases ru;obtain ⟨o,e,c⟩:=I.clsK (.list hh);exact IsiPair.list_tuple e c ⟨.bl false,H,I.tok _,rfl,q⟩
  | dK hh=>cases ru;obtain ⟨o,e,c⟩:=I.clsK (.dK hh);exact IsiPair.dict_tuple e c ⟨.bl false,H,I.tok _,rfl,q⟩
  | dT hh=>cases ru;obtain ⟨o,e,c⟩:=I.clsK (.dT hh);exact IsiPair.dict_tuple e c ⟨.bl false,H,I.tok _,rfl,q⟩
theorem kH:di X (.builtin "isinstance") (fun xs H Q=>∃ x k,xs=[x,.ty "list"]/\KindOf X.K H x k/\Q (.bl (lM k "list")) H):=by
  intro pins s σ H xs us Q I r h
  obtain ⟨x,k,rfl,hk,q⟩:=h
  obtain ⟨u,v,rfl,ru,rv⟩:=jE r
  cases (show v=Value.type "list" from rv)
  cases hk with
  | int i=>obtain ⟨tk,rfl⟩:=ru;exact IsiPair.int_list ⟨.bl false,H,I.tok _,rfl,q⟩
  | bool b=>cases (show u=Value.bool b from ru);exact IsiPair.bool_list ⟨.bl false,H,I.tok _,rfl,q⟩
  | str z=>obtain ⟨tk,rfl⟩:=ru;exact IsiPair.str_list ⟨.bl false,H,I.tok _,rfl,q⟩
  | non=>cases (show u=Value.none from ru);exact IsiPair.NoneType_list ⟨.bl false,H,I.tok _,rfl,q⟩
  | tuple hh=>cases ru;obtain ⟨o,e,c⟩:=I.clsK (.tuple hh);exact IsiPair.tuple_list e c ⟨.bl false,H,I.tok _,rfl,q⟩
  | list hh=>cases ru;obtain ⟨o,e,c⟩:=I.clsK (.list hh);exact IsiPair.list_list e c ⟨.bl true,H,I,rfl,q⟩
  | dK hh=>cases ru;obtain ⟨o,e,c⟩:=I.clsK (.dK hh);exact IsiPair.dict_list e c ⟨.bl false,H,I.tok _,rfl,q⟩
  | dT hh=>cases ru;obtain ⟨o,e,c⟩:=I.clsK (.dT hh);exact IsiPair.dict_list e c ⟨.bl false,H,I.tok _,rfl,q⟩
theorem rB {bs:List Bool}:((List.range bs.length).all fun i=>bs.getD i false)=bs.all id:=by
  rw [Bool.eq_iff_iff]
  simp only [List.all_eq_true,List.mem_range,id]
  constructor
  · intro h b hb
    obtain ⟨i,hi,rfl⟩:=List.mem_iff_getElem.mp hb
    simpa [List.getD,hi] using h i hi
  · intro h i hi
    simpa [List.getD,hi] using h _ (List.getElem_mem hi)
theorem kh (hc:X.calm=true):di X (.builtin "all") (fun xs H Q=>∃ (a:Addr) (bs:List Bool),xs=[.ref a]/\SqL X.K H a (bs.map V.bl)/\Q (.bl (bs.all id)) H):=by
  intro pins s σ H xs us Q I r h
  obtain ⟨a,bs,rfl,hq,q⟩:=h
  obtain ⟨u,rfl,ru⟩:=mh r
  cases ru
  obtain ⟨its,rv,p,hz⟩:=I.list hq
  have hl:=rv.length
  rw [yW] at hl
  have hlt:a < s.heap.objs.size:=by obtain ⟨o,_,e,_⟩:=id p;exact yT e
  refine call_all_walk (wpAny_pyIter_list p.isList ?_)
  refine ⟨s.heap.objs.size,_,_,_,_,_,fun i=>bs.getD i false,rfl,Walks.list (show X.A.in1.handled=none from I.ok.hd hc) s.heap.objs.size a (za hlt) its.toArray,⟨⟨_,yV _ rfl,rfl,rfl⟩,p.isList.at fun o e=>yN _ e⟩,?_,?_⟩
  · intro i v s' Q' E' hv hQ'
    have hv':its[i]?=some v:=by simpa using hv
    have hi:i < bs.length:=by
      have:=(yX.mp hv').1
      omega
    obtain ⟨u,hu,ru⟩:=rv.get (i:=i) (x:=V.bl (bs[i])) (by simp [hi])
    rw [hv'] at hu
    cases hu
    cases (show v=Value.bool bs[i] from ru)
    refine zu ?_
    have e:bs.getD i false=bs[i]:=by simp [List.getD,hi]
    have hQ2:Q' (bs.getD i false) s':=hQ'
    rw [e] at hQ2
    exact hQ2
  · intro h' tk hk
    have I1:Inv X pins σ H { s with heap:=h',toks:=tk }:=I.kept fun b o e=>hk b o (by
      intro hm
      have e':b=s.heap.objs.size:=by simpa using hm
      exact absurd (e' ▸ yT e) (Nat.lt_irrefl _)) (yN _ e)
    refine ⟨.bl (bs.all id),H,I1,?_,q⟩
    show Value.bool _=Value.bool _
    rw [zb,<- hl,rB]
end
end L2
end
section
namespace L2
open PySem PySem.Spec PyProof.Rows
structure Callee (P:Program) (w:World) (K:FG) (mg:Str->Option Value) (base:Heap) (x:Str) (k:Nat) (ps:List Str) (sp:Sp):Prop where
  ex:∃ (f:Addr) (fd:FuncData),FnOk P w K mg base CX0 k f fd ps sp/\mg x=some (.ref f)/\PySem.W.keepIn K (.ref f)=true/\Binds K fd ps []
structure DefAt (K:FG) (mg:Str->Option Value) (x:Str) (st:Stmt) (f:Addr) (fd:FuncData):Prop where
  fn:Fun K x x st f fd
  mg:mg x=some (.ref f)
noncomputable def Def (K:FG) (mg:Str->Option Value) (x:Str) (st:Stmt):Prop:=∃ f fd,DefAt K mg x st f fd
theorem Def.callee {P:Program} {w:World} {K:FG} {mg:Str->Option Value} {base:Heap} {x:Str} {st:Stmt} {k:Nat} {ps:List Str} {sp:Sp} (D:Def K mg x st)
    (hb:∀ (kV doc pm:Value) (an:Option Addr) (cdv ct:Value) (us:List Value),us.length=ps.length->bindArgs (PySem.W.fnOf x x (bg st) (aU st) (ah st) .none kV doc pm an cdv ct) ⟨us,[]⟩=pure (ps.zip us))
    (h:∀ f fd,Fun K x x st f fd->FnOk P w K mg base CX0 k f fd ps sp):Callee P w K mg base x k ps sp :=
  let ⟨f,fd,d⟩:=D
  ⟨f,fd,h f fd d.fn,d.mg,d.fn.kp,d.fn.binds hb⟩
section
variable {X:Cx} {x:Str} {p pos:Pos} {e:Expr} {es:List Expr} {t:TA} {k:Nat} {ps:List Str} {sp:Sp}
noncomputable def tFn (sp:Sp) (t:TA):TE:=fun σ H Q=>t σ H fun vs H1=>sp vs H1 Q E0
theorem pe_fn (c:Callee X.prog X.w X.K X.mg X.base x k ps sp) (hr:Room k X.A) (ha:PA X (e :: es) t) (hg:Gl X x:=by rfl) (hdb:(x == ("__debug__":Str))=false:=by decide)
    (he:starEach (e :: es) X.env=(false,eval e X.env) :: starEach es X.env:=by rfl) (hpl:(backTo pos (starEach es X.env)).any (·.1)=false:=by rfl):PE X (.Call (.Name x p) (e :: es) [] pos) (tFn sp t):=by
  obtain ⟨f,fd,F,hm,hk,hb⟩:=c.ex
  have h:=vy (pos:=pos) (p:=p) (dvs:=[]) (E:=E0) F hr hg hm hk hb .nil pass0 ha hdb he hpl
  intro pins s σ H Q I q
  refine h pins s σ H Q I ?_
  show t σ H fun vs H1=>sp (vs ++ []) H1 Q E0
  have q':t σ H (fun vs H1=>sp vs H1 Q E0):=q
  simpa using q'
end
noncomputable def But (p:Addr) (H H':Hp):Prop:=∀ b o,H b=some o->b ≠ p->H' b=some o
theorem But.trans {p:Addr} {H H1 H2:Hp} (a:But p H H1) (b:But p H1 H2):But p H H2:=fun c o h n=>b c o (a c o h n) n
noncomputable abbrev Pt:=Int × Int
noncomputable def aq (p q r:Pt):Int:=(q.1 - p.1) * (r.2 - p.2) - (q.2 - p.2) * (r.1 - p.1)
noncomputable def Small (p:Pt):Prop:=-(2 ^ 62) < p.1/\p.1 < 2 ^ 62/\-(2 ^ 62) < p.2/\p.2 < 2 ^ 62
noncomputable def Rising (ps:List Pt):Prop:=∀ (i j:Nat) (p q:Pt),i < j->ps[i]?=some p->ps[j]?=some q->p.1 < q.1
noncomputable def NoLine (ps:List Pt):Prop:=∀ (i j k:Nat) (p q r:Pt),i < j->j < k->ps[i]?=some p->ps[j]?=some q->ps[k]?=some r->aq p q r ≠ 0
structure GoodSh (ps:List Pt):Prop where
  pos:0 < ps.length
  most:ps.length<=24
  small:∀ p ∈ ps,Small p
  rising:Rising ps
  noline:NoLine ps
noncomputable def iX:List Pt->List (Pt × Pt)
  | []=>[]
  | p :: r=>r.map (fun q=>(p,q)) ++ iX r
theorem k5:∀ {ps:List Pt} {i j:Nat} {p q:Pt},i < j->ps[i]?=some p->ps[j]?=some q->(p,q) ∈ iX ps
  | [],_,_,_,_,_,h,_=>by simp at h
  | a :: r,0,0,_,_,h,_,_=>by omega
  | a :: r,0,j+1,p,q,_,h1,h2=>by
    simp at h1 h2;subst h1
    exact yP _ (y6.mpr ⟨q,yY h2,rfl⟩)
  | a :: r,i+1,0,_,_,h,_,_=>by omega
  | a :: r,i+1,j+1,p,q,h,h1,h2=>yQ _ (k5 (ps:=r) (i:=i) (j:=j) (by omega) (by simpa using h1) (by simpa using h2))
theorem mN:∀ {ps:List Pt} {p q:Pt},(p,q) ∈ iX ps->∃ i j:Nat,i < j/\ps[i]?=some p/\ps[j]?=some q
  | [],_,_,h=>by simp [iX] at h
  | a :: r,p,q,h=>by
    rcases yU.mp h with h | h
    · obtain ⟨z,hz,e⟩:=y6.mp h
      cases e
      obtain ⟨j,hj,e⟩:=List.mem_iff_getElem.mp hz
      exact ⟨0,j+1,by omega,rfl,by simp [hj,e]⟩
    · obtain ⟨i,j,h0,h1,h2⟩:=mN h
      exact ⟨i+1,j+1,by omega,by simpa using h1,by simpa using h2⟩
theorem kY:∀ ps:List Pt,(iX ps).length<=ps.length * ps.length
  | []=>by simp [iX]
  | a :: r=>by
    have ih:=kY r
    simp only [iX,zi,yW,zj]
    have:(r.length+1) * (r.length+1)=r.length * r.length+2 * r.length+1:=by
      rw [Nat.add_mul,Nat.mul_add];omega
    omega
noncomputable def rF (ps:List Pt) (z:Pt):Prop:=∀ (i j:Nat) (p q:Pt),i < j->ps[i]?=some p->ps[j]?=some q->aq p q z ≠ 0
noncomputable def above (ps:List Pt) (x y:Int):Nat:=((iX ps).filter fun pr=>decide (aq pr.1 pr.2 (x,y)<=0)).length
theorem t9 {α:Type} {p q:α->Bool}:∀ {l:List α},(∀ a ∈ l,p a=true->q a=true)->(l.filter p).length<=(l.filter q).length
  | [],_=>by simp
  | a :: l,h=>by
    have ih:=t9 (l:=l) fun b hb=>h b (yM _ hb)
    have ha:=h a yK
    cases hp:p a with
    | true=>rw [List.filter_cons_of_pos hp,List.filter_cons_of_pos (ha hp)];simpa using ih
    | false =>
      rw [List.filter_cons_of_neg (by simp [hp])]
      cases hq:q a with
      | true=>rw [List.filter_cons_of_pos hq];simp;omega
      | false=>rw [List.filter_cons_of_neg (by simp [hq])];exact ih
theorem t8 {α:Type} {p q:α->Bool}:∀ {l:List α} {z:α},(∀ a ∈ l,p a=true->q a=true)->z ∈ l->q z=true->p z=false->(l.filter p).length < (l.filter q).length
  | [],_,_,hz,_,_=>by simp at hz
  | a :: l,z,h,hz,h1,h2=>by
    have hl:∀ b ∈ l,p b=true->q b=true:=fun b hb=>h b (yM _ hb)
    rcases yR.mp hz with rfl | hz
    · rw [List.filter_cons_of_neg (by simp [h2]),List.filter_cons_of_pos h1]
      have:=t9 hl
      simp;omega
    · have ih:=t8 hl hz h1 h2
      have ha:=h a yK
      cases hp:p a with
      | true=>rw [List.filter_cons_of_pos hp,List.filter_cons_of_pos (ha hp)];simpa using ih
      | false =>
        rw [List.filter_cons_of_neg (by simp [hp])]
        cases hq:q a with
        | true=>rw [List.filter_cons_of_pos hq];simp;omega
        | false=>rw [List.filter_cons_of_neg (by simp [hq])];exact ih
theorem qj (p q:Pt) (x y:Int):aq p q (x,y+1)=aq p q (x,y)+(q.1 - p.1):=by
  unfold aq
  have e:(q.1 - p.1) * (y+1 - p.2)=(q.1 - p.1) * (y - p.2)+(q.1 - p.1):=by
    rw [show y+1 - p.2=(y - p.2)+1 by omega,Int.mul_add,Int.mul_one]
  show (q.1 - p.1) * (y+1 - p.2) - (q.2 - p.2) * (x - p.1)=(q.1 - p.1) * (y - p.2) - (q.2 - p.2) * (x - p.1)+(q.1 - p.1)
  rw [e];omega
theorem uw {ps:List Pt} {x y:Int} (R:Rising ps) {i j:Nat} {p q:Pt} (hij:i < j) (hi:ps[i]?=some p) (hj:ps[j]?=some q) (h0:aq p q (x,y)=0):above ps x (y+1) < above ps x y:=by
  refine t8 (z:=(p,q)) (fun pr hpr h=>?_) (k5 hij hi hj) (by simp [h0]) ?_
  · obtain ⟨i',j',h',e1,e2⟩:=mN (p:=pr.1) (q:=pr.2) hpr
    have:=R i' j' _ _ h' e1 e2
    have h:=of_decide_eq_true h
    rw [qj] at h
    exact zd (by omega)
  · have:=R i j _ _ hij hi hj
    show decide (aq p q (x,y+1)<=0)=false
    rw [qj,h0]
    exact ze (by omega)
theorem ux (ps:List Pt) (x y:Int):above ps x y<=ps.length * ps.length:=zv (List.length_filter_le _ _) (kY ps)
theorem c7 {α:Type} {l:List α} {z a:α} {i:Nat} (h:(l ++ [z])[i]?=some a):(l[i]?=some a/\i < l.length)\/(a=z/\i=l.length):=by
  by_cases hi:i < l.length
  · rw [zr hi] at h;exact .inl ⟨h,hi⟩
  · rw [List.getElem?_append_right (by omega)] at h
    have:i - l.length=0:=by
      cases e:i - l.length with
      | zero=>rfl
      | succ n=>rw [e] at h;simp at h
    rw [this] at h;simp at h
    exact .inr ⟨h.symm,by omega⟩
theorem Rising.snoc {ps:List Pt} {z:Pt} (R:Rising ps) (h:∀ p ∈ ps,p.1 < z.1):Rising (ps ++ [z]):=fun i j p q hij h1 h2=>by
  rcases c7 h1 with ⟨a1,b1⟩ | ⟨rfl,b1⟩
  · rcases c7 h2 with ⟨a2,b2⟩ | ⟨rfl,b2⟩
    · exact R i j p q hij a1 a2
    · exact h p (yY a1)
  · rcases c7 h2 with ⟨a2,b2⟩ | ⟨rfl,b2⟩
    · omega
    · omega
theorem NoLine.snoc {ps:List Pt} {z:Pt} (N:NoLine ps) (F:rF ps z):NoLine (ps ++ [z]):=fun i j k p q r hij hjk h1 h2 h3=>by
  rcases c7 h1 with ⟨a1,b1⟩ | ⟨rfl,b1⟩
  · rcases c7 h2 with ⟨a2,b2⟩ | ⟨rfl,b2⟩
    · rcases c7 h3 with ⟨a3,b3⟩ | ⟨rfl,b3⟩
      · exact N i j k p q r hij hjk a1 a2 a3
      · exact F i j p q hij a1 a2
    · rcases c7 h3 with ⟨a3,b3⟩ | ⟨rfl,b3⟩ <;> omega
  · rcases c7 h2 with ⟨a2,b2⟩ | ⟨rfl,b2⟩ <;> omega
section InBlock
variable {X:Cx} {NY:List Str} {scope:Scope} {s:Shared} {H:Hp} {C:Addr} {fp:List Addr}
end InBlock
end L2
end
section
namespace L2
open PySem PySem.Spec PyProof.Rows
mutual
inductive DV (K:FG) (H:Hp):V->PyData->Prop
  | non:DV K H .non .none
  | bl (b:Bool):DV K H (.bl b) (.bool b)
  | int (i:Int):DV K H (.int i) (.int i)
  | str (x:Str):DV K H (.str x) (.str x)
  | tup {a:Addr} {xs:List V} {ds:List PyData}:SqT K H a xs->DVs K H xs ds->DV K H (.ref a) (.tuple ds)
  | lst {a:Addr} {xs:List V} {ds:List PyData}:SqL K H a xs->DVs K H xs ds->DV K H (.ref a) (.list ds)
inductive DVs (K:FG) (H:Hp):List V->List PyData->Prop
  | nil:DVs K H [] []
  | cons {x:V} {d:PyData} {xs:List V} {ds:List PyData}:DV K H x d->DVs K H xs ds->DVs K H (x :: xs) (d :: ds)
end
section
variable {X:Cx} {pins:List (Addr × Obj)} {σ:St} {H:Hp} {s:Shared}
mutual
theorem DV.reads (I:Inv X pins σ H s):∀ {v:V} {d:PyData} {u:Value},DV X.K H v d->RelV v u->∃ as,Reads s.heap u d as
  | _,_,u,.non,r=>by cases (show u=Value.none from r);exact ⟨_,.none⟩
  | _,_,u,.bl b,r=>by cases (show u=Value.bool b from r);exact ⟨_,.bool b⟩
  | _,_,u,.int i,r=>by obtain ⟨t,rfl⟩:=r;exact ⟨_,.int i t⟩
  | _,_,u,.str x,r=>by obtain ⟨t,rfl⟩:=r;exact ⟨_,.str x t⟩
  | _,_,u,.tup (a:=a) h rs,r=>by
    cases (show u=Value.ref a from r)
    obtain ⟨its,rv,⟨o,e,c,n,d⟩,_⟩:=I.tuple h
    obtain ⟨as,q⟩:=DVs.reads I rs rv
    exact ⟨_,.tuple e c d (by simpa using q)⟩
  | _,_,u,.lst (a:=a) h rs,r=>by
    cases (show u=Value.ref a from r)
    obtain ⟨its,rv,⟨o,n,e,c,_,d⟩,_⟩:=I.list h
    obtain ⟨as,q⟩:=DVs.reads I rs rv
    exact ⟨_,.list e c d (by simpa using q)⟩
theorem DVs.reads (I:Inv X pins σ H s):∀ {v:List V} {d:List PyData} {us:List Value},DVs X.K H v d->Vals v us->∃ as,ReadsAll s.heap us d as
  | _,_,_,.nil,.nil=>⟨_,.nil⟩
  | _,_,_,.cons h r,.cons q t=>by
    obtain ⟨as,e1⟩:=DV.reads I h q
    obtain ⟨bs,e2⟩:=DVs.reads I r t
    exact ⟨_,.cons e1 e2⟩
end
end
end L2
end
section
namespace L2
open PySem PySem.Spec PyProof.Rows
end L2
end
section
namespace L2
open PySem PySem.Spec PyProof.Rows
end L2
end
section
namespace L2
open PySem PySem.Spec PyProof.Rows
end L2
end
section
namespace L2
open PySem PySem.Spec PyProof.Rows
end L2
end
section
namespace L2
open PySem PySem.Spec PyProof.Rows
end L2
end
section
namespace L2
open PySem PySem.Spec PyProof.Rows
end L2
end
section
namespace L2
open PySem PySem.Spec PyProof.Rows
end L2
end
section
namespace L2
open PySem PySem.Spec PyProof.Rows
section
variable {X:Cx}
noncomputable def kC (n:Nat):List V:=(List.range n).map fun (k:Nat)=>V.int (0+(k:Int))
noncomputable def wj (ta:TA):TE:=fun σ H Q=>ta σ H fun vs H1=>∃ j:Int,vs=[.int j]/\-(2 ^ 62)<=j/\j<=16777216/\∀ p,H1 p=none->Q (.ref p) (upd H1 p (.lst (kC j.toNat)))
theorem qB:∀ {n:Nat} {acc:List Value},acc.length=n->(∀ (j:Nat) v,acc[j]?=some v->∃ t,v=Value.int (0+(j:Int) * 1) t)->Vals (kC n) acc:=by
  intro n
  induction n with
  | zero=>intro acc hl _;cases acc with | nil=>exact .nil | cons a r=>simp at hl
  | succ n ih =>
    intro acc hl hx
    obtain ⟨init,last,rfl⟩:∃ init last,acc=init ++ [last]:=⟨acc.dropLast,acc.getLast (by intro e;rw [e] at hl;simp at hl),(List.dropLast_concat_getLast _).symm⟩
    have hl':init.length=n:=by simpa using hl
    have h1:=ih hl' fun j v hv=>hx j v (by rw [zr (yX.mp hv).1];exact hv)
    obtain ⟨t,ht⟩:=hx n last (by rw [<- hl',List.getElem?_append_right (y8 _)];simp)
    have e:kC (n+1)=kC n ++ [V.int (0+(n:Int))]:=by simp [kC,List.range_succ]
    rw [e]
    exact h1.append (.cons ⟨t,by rw [ht,Int.mul_one]⟩ .nil)
theorem vt {a:Expr} {ta:TA} {p1 p2 pos1 pos2:Pos} (hc:X.calm=true) (hgl:Gl X "list") (hml:X.mg "list"=none) (hg:Gl X "range") (hm:X.mg "range"=none) (hbl:bootBuiltins "list"=some (.type "list")) (ha:PA X [a] ta)
    (hs:starEach [.Call (.Name "range" p2) [a] [] pos2] X.env=[(false,eval (.Call (.Name "range" p2) [a] [] pos2) X.env)]) (hs2:starEach [a] X.env=[(false,eval a X.env)]) :
    PE X (.Call (.Name "list" p1) [.Call (.Name "range" p2) [a] [] pos2] [] pos1) (wj ta):=by
  intro pins s σ H Q I h
  refine Call_ (gI I hgl hml hbl (PyProof.Rows.callWith_type1 ?_ hs rfl))
  rw [hs]
  show wpAny _ _ (spliced ((false,eval (.Call (.Name "range" p2) [a] [] pos2) X.env) :: [])) _ _ s
  refine Calls.spliced_cons (Call_ (gI I hg hm boot_range (PyProof.Rows.callWith_type1 (thn (ha pos2 pins s σ H _ I h) fun us s1 ⟨vs,H1,I1,r1,q1⟩=>?_) hs2 rfl)))
  obtain ⟨j,rfl,h1,h2,q⟩:=q1
  cases r1 with
  | cons r rr =>
    cases rr
    obtain ⟨t,rfl⟩:=r
    refine call_range_1 (Calls.spliced_nil ?_)
    have I2:Inv X pins σ H1 { s1 with heap:=s1.heap.push { cls:=.type "range",data:=.fields #[.int 0 s1.toks,.int j t,.int 1 (s1.toks+1)] },toks:=s1.toks+1+1 }:=I1.kept fun b o e=>yN _ e
    have hn:Builtin.Range.rangeSize 0 j 1=(j.toNat:Int):=by rw [rangeSize_one];split <;> omega
    refine call_list_range (n:=j.toNat) (I.ok.hd hc) (IsRange.new ..) (small_one (by decide) (by decide) h1 (by omega)) hn (by omega) fun h' tk acc c' hk hS hacc=>?_
    have rv:=qB (n:=j.toNat) (acc:=acc.toList) (by simpa using hacc.1) fun k v hv=>hacc.2 k v (by simpa using hv)
    have hz:(kC j.toNat).length<=sizeLine:=by
      rw [sizeLine_eq];simp [kC];omega
    exact ⟨.ref _,_,I2.laid (t':=tk) hk (y8 _) (show ObjOk X.prog X.w _ h' _ (.lst (kC j.toNat)) from ⟨hz,acc.toList,c',rv,by simpa using hS⟩),rfl,q _ (I2.hok.fresh (y8 _))⟩
end
end L2
end
section
namespace L2
open PySem PySem.Spec PyProof.Rows
end L2
end
section
namespace L2
open PySem PySem.Spec PyProof.Rows
end L2
end
section
namespace PySem
open Sem (wp)
end PySem
end
section
namespace L2
open PySem PySem.Spec PyProof.Rows
end L2
end
section
namespace L2
open PySem PySem.Spec PyProof.Rows
end L2
end
section
namespace L2
open PySem PySem.Spec PyProof.Rows
section
variable {X:Cx}
theorem tu:MtR X "list.index" (fun x vs H Q=>∃ (a:Addr) (xs:List V) (k:V) (j:Nat),x=.ref a/\vs=[k]/\SqL X.K H a xs/\dh k=true/\xs.all dh=true/\(∃ y,xs[j]?=some y/\eqV y k=true)/\(∀ (i:Nat) (y:V),i < j->xs[i]?=some y->eqV y k=false)/\Q (.int j) H):=by
  intro pins s σ H x vs v us Q I rx rv h
  obtain ⟨a,xs,k,j,rfl,rfl,hl,fk,fx,⟨y,hy,ey⟩,hno,q⟩:=h
  cases rx
  obtain ⟨u,rfl,ru⟩:=mh rv
  obtain ⟨its,r,⟨o,n,e,hc,hd,hs⟩,hz⟩:=I.list hl
  obtain ⟨w,hw,rw'⟩:=r.get hy
  have hlen:=r.length
  have hj:j < its.length:=(yX.mp hw).1
  have fy:∀ z ∈ xs,dh z=true:=List.all_eq_true.mp fx
  have hit:eqU k its.toArray[j]=true:=by
    have e1:its.toArray[j]=w:=by
      have:=(yX.mp hw).2
      simpa using this
    rw [e1,lT rw' (fy y (yY hy))]
    exact ey
  have no:∀ m (hm:m < its.toArray.size),m < j->eqU k its.toArray[m]=false:=fun m hm hmj=>by
    have hm':m < xs.length:=by simp at hm;omega
    obtain ⟨w2,hw2,rw2⟩:=r.get (yS hm')
    have e1:its.toArray[m]=w2:=by
      have:=(yX.mp hw2).2
      simpa using this
    rw [e1,lT rw2 (fy _ (List.getElem_mem _))]
    exact hno m _ hmj (yS hm')
  have ho:s.heap.get? a=some { cls:=.type "list",dict:=none,data:=.seq its.toArray n,slots:=o.slots }:=by
    rw [e]
    obtain ⟨c,d,dt,sl⟩:=o
    dsimp only at hc hd hs
    subst hc hd hs
    rfl
  have hjs:(j:Int) < 2 ^ 63 - 1:=by
    have:sizeLine < 2 ^ 60:=by decide
    omega
  refine call_meets F.slot_list_index ⟨_,ho,rfl⟩ F.entry_list_index (F.args_list_index_2 _ _) (SeqAt.list_indexAt a its.toArray n none o.slots u (eqU k) j (by simpa using hj) hjs hit no) ⟨ho,fun z hz'=>eF ru fk r fx z (by simpa using hz'),?_⟩
  exact ⟨.int j,H,I.tok _,⟨_,rfl⟩,q⟩
end
end L2
end
section
namespace PyProof.Rows
open PySem
section
variable {prog:Program} {w:World} {A:Around} {E:Value->Shared->Prop} {s:Shared}
theorem kg {l:Addr} {vs:List Value} {Q:List Value->Shared->Prop} (hl:s.heap.IsTuple l vs.toArray)
    (h:Q vs { s with heap:=(s.heap.push (seqObj "list" #[] 0)).update s.heap.objs.size (Obj.mapSeq (· ++ vs.toArray)) }) (hsz:vs.length<=sizeLine:=by size_fits) :
    wpAny (model prog w) A (collect (.ref l)) Q E s:=by
  obtain ⟨⟨c,dd,da,sl⟩,h1,e1,n,e2⟩:=hl
  obtain ⟨hp,g,dr,tk,os⟩:=s
  simp only at e1 e2 h1
  subst e1 e2
  have h2:(hp.push (seqObj "list" #[] 0)).get? l=some { cls:=.type "tuple",dict:=dd,data:=.seq vs.toArray n,slots:=sl }:=yN _ h1
  have h3:(hp.push (seqObj "list" #[] 0)).get? hp.objs.size=some (seqObj "list" #[] 0):=yV _ rfl
  unfold collect
  refine yH (wpAny_runValue (codeAny_builtin entry_proto_collect' ?_))
  unfold Builtin.«proto.collect»
  refine yH (wpAny_newList (yI ⟨Code.quiet_builtin _ (by decide +kernel),codeAny_builtin entry_list_iadd' ?_⟩))
  wp_walk
  rw [show (Obj.mapSeq (fun x=>x ++ vs.toArray) (seqObj "list" #[] 0)).data.pastItsLine=none from pastItsLine_seq (by simp;omega)]
  have h4:=zh (Obj.mapSeq (· ++ vs.toArray)) h3 rfl
  refine yI (yI (yH (wpAny_load h4 ?_)))
  have e:((#[]:Array Value) ++ vs.toArray).toList=vs:=by simp
  exact yI (e.symm ▸ h)
theorem ls {l:Addr} {vs:List Value} {ns:List Int} {Q:Value->Shared->Prop} (hl:s.heap.IsTuple l vs.toArray) (hI:IntsAre vs ns) (h64:vs.length < 64)
    (h:∀ (out:Array Value) (ns':List Int),IntsAre out.toList ns'->ns'.Perm ns->ns'.Pairwise (·<=·)->Q (.ref (s.heap.objs.size+1)) { s with heap:=sortedAll s.heap vs out }) :
    wpAny (model prog w) A (call (.builtin "sorted") [.ref l]) Q E s:=by
  have z:∀ hp:Heap,((hp.push (seqObj "list" #[] 0)).update hp.objs.size (Obj.mapSeq (· ++ vs.toArray))).objs.size=hp.objs.size+1:=fun hp=>by rw [Heap.size_update,Heap.size_push]
  obtain ⟨hp,g,dr,tk,os⟩:=s
  have got:=yV (h:=(hp.push (seqObj "list" #[] 0)).update hp.objs.size (Obj.mapSeq (· ++ vs.toArray))) (o:=seqObj "list" vs.toArray 0) rfl
  rw [z] at got
  refine Calls.call_function_entry kind_sorted plain_sorted entry_sorted (args_sorted1 _) (yH (yI (yH (kg hl (yH (wpAny_newList ?_))))))
  dsimp only
  rw [z]
  exact yH (yJ (wpAny_call_entry slot_list_sort ⟨_,got,rfl⟩ entry_list_sort (list_sort_tree got hI h64 fun out ns' a b c=>⟨_,rfl,yI ⟨_,rfl,h out ns' a b c⟩⟩) (args_list_sort _)))
end
end PyProof.Rows
end
section
namespace L2
open PySem PySem.Spec PyProof.Rows
theorem gK:∀ {us:List Value} {ns:List Int},IntsAre us ns->Vals (ns.map V.int) us
  | _,_,.nil=>.nil
  | _,_,.cons n t h=>.cons ⟨t,rfl⟩ (gK h)
section
variable {X:Cx}
noncomputable def sE (K:FG):List V->Hp->VK->Prop:=fun xs H Q=>∃ (l:Addr) (ns:List Int),xs=[.ref l]/\(SqT K H l (ns.map V.int)\/SqL K H l (ns.map V.int))/\ns.length < 64/\∀ p,H p=none->∀ ns':List Int,ns'.Perm ns->ns'.Pairwise (·<=·)->Q (.ref p) (upd H p (.lst (ns'.map V.int)))
theorem nE:di X (.builtin "sorted") (sE X.K):=by
  intro pins s σ H xs us Q I rx h
  obtain ⟨l,ns,rfl,hl,h64,q⟩:=h
  obtain ⟨u,rfl,ru⟩:=mh rx
  cases (show u=Value.ref l from ru)
  have fin:∀ (vs:List Value) (out:Array Value) (ns':List Int),IntsAre out.toList ns'->ns'.Perm ns->ns'.Pairwise (·<=·)->EP X pins σ Q (.ref (s.heap.objs.size+1)) { s with heap:=sortedAll s.heap vs out }:=fun vs out ns' a1 a2 a3=>by
    obtain ⟨e,he⟩:=sortedAll_at s.heap vs out
    have hlen:ns'.length < 64:=by rw [a2.length_eq];exact h64
    refine ⟨.ref (s.heap.objs.size+1),_,I.laid (a:=s.heap.objs.size+1) (o:=.lst (ns'.map V.int)) (t':=s.toks) (fun _ _ q=>sortedAll_old q) (Nat.le_succ _) ⟨?_,out.toList,e,gK a1,by rw [he]⟩,rfl,q _ (I.hok.fresh (Nat.le_succ _)) ns' a2 a3⟩
    rw [yW]
    have:64<=sizeLine:=by decide
    omega
  rcases hl with hl | hl
  · obtain ⟨its,r,p,hz⟩:=I.tuple hl
    have hlen:=r.length
    exact ls (show s.heap.IsTuple l its.toArray from p) (j6 r) (by simp at hlen;omega) fun out ns' a1 a2 a3=>fin its out ns' a1 a2 a3
  · obtain ⟨its,r,p,hz⟩:=I.list hl
    have hlen:=r.length
    exact sorted_ints (by simpa using p.isList) (j6 r) (by simp at hlen;omega) fun out ns' a1 a2 a3=>fin its out ns' a1 a2 a3
end
end L2
end
section
namespace L2
open PySem PySem.W PySem.Spec PyProof.Rows
noncomputable abbrev excO (a:Addr) (cls:Value):HO:=.ext fun h=>∃ o,h.get? a=some o/\o.cls=cls
noncomputable abbrev excF (ob:Obj) (a:Addr) (cls:Value):HO:=.frz ob (excO a cls)
structure ExcK (K:FG) (D:Addr):Prop where
  ga:findIn K (.ref D) "__getattribute__"=some (some (.builtin "BaseException.__getattribute__"))
  gt:findIn K (.ref D) "__getattr__"=some none
  cl:(clsIn K D).isSome=true
  ca:findIn K (.ref D) "__class__"=some (some (.builtin "object.__class__"))
  sp:specialIn K (.builtin "object.__class__") "__get__"=some (some (.builtin "getset_descriptor.__get__"))
  tk:takesIn K (.builtin "object.__class__")=some true
  ob:mroIn K D (.type "object")=some true
  be:mroIn K D (.type "BaseException")=some true
structure XName (K:FG) (c:String) (D:Addr):Prop where
  ns:nsIn K mainGlobals (Str.ofString c)=some (some (.ref D))
  ex:ExcK K D
theorem XName.inj {K:FG} {c:String} {D D':Addr} (a:XName K c D) (b:XName K c D'):D=D':=by
  have:=a.ns.symm.trans b.ns
  cases this
  rfl
end L2
end
section
namespace L2
open PySem
section
variable {K:FG} {h:Heap} {mg:Str->Option Value}
theorem iH {h:Heap}:∀ {l:List Nat} {a:Nat} {o:Obj},(l.filterMap fun a=>(h.get? a).map fun o=>(a,o)).lookup a=some o->h.get? a=some o
  | [],_,_,e=>by cases e
  | b :: l,a,o,e=>by
    rw [List.filterMap_cons] at e
    cases hb:h.get? b with
    | none=>rw [hb] at e;exact iH e
    | some p =>
      rw [hb] at e
      replace e:List.lookup a ((b,p) :: l.filterMap fun a=>(h.get? a).map fun o=>(a,o))=some o:=e
      rw [List.lookup_cons] at e
      cases hab:a == b with
      | true=>rw [hab] at e;cases eq_of_beq hab;cases e;exact hb
      | false=>rw [hab] at e;exact iH e
theorem fragAt_in (h:Heap):(tV h).In h:=fun _ _ e=>iH e
noncomputable def stPos (s:Stmt):Pos:=match s with
  | .FunctionDef _ _ _ _ _ _ _ _ _ p=>p
  | _=>⟨0,0,0,0⟩
set_option tactic.hygienic true in
theorem yx {n:Str} {st:Stmt} (X:K.In h) (G:h.Ns mainGlobals mg) (e:nk K n=kb n st):Def K mg n st:=by
  unfold nk at e
  split at e
  · rename_i f hf
    split at e
    · rename_i oc od fd sl hl
      unfold kb at e
      obtain ⟨name,qual,params,body,scope,globals,closure,defaults,kw,doc,pm,an,cd,ct,bi⟩:=fd
      simp only [Option.some.injEq,Prod.mk.injEq] at e
      obtain ⟨rfl,rfl,rfl,rfl,rfl,rfl,rfl,rfl,rfl,hc⟩:=e
      exact ⟨f,_,yn (st:=st) hl hc (by unfold PySem.W.keepIn;simp only [hl]),PySem.W.mg_of X G hf⟩
    · cases e
  · cases e
theorem oE {α β:Type} {f g:α->β} {l:List α} (e:l.map f=l.map g) (i:Nat) {a:α} (h:l[i]?=some a):f a=g a:=List.map_inj_left.mp e a (yY h)
theorem aW {ds:List (Str × Stmt)} {n:Str} {st:Stmt} (X:K.In h) (G:h.Ns mainGlobals mg) (e:ds.map (fun p=>nk K p.1)=ds.map (fun p=>kb p.1 p.2)) (i:Nat) (hi:ds[i]?=some (n,st)):Def K mg n st:=yx X G (oE e i hi)
theorem cn {l:List Str} {n:Str} (X:K.In h) (G:h.Ns mainGlobals mg) (e:l.map (PySem.W.nsIn K mainGlobals)=l.map (fun _=>some none)) (i:Nat) (hi:l[i]?=some n):mg n=none:=PySem.W.mg_none_of X G (oE e i hi)
set_option tactic.hygienic true in
theorem lN {l:List (Str × Int)} {n:Str} {v:Int} (X:K.In h) (G:h.Ns mainGlobals mg) (e:l.map (fun p=>lO K p.1)=l.map (fun p=>some p.2)) (i:Nat) (hi:l[i]?=some (n,v)):∃ t,mg n=some (.int v t):=by
  have e:=oE e i hi
  unfold lO at e
  dsimp only at e
  split at e
  · rename_i v' t hs;cases e;exact ⟨t,PySem.W.mg_of X G hs⟩
  · cases e
theorem walk_ofS {l:PySem.W.OpenLaw} {n k:Nat} {q:Program} {loose:List Str} {XP:(Str->Option Value)->Heap->Prop} {YP:World->Heap->Prop} {d:DefRec} {S:FG->Prop} {CX:CXT} {sp:FG->Sp} {x:Str}
    (hn:l.most=some n) (hn2:n<=sizeLine) (hdf:d.params.defaults=[]) (hr:Room k callerA)
    (hY:∀ (w:World) (h:Heap),YP w h->∃ K:FG,K.In h/\S K)
    (F:∀ (w:World) (mg:Str->Option Value) (fa:Addr) (h:Heap) (K:FG),S K->K.In h->h.Ns mainGlobals mg->mg d.name=some (.ref fa) ->
      ∃ fd:FuncData,(∀ (s:Shared) (u:Value),BindsTo s fd ⟨[u],[]⟩ [(x,u)]) /\
        ∀ base:Heap,K.In base->base.Ns mainGlobals mg->FnOk l.prog w K mg base CX k fa fd [x] (sp K))
    (hsp:∀ (K:FG) (H:Hp) (a:Addr) (ns:List Int),ns.length<=n->wd H->SqL K H a (ns.map V.int)->sp K [.ref a] H (fun v _=>v=.bl true) fun _ _ _=>False)
    (hCX:∀ (H:Hp) (s:Shared) (e:Value) (s':Shared),CX [] H s (fun _ _ _=>False) e s'->False) :
    PySem.W.WalkO q loose XP YP l.row.toRowW d [] (fun f vs=>PySem.call f vs):=by
  refine Att.attach_call hn hdf fun w s₀ s₁ mg mb fa o pm cd doc a vs ns G Y ho hd hcd hmg hobj hints hlen hg=>?_
  obtain ⟨K,KX,hS⟩:=hY w _ Y
  obtain ⟨fd,hb,hF⟩:=F w mg fa _ K hS KX G.T.g hmg
  exact tH KX G.T.g G.T.b G.T.builtins G.T.nolimit hg hobj hints (zv hlen hn2) hr hF hb (fun H hO hS=>hsp K H a ns hlen hO hS) fun H e s'=>hCX H s₁ e s'
end
end L2
end
section
namespace L3
open PySem L2
theorem nsE {α:Type} {p:α} {P:Prop} (e:(none:Option α)=some p):P:=nomatch e
inductive D where
 | non | bl (b:Bool) | int (i:Int) | str (x:Str)
 | tup (xs:List D) | lst (xs:List D) | fls (xs:List D) | dk (kvs:List (Key × D)) | dt (kvs:List (List Key × D))
 | exc (c:String) (fs:List (String × D))
noncomputable def ie:D->Bool
 | .lst _=>true
 | .dk _=>true
 | .dt _=>true
 | _=>false
noncomputable def FzL (K:FG) (H:Hp) (a:Addr) (vs:List V):Prop:=(∃ o,H a=some (.frz o (.lst vs)))\/∃ (o:Obj) (its:Array Value) (n:Nat),K.lookup a=some o/\o.cls=.type "list"/\o.dict=none/\o.data=.seq its n/\its.size<=sizeLine/\Vals vs its.toList
theorem FzL.sq {K:FG} {H:Hp} {a:Addr} {vs:List V} (h:FzL K H a vs):SqL K H a vs:=h.elim (fun ⟨o,e⟩=>.inl (.inr ⟨o,e⟩)) .inr
inductive Reps (R:D->V->List Addr->Prop):List D->List V->List Addr->Prop where
 | nil:Reps R [] [] []
 | cons {d v L ds vs L'}:R d v L->Reps R ds vs L'->Reps R (d :: ds) (v :: vs) (L ++ L')
inductive Rep (K:FG) (H:Hp):D->V->List Addr->Prop where
 | non:Rep K H .non .non []
 | bl (b:Bool):Rep K H (.bl b) (.bl b) []
 | int (i:Int):Rep K H (.int i) (.int i) []
 | str (x:Str):Rep K H (.str x) (.str x) []
 | tup {xs a vs L}:H a=some (.tup vs)->Reps (Rep K H) xs vs L->Rep K H (.tup xs) (.ref a) L
 | lst {xs a vs L}:H a=some (.lst vs)->Reps (Rep K H) xs vs L->Rep K H (.lst xs) (.ref a) (a :: L)
 | lstF {xs a vs L}:FzL K H a vs->Reps (Rep K H) xs vs L->Rep K H (.fls xs) (.ref a) L
 | dK {kvs a ps L}:H a=some (.dK ps)->kvs.map (·.1)=ps.map (·.1)->Reps (Rep K H) (kvs.map (·.2)) (ps.map (·.2)) L->Rep K H (.dk kvs) (.ref a) (a :: L)
 | dT {kvs a ps L}:H a=some (.dT ps)->kvs.map (·.1)=ps.map (·.1)->Reps (Rep K H) (kvs.map (·.2)) (ps.map (·.2)) L->Rep K H (.dt kvs) (.ref a) (a :: L)
 | exc {c a D ob}:XName K c D->H a=some (excF ob a (.ref D))->Rep K H (.exc c []) (.ref a) []
noncomputable def RepV (K:FG) (H:Hp) (d:D) (v:V) (L:List Addr):Prop:=match d with
 | .non=>v=.non/\L=[]
 | .bl b=>v=.bl b/\L=[]
 | .int i=>v=.int i/\L=[]
 | .str x=>v=.str x/\L=[]
 | .tup xs=>∃ a vs,v=.ref a/\H a=some (.tup vs)/\Reps (Rep K H) xs vs L
 | .lst xs=>∃ a vs L',v=.ref a/\L=a :: L'/\H a=some (.lst vs)/\Reps (Rep K H) xs vs L'
 | .fls xs=>∃ a vs,v=.ref a/\FzL K H a vs/\Reps (Rep K H) xs vs L
 | .dk kvs=>∃ a ps L',v=.ref a/\L=a :: L'/\H a=some (.dK ps)/\kvs.map (·.1)=ps.map (·.1)/\Reps (Rep K H) (kvs.map (·.2)) (ps.map (·.2)) L'
 | .dt kvs=>∃ a ps L',v=.ref a/\L=a :: L'/\H a=some (.dT ps)/\kvs.map (·.1)=ps.map (·.1)/\Reps (Rep K H) (kvs.map (·.2)) (ps.map (·.2)) L'
 | .exc c fs=>fs=[]/\L=[]/\∃ a D ob,v=.ref a/\XName K c D/\H a=some (excF ob a (.ref D))
theorem Rep.view {K:FG} {H:Hp} {d:D} {v:V} {L:List Addr} (r:Rep K H d v L):RepV K H d v L:=by
 cases r with
 | non=>exact ⟨rfl,rfl⟩
 | bl b=>exact ⟨rfl,rfl⟩
 | int i=>exact ⟨rfl,rfl⟩
 | str x=>exact ⟨rfl,rfl⟩
 | tup h r=>exact ⟨_,_,rfl,h,r⟩
 | lst h r=>exact ⟨_,_,_,rfl,rfl,h,r⟩
 | lstF h r=>exact ⟨_,_,rfl,h,r⟩
 | dK h k r=>exact ⟨_,_,_,rfl,rfl,h,k,r⟩
 | dT h k r=>exact ⟨_,_,_,rfl,rfl,h,k,r⟩
 | exc n h=>exact ⟨rfl,rfl,_,_,_,rfl,n,h⟩
noncomputable def MutAt (H:Hp) (b:Addr):Prop:=(∃ xs,H b=some (.lst xs))\/(∃ ps,H b=some (.dK ps))\/∃ ps,H b=some (.dT ps)
theorem MutAt.ex {H:Hp} {b:Addr} (m:MutAt H b):∃ o,H b=some o:=by
 rcases m with ⟨_,h⟩ | ⟨_,h⟩ | ⟨_,h⟩ <;> exact ⟨_,h⟩
theorem MutAt.notup {H:Hp} {b:Addr} {vs:List V} (m:MutAt H b) (h:H b=some (.tup vs)):False:=by
 rcases m with ⟨_,e⟩ | ⟨_,e⟩ | ⟨_,e⟩ <;> rw [e] at h <;> cases h
theorem MutAt.nofrz {H:Hp} {b:Addr} {o:Obj} {u:HO} (m:MutAt H b) (h:H b=some (.frz o u)):False:=by
 rcases m with ⟨_,e⟩ | ⟨_,e⟩ | ⟨_,e⟩ <;> rw [e] at h <;> cases h
theorem FzL.keep {K:FG} {H H':Hp} {a:Addr} {vs:List V} {M:Addr->Prop} (h:FzL K H a vs) (k:∀ b o,H b=some o->¬ M b->H' b=some o) (hm:∀ b,M b->MutAt H b):FzL K H' a vs:=h.elim (fun ⟨o,e⟩=>.inl ⟨o,k a _ e fun z=>(hm a z).nofrz e⟩) .inr
section
variable {K:FG} {H H':Hp} {d:D} {v:V} {L:List Addr}
theorem Rep.inH (r:Rep K H d v L):∀ b ∈ L,MutAt H b:=by
 refine Rep.rec (motive_1:=fun _ _ L _=>∀ b ∈ L,MutAt H b) (motive_2:=fun _ _ L _=>∀ b ∈ L,MutAt H b) ?_ ?_ ?_ ?_ ?_ ?_ ?_ ?_ ?_ ?_ ?_ ?_ r
 ·intro b hb;cases hb
 ·intro _ b hb;cases hb
 ·intro _ b hb;cases hb
 ·intro _ b hb;cases hb
 ·intro _ _ _ _ _ _ ih;exact ih
 ·intro _ _ _ _ h _ ih b hb
  rcases yR.mp hb with e | hb
  ·rw [e];exact .inl ⟨_,h⟩
  ·exact ih b hb
 ·intro _ _ _ _ _ _ ih;exact ih
 ·intro _ _ _ _ h _ _ ih b hb
  rcases yR.mp hb with e | hb
  ·rw [e];exact .inr (.inl ⟨_,h⟩)
  ·exact ih b hb
 ·intro _ _ _ _ h _ _ ih b hb
  rcases yR.mp hb with e | hb
  ·rw [e];exact .inr (.inr ⟨_,h⟩)
  ·exact ih b hb
 ·intro _ _ _ _ _ _ b hb;cases hb
 ·intro b hb;cases hb
 ·intro _ _ _ _ _ _ _ _ i1 i2 b hb
  rcases yU.mp hb with h | h
  ·exact i1 b h
  ·exact i2 b h
theorem Reps.inH {ds:List D} {vs:List V} (r:Reps (Rep K H) ds vs L):∀ b ∈ L,MutAt H b:=by
 induction r with
 | nil=>intro b hb;cases hb
 | cons r _ ih =>
  intro b hb
  rcases yU.mp hb with h | h
  ·exact r.inH b h
  ·exact ih b h
theorem Rep.keep {M:Addr->Prop} (k:∀ b o,H b=some o->¬ M b->H' b=some o) (hm:∀ b,M b->MutAt H b) (r:Rep K H d v L):(∀ b ∈ L,¬ M b)->Rep K H' d v L:=by
 refine Rep.rec (motive_1:=fun d v L _=>(∀ b ∈ L,¬ M b)->Rep K H' d v L) (motive_2:=fun ds vs L _=>(∀ b ∈ L,¬ M b)->Reps (Rep K H') ds vs L) ?_ ?_ ?_ ?_ ?_ ?_ ?_ ?_ ?_ ?_ ?_ ?_ r
 ·intro _;exact .non
 ·intro b _;exact .bl b
 ·intro b _;exact .int b
 ·intro b _;exact .str b
 ·intro xs a vs L h _ ih hL
  exact .tup (k a _ h fun z=>(hm a z).notup h) (ih hL)
 ·intro xs a vs L h _ ih hL
  exact .lst (k a _ h (hL a yK)) (ih fun b hb=>hL b (yM _ hb))
 ·intro xs a vs L h _ ih hL
  exact .lstF (h.keep k hm) (ih hL)
 ·intro kvs a ps L h e _ ih hL
  exact .dK (k a _ h (hL a yK)) e (ih fun b hb=>hL b (yM _ hb))
 ·intro kvs a ps L h e _ ih hL
  exact .dT (k a _ h (hL a yK)) e (ih fun b hb=>hL b (yM _ hb))
 ·intro c a D ob n h _
  exact .exc n (k a _ h fun z=>(hm a z).nofrz h)
 ·intro _;exact .nil
 ·intro d v L ds vs L' _ _ i1 i2 hL
  exact .cons (i1 fun b hb=>hL b (yP _ hb)) (i2 fun b hb=>hL b (yQ _ hb))
theorem Rep.same (r:Rep K H d v L) (s:Same H H'):Rep K H' d v L:=r.keep (M:=fun _=>False) (fun b o h _=>s b o h) (fun _ z=>z.elim) fun _ _ z=>z
theorem Reps.keep {M:Addr->Prop} {ds:List D} {vs:List V} (k:∀ b o,H b=some o->¬ M b->H' b=some o) (hm:∀ b,M b->MutAt H b) (r:Reps (Rep K H) ds vs L):(∀ b ∈ L,¬ M b)->Reps (Rep K H') ds vs L:=by
 induction r with
 | nil=>intro _;exact .nil
 | cons r _ ih=>intro hL;exact .cons (r.keep k hm fun b hb=>hL b (yP _ hb)) (ih fun b hb=>hL b (yQ _ hb))
theorem Reps.same {ds:List D} {vs:List V} (r:Reps (Rep K H) ds vs L) (s:Same H H'):Reps (Rep K H') ds vs L:=r.keep (M:=fun _=>False) (fun b o h _=>s b o h) (fun _ z=>z.elim) fun _ _ z=>z
end
inductive Fl where
 | u | l | z
 deriving DecidableEq
structure It3 where
 d:D
 v:V
 L:List Addr
 f:Fl
noncomputable abbrev Sto:=List (Option (D × Fl))
structure Gm where
 H0:Hp
 bw:Addr->Prop
 pr:Nat->Bool
 σ0:St
 orig:Hp
 src:Addr->Prop
 lv:Nat->Option V
noncomputable def OwnOk (G:Gm) (x:It3):Prop:=ie x.d=true/\∃ a L',x.v=.ref a/\x.L=a :: L'/\a ∉ L'/\(x.f=.u->G.H0 a=none\/G.bw a)
structure ItOk (K:FG) (G:Gm) (H:Hp) (x:It3):Prop where
 rep:Rep K H x.d x.v x.L
 own:x.f ≠ .z->OwnOk G x
 src:∀ c ∈ x.L,G.H0 c=none\/G.src c
structure Fx (G:Gm) (H:Hp) (T:List It3) (g:Nat->Option It3):Prop where
 frT:∀ x ∈ T,x.f ≠ .z->∀ a,x.v=.ref a->G.orig a=none
 frS:∀ i x,g i=some x->G.pr i=false->x.f ≠ .z->∀ a,x.v=.ref a->G.orig a=none
 bin:∀ b,G.bw b->∃ o,H b=some o
 ob:∀ b o,G.orig b=some o->∃ o',H b=some o'
 lvS:∀ i x,g i=some x->x.f=.l->G.lv i=some x.v
noncomputable def NoRoot (x y:It3):Prop:=x.f ≠ .z->∀ a,x.v=.ref a->a ∉ y.L
noncomputable def Apart3 (x y:It3):Prop:=NoRoot x y/\NoRoot y x
structure Wf (K:FG) (G:Gm) (H:Hp) (σ:St) (ρ:Sto) (T:List It3) (g:Nat->Option It3):Prop where
 len:σ.length = ρ.length
 sl:∀ i,(g i).map (fun x=>(x.d,x.f))=(ρ[i]?).join
 sv:∀ i x,g i=some x->σ[i]?=some (some x.v)
 okS:∀ i x,g i=some x->ItOk K G H x
 okT:∀ x ∈ T,ItOk K G H x
 ss:∀ i j x y,i ≠ j->g i=some x->g j=some y->NoRoot x y
 st:∀ i x,g i=some x->∀ y ∈ T,Apart3 x y
 tt:T.Pairwise Apart3
 base:∀ b o,G.H0 b=some o->¬ G.bw b->H b=some o
 pro:∀ i,G.pr i=true->σ[i]?=G.σ0[i]?
 fx:Fx G H T g
structure Le (K:FG) (G:Gm) (W:D->Sto->Prop) (G0:Gm) (W0:D->Sto->Prop):Prop where
 pr:G.pr=G0.pr
 ex:∀ (H:Hp) (σ:St) (ρ:Sto) (T:List It3) (g:Nat->Option It3) (e:D),Wf K G H σ ρ T g->W e ρ->∃ ρ0 T0 g0,Wf K G0 H σ ρ0 T0 g0/\W0 e ρ0
theorem Le.refl (K:FG) (G:Gm) (W:D->Sto->Prop):Le K G W G W:=⟨rfl,fun _ _ ρ T g _ w h=>⟨ρ,T,g,w,h⟩⟩
theorem Le.trans {K:FG} {G G1 G2:Gm} {W W1 W2:D->Sto->Prop} (a:Le K G W G1 W1) (b:Le K G1 W1 G2 W2):Le K G W G2 W2:=⟨a.pr.trans b.pr,fun H σ ρ T g e w h=>by
 obtain ⟨ρ1,T1,g1,w1,h1⟩:=a.ex H σ ρ T g e w h
 exact b.ex H σ ρ1 T1 g1 e w1 h1⟩
section
variable {K:FG} {G:Gm} {H H':Hp} {σ:St} {ρ:Sto} {T T':List It3} {g:Nat->Option It3} {x y z:It3}
theorem ItOk.keep {M:Addr->Prop} (h:ItOk K G H x) (k:∀ b o,H b=some o->¬ M b->H' b=some o) (hm:∀ b,M b->MutAt H b) (hL:∀ b ∈ x.L,¬ M b):ItOk K G H' x:=⟨h.rep.keep k hm hL,h.own,h.src⟩
theorem ItOk.same (h:ItOk K G H x) (s:Same H H'):ItOk K G H' x:=⟨h.rep.same s,h.own,h.src⟩
theorem Fx.more (f:Fx G H T g) (s:∀ b o,H b=some o->∃ o',H' b=some o'):Fx G H' T g:=⟨f.frT,f.frS,fun b h=>let ⟨o,e⟩:=f.bin b h;s b o e,fun b o h=>let ⟨o',e⟩:=f.ob b o h;s b o' e,f.lvS⟩
theorem Fx.sub (f:Fx G H T g) (h:∀ x ∈ T',x ∈ T):Fx G H T' g:=⟨fun x hx=>f.frT x (h x hx),f.frS,f.bin,f.ob,f.lvS⟩
theorem Wf.grow (w:Wf K G H σ ρ T g) (s:Same H H'):Wf K G H' σ ρ T g :=
 ⟨w.len,w.sl,w.sv,fun i x e=>(w.okS i x e).same s,fun x hx=>(w.okT x hx).same s,w.ss,w.st,w.tt,fun b o e n=>s b o (w.base b o e n),w.pro,w.fx.more fun b o h=>⟨o,s b o h⟩⟩
theorem Wf.sub (w:Wf K G H σ ρ T g) (h:T'.Sublist T):Wf K G H σ ρ T' g :=
 ⟨w.len,w.sl,w.sv,w.okS,fun x hx=>w.okT x (h.subset hx),w.ss,fun i x e y hy=>w.st i x e y (h.subset hy),w.tt.sublist h,w.base,w.pro,w.fx.sub fun x hx=>h.subset hx⟩
noncomputable def Itm (T:List It3) (g:Nat->Option It3) (y:It3):Prop:=(∃ i,g i=some y)\/y ∈ T
noncomputable def dC (T:List It3) (g:Nat->Option It3) (c:Addr):Prop:=(∀ i z,g i=some z->z.f ≠ .z->z.v ≠ .ref c)/\∀ z ∈ T,z.f ≠ .z->z.v ≠ .ref c
theorem Wf.itm (w:Wf K G H σ ρ T g) (h:Itm T g y):ItOk K G H y:=by
 rcases h with ⟨i,e⟩ | h
 ·exact w.okS i y e
 ·exact w.okT y h
theorem lE {α:Type} {R:α->α->Prop} {l:List α} (p:l.Pairwise R) (hs:∀ a b,R a b->R b a):∀ a ∈ l,∀ b ∈ l,a ≠ b->R a b:=by
 induction p with
 | nil=>intro a ha;cases ha
 | @cons c l hc _ ih =>
  intro a ha b hb n
  rcases yR.mp ha with ea | ha
  ·rcases yR.mp hb with eb | hb
   ·exact absurd (ea.trans eb.symm) n
   ·rw [ea];exact hc b hb
  ·rcases yR.mp hb with eb | hb
   ·rw [eb];exact hs _ _ (hc a ha)
   ·exact ih a ha b hb n
theorem Apart3.symm (h:Apart3 x y):Apart3 y x:=⟨h.2,h.1⟩
theorem Wf.kid (w:Wf K G H σ ρ T g) (h:Itm T g y) {c:Addr} (hc:c ∈ y.L) (hn:y.f ≠ .z->y.v ≠ .ref c):dC T g c:=by
 refine ⟨fun i z e hz ez=>?_,fun z hm hz ez=>?_⟩
 ·rcases h with ⟨j,ej⟩ | hy
  ·by_cases ij:i=j
   ·subst ij
    rw [e] at ej
    cases ej
    exact hn hz ez
   ·exact w.ss i j z y ij e ej hz c ez hc
  ·exact (w.st i z e y hy).1 hz c ez hc
 ·rcases h with ⟨j,ej⟩ | hy
  ·exact (w.st j y ej z hm).2 hz c ez hc
  ·by_cases e:z=y
   ·subst e;exact hn hz ez
   ·exact (lE w.tt (fun _ _=>Apart3.symm) z hm y hy e).1 hz c ez hc
structure New (K:FG) (H H':Hp) (Ks:Addr->Prop) (x:It3):Prop where
 same:Same H H'
 rep:Rep K H' x.d x.v x.L
 sub:∀ c ∈ x.L,H c=none\/Ks c
 own:x.f ≠ .z->ie x.d=true/\∃ a L',x.v=.ref a/\x.L=a :: L'/\a ∉ L'/\H a=none
theorem Wf.h0none (w:Wf K G H σ ρ T g) {a:Addr} (h:H a=none):G.H0 a=none:=by
 cases e:G.H0 a with
 | none=>rfl
 | some o =>
  by_cases b:G.bw a
  ·obtain ⟨o,e⟩:=w.fx.bin a b
   rw [h] at e;cases e
  ·have:=w.base a o e b
   rw [h] at this;cases this
theorem Wf.ornone (w:Wf K G H σ ρ T g) {a:Addr} (h:H a=none):G.orig a=none:=by
 cases e:G.orig a with
 | none=>rfl
 | some o =>
  obtain ⟨o,e⟩:=w.fx.ob a o e
  rw [h] at e;cases e
theorem Wf.push {Ks:Addr->Prop} (w:Wf K G H σ ρ T g) (n:New K H H' Ks x) (hk:∀ c,Ks c->dC T g c/\(G.H0 c=none\/G.src c)):Wf K G H' σ ρ (x :: T) g:=by
 have w':=w.grow n.same
 have a1:∀ y:It3,ItOk K G H y->(∀ c,Ks c->y.f ≠ .z->y.v ≠ .ref c)->Apart3 y x:=fun y oy hy=>by
  refine ⟨fun hf a e hm=>?_,fun hf a e hm=>?_⟩
  ·obtain ⟨_,a',L',e1,e2,_,_⟩:=oy.own hf
   rw [e] at e1
   cases e1
   rcases n.sub a hm with h | h
   ·obtain ⟨o,ho⟩:=(oy.rep.inH a (by rw [e2];exact yK)).ex
    rw [h] at ho;cases ho
   ·exact hy a h hf e
  ·obtain ⟨_,a',L',e1,e2,_,h⟩:=n.own hf
   rw [e] at e1
   cases e1
   obtain ⟨o,ho⟩:=(oy.rep.inH a hm).ex
   rw [h] at ho;cases ho
 refine ⟨w'.len,w'.sl,w'.sv,w'.okS,?_,w'.ss,?_,?_,w'.base,w'.pro,⟨fun y hy hf a ea=>?_,w'.fx.frS,w'.fx.bin,w'.fx.ob,w'.fx.lvS⟩⟩
 ·intro y hy
  rcases yR.mp hy with rfl | hy
  ·refine ⟨n.rep,fun hf=>?_,fun c hc=>?_⟩
   ·obtain ⟨e0,a,L',e1,e2,e3,e4⟩:=n.own hf
    exact ⟨e0,a,L',e1,e2,e3,fun _=>.inl (w.h0none e4)⟩
   ·rcases n.sub c hc with h | h
    ·exact .inl (w.h0none h)
    ·exact (hk c h).2
  ·exact w'.okT y hy
 ·intro i z e y hy
  rcases yR.mp hy with rfl | hy
  ·exact a1 z (w.okS i z e) fun c hc=>(hk c hc).1.1 i z e
  ·exact w'.st i z e y hy
 ·refine List.pairwise_cons.mpr ⟨fun y hy=>(a1 y (w.okT y hy) fun c hc=>(hk c hc).1.2 y hy).symm,w'.tt⟩
 ·rcases yR.mp hy with h | hy
  ·subst h
   obtain ⟨e0,a',L',e1,e2,e3,e4⟩:=n.own hf
   rw [ea] at e1
   cases e1
   exact w.ornone e4
  ·exact w'.fx.frT y hy hf a ea
noncomputable def dQ (ys:List It3) (c:Addr):Prop:=∃ y ∈ ys,c ∈ y.L/\(y.f ≠ .z->y.v ≠ .ref c)
theorem Wf.kids (w:Wf K G H σ ρ T g) {ys:List It3} (hy:∀ y ∈ ys,Itm T g y) {c:Addr} (h:dQ ys c):dC T g c/\(G.H0 c=none\/G.src c):=by
 obtain ⟨y,m,hc,hn⟩:=h
 exact ⟨w.kid (hy y m) hc hn,(w.itm (hy y m)).src c hc⟩
structure Arg (K:FG) (H:Hp) (p:It3):Prop where
 rep:Rep K H p.d p.v p.L
 own:p.f ≠ .z->ie p.d=true/\∃ a L',p.v=.ref a/\p.L=a :: L'/\a ∉ L'
theorem ItOk.arg (h:ItOk K G H x):Arg K H x:=⟨h.rep,fun hf=>by
 obtain ⟨m,a,L',v1,v2,v3,_⟩:=h.own hf
 exact ⟨m,a,L',v1,v2,v3⟩⟩
end
end L3
end
section
namespace L3
open PySem L2
inductive R3 where
 | pl (i:Nat) | val (d:D) (f:Fl)
noncomputable abbrev M3 (α:Type):=Sto->Option (Except D α × Sto)
noncomputable abbrev EM:=M3 R3
noncomputable def ac {α β:Type} (m:M3 α) (k:α->M3 β):M3 β:=fun ρ=>match m ρ with
 | none=>none
 | some (.error e,ρ')=>some (.error e,ρ')
 | some (.ok a,ρ')=>k a ρ'
noncomputable def bj {α:Type} (a:α):M3 α:=fun ρ=>some (.ok a,ρ)
noncomputable def bh {α:Type} (o:Option α):M3 α:=fun ρ=>o.map fun a=>(.ok a,ρ)
noncomputable def der (r:R3):M3 D:=fun ρ=>match r with
 | .pl i=>((ρ[i]?).join).map fun p=>(.ok p.1,ρ)
 | .val d _=>some (.ok d,ρ)
inductive Ar (σ:St):R3->V->List It3->Prop where
 | pl {i:Nat} {v:V}:σ[i]?=some (some v)->Ar σ (.pl i) v []
 | val (x:It3):Ar σ (.val x.d x.f) x.v [x]
noncomputable def Got (K:FG) (G:Gm) (σ:St) (ρ:Sto) (T:List It3) (r:R3) (v:V) (H:Hp):Prop:=∃ Ts g,Wf K G H σ ρ (Ts ++ T) g/\Ar σ r v Ts
noncomputable def tE (K:FG) (G0:Gm) (W0:D->Sto->Prop) (m:EM):TE:=fun σ H Q=>∃ G W,Le K G W G0 W0/\∃ ρ T g r ρ',Wf K G H σ ρ T g/\m ρ=some (r,ρ')/\match r with
 | .ok r=>∀ v H',Got K G σ ρ' T r v H'->Q v H'
 | .error e=>W e ρ'
noncomputable def tT (K:FG) (G0:Gm) (W0:D->Sto->Prop) (m:M3 Bool):TT:=fun σ H Q=>∃ G W,Le K G W G0 W0/\∃ ρ T g r ρ',Wf K G H σ ρ T g/\m ρ=some (r,ρ')/\match r with
 | .ok b=>∀ H' g',Wf K G H' σ ρ' T g'->Q b H'
 | .error e=>W e ρ'
inductive Ars (σ:St):List R3->List V->List It3->Prop where
 | nil:Ars σ [] [] []
 | cons {r v Ts rs vs Us}:Ar σ r v Ts->Ars σ rs vs Us->Ars σ (r :: rs) (v :: vs) (Us ++ Ts)
noncomputable def tA (K:FG) (G0:Gm) (W0:D->Sto->Prop) (m:M3 (List R3)):TA:=fun σ H Q=>∃ G W,Le K G W G0 W0/\∃ ρ T g r ρ',Wf K G H σ ρ T g/\m ρ=some (r,ρ')/\match r with
 | .ok rs=>∀ vs H' Ts g',Wf K G H' σ ρ' (Ts ++ T) g'->Ars σ rs vs Ts->Q vs H'
 | .error e=>W e ρ'
inductive Flw where
 | nx | br | ct | rt (d:D) (f:Fl)
noncomputable abbrev SM:=M3 Flw
noncomputable def tS (K:FG) (G0:Gm) (W0:D->Sto->Prop) (m:SM):TS:=fun E σ H=>∃ G W,Le K G W G0 W0/\∃ ρ T g r ρ',Wf K G H σ ρ T g/\m ρ=some (r,ρ')/\match r with
 | .ok .nx=>∀ σ' H' g',Wf K G H' σ' ρ' T g'->E.nx σ' H'
 | .ok .br=>∀ σ' H' g',Wf K G H' σ' ρ' T g'->E.bk σ' H'
 | .ok .ct=>∀ σ' H' g',Wf K G H' σ' ρ' T g'->E.ct σ' H'
 | .ok (.rt d f)=>∀ x σ' H' g',Wf K G H' σ' ρ' (x :: T) g'->x.d=d->x.f=f->E.rt x.v H'
 | .error e=>W e ρ'
section
variable {K:FG} {G G0:Gm} {W W0:D->Sto->Prop} {H H':Hp} {σ:St} {ρ ρ':Sto} {T T':List It3} {g:Nat->Option It3} {x y z:It3} {α β:Type}
theorem aV {r:R3} {k:D->M3 β} {o:Except D β} (e:ac (der r) k ρ=some (o,ρ')):∃ d,der r ρ=some (.ok d,ρ)/\k d ρ=some (o,ρ'):=by
 cases r with
 | pl i =>
  have er:der (.pl i) ρ=((ρ[i]?).join).map fun p=>(.ok p.1,ρ):=rfl
  unfold ac at e
  rw [er] at e ⊢
  cases h:(ρ[i]?).join with
  | none=>rw [h] at e;exact nsE e
  | some p=>rw [h] at e;exact ⟨p.1,rfl,e⟩
 | val d f=>exact ⟨d,rfl,e⟩
theorem bW {o:Option α} {r:Except D α} (e:bh o ρ=some (r,ρ')):∃ a,o=some a/\r=.ok a/\ρ' = ρ:=by
 unfold bh at e
 cases o with
 | none=>exact nsE e
 | some a=>cases e;exact ⟨a,rfl,rfl,rfl⟩
theorem Wf.slot (w:Wf K G H σ ρ T g) {i:Nat} {d:D} {f:Fl} (e:(ρ[i]?).join=some (d,f)):∃ y,g i=some y/\y.d=d/\y.f=f/\σ[i]?=some (some y.v):=by
 have h:=w.sl i
 rw [e] at h
 cases q:g i with
 | none=>rw [q] at h;exact nsE h
 | some y =>
  rw [q] at h
  cases h
  exact ⟨y,rfl,rfl,rfl,w.sv i y q⟩
theorem Ar.item {r:R3} {v:V} {Ts:List It3} {d:D} (w:Wf K G H σ ρ T g) (a:Ar σ r v Ts) (hs:∀ x ∈ Ts,x ∈ T) (e:der r ρ=some (.ok d,ρ)):∃ y,Itm T g y/\y.d=d/\y.v=v:=by
 cases a with
 | @pl i v h =>
  have er:der (.pl i) ρ=((ρ[i]?).join).map fun p=>(.ok p.1,ρ):=rfl
  rw [er] at e
  cases q:(ρ[i]?).join with
  | none=>rw [q] at e;exact nsE e
  | some p =>
   rw [q] at e
   obtain ⟨y,e1,e2,e3,e4⟩:=w.slot (d:=p.1) (f:=p.2) q
   have e5:p.1=d:=by cases e;rfl
   rw [h] at e4
   refine ⟨y,.inl ⟨i,e1⟩,e2.trans e5,?_⟩
   cases e4;rfl
 | val x=>cases e;exact ⟨x,.inr (hs x (by simp)),rfl,rfl⟩
theorem Wf.done {Us:List It3} {ys:List It3} (w:Wf K G H σ ρ (Us ++ T) g) (hy:∀ y ∈ ys,Itm (Us ++ T) g y) (n:New K H H' (dQ ys) x):Got K G σ ρ T (.val x.d x.f) x.v H' :=
 ⟨[x],g,(w.push n fun c h=>w.kids hy h).sub (by simpa using List.Sublist.cons_cons x (yZ Us T)),.val x⟩
theorem tE.seq {ma:EM} {k:R3->M3 β} {r:Except D β} {P:VK} (le:Le K G W G0 W0) (w:Wf K G H σ ρ T g) (e:ac ma k ρ=some (r,ρ')) (he:∀ x,r=.error x->W x ρ')
  (h:∀ ra ρ1,k ra ρ1=some (r,ρ')->∀ v H1,Got K G σ ρ1 T ra v H1->P v H1):tE K G0 W0 ma σ H P:=by
 unfold ac at e
 cases q:ma ρ with
 | none=>rw [q] at e;exact nsE e
 | some p =>
  obtain ⟨o,ρ1⟩:=p
  rw [q] at e
  cases o with
  | error x=>cases e;exact ⟨G,W,le,ρ,T,g,.error x,ρ',w,q,he x rfl⟩
  | ok ra=>exact ⟨G,W,le,ρ,T,g,.ok ra,ρ1,w,q,h ra ρ1 e⟩
theorem tT.seq {ma:M3 Bool} {k:Bool->M3 β} {r:Except D β} {P:Bool->Hp->Prop} (le:Le K G W G0 W0) (w:Wf K G H σ ρ T g) (e:ac ma k ρ=some (r,ρ')) (he:∀ x,r=.error x->W x ρ')
  (h:∀ b ρ1,k b ρ1=some (r,ρ')->∀ H1 g1,Wf K G H1 σ ρ1 T g1->P b H1):tT K G0 W0 ma σ H P:=by
 unfold ac at e
 cases q:ma ρ with
 | none=>rw [q] at e;exact nsE e
 | some p =>
  obtain ⟨o,ρ1⟩:=p
  rw [q] at e
  cases o with
  | error x=>cases e;exact ⟨G,W,le,ρ,T,g,.error x,ρ',w,q,he x rfl⟩
  | ok ra=>exact ⟨G,W,le,ρ,T,g,.ok ra,ρ1,w,q,h ra ρ1 e⟩
theorem tA.seq {ma:M3 (List R3)} {k:List R3->M3 β} {r:Except D β} {P:List V->Hp->Prop} (le:Le K G W G0 W0) (w:Wf K G H σ ρ T g) (e:ac ma k ρ=some (r,ρ')) (he:∀ x,r=.error x->W x ρ')
  (h:∀ rs ρ1,k rs ρ1=some (r,ρ')->∀ vs H1 Ts g1,Wf K G H1 σ ρ1 (Ts ++ T) g1->Ars σ rs vs Ts->P vs H1):tA K G0 W0 ma σ H P:=by
 unfold ac at e
 cases q:ma ρ with
 | none=>rw [q] at e;exact nsE e
 | some p =>
  obtain ⟨o,ρ1⟩:=p
  rw [q] at e
  cases o with
  | error x=>cases e;exact ⟨G,W,le,ρ,T,g,.error x,ρ',w,q,he x rfl⟩
  | ok ra=>exact ⟨G,W,le,ρ,T,g,.ok ra,ρ1,w,q,h ra ρ1 e⟩
noncomputable def EndE (K:FG) (G:Gm) (W:D->Sto->Prop) (σ:St) (T:List It3) (ρ':Sto) (Q:VK):Except D R3->Prop
 | .ok r=>∀ v H',Got K G σ ρ' T r v H'->Q v H'
 | .error e=>W e ρ'
theorem EndE.err {Q:VK} {r:Except D R3} (h:EndE K G W σ T ρ' Q r):∀ x,r=.error x->W x ρ':=by
 intro x e;subst e;exact h
theorem tE.open {m:EM} {Q:VK} (h:tE K G0 W0 m σ H Q):∃ G W,Le K G W G0 W0/\∃ ρ T g r ρ',Wf K G H σ ρ T g/\m ρ=some (r,ρ')/\EndE K G W σ T ρ' Q r:=by
 obtain ⟨G,W,le,ρ,T,g,r,ρ',w,e,q⟩:=h
 refine ⟨G,W,le,ρ,T,g,r,ρ',w,e,?_⟩
 cases r with
 | ok r=>exact q
 | error x=>exact q
theorem tE.use {m:EM} {Q:VK} (h:tE K G0 W0 m σ H Q) {P:Prop} (k:∀ G W,Le K G W G0 W0->∀ ρ T g r ρ',Wf K G H σ ρ T g->m ρ=some (r,ρ')->EndE K G W σ T ρ' Q r->P):P:=by
 obtain ⟨G,W,le,ρ,T,g,r,ρ',w,e,q⟩:=h.open
 exact k G W le ρ T g r ρ' w e q
theorem tE.mk {m:EM} {Q:VK} {r:Except D R3} (le:Le K G W G0 W0) (w:Wf K G H σ ρ T g) (e:m ρ=some (r,ρ')) (h:EndE K G W σ T ρ' Q r):tE K G0 W0 m σ H Q:=by
 refine ⟨G,W,le,ρ,T,g,r,ρ',w,e,?_⟩
 cases r with
 | ok r=>exact h
 | error x=>exact h
noncomputable def ad (i:Nat):EM:=fun ρ=>((ρ[i]?).join).map fun _=>(.ok (.pl i),ρ)
theorem wX {i:Nat} {Q:VK} (h:tE K G0 W0 (ad i) σ H Q):ml i σ H Q:=by
 refine h.use fun G W le ρ T g r ρ' w e q=>?_
 unfold ad at e
 cases h:(ρ[i]?).join with
 | none=>rw [h] at e;exact nsE e
 | some p =>
  rw [h] at e
  cases e
  obtain ⟨y,_,_,_,e4⟩:=w.slot (d:=p.1) (f:=p.2) h
  exact ⟨y.v,e4,q y.v H ⟨[],g,w,.pl e4⟩⟩
noncomputable def mC (d:D):EM:=bj (.val d .z)
theorem Wf.const {d:D} {v:V} (w:Wf K G H σ ρ T g) (r:Rep K H d v []):Got K G σ ρ T (.val d .z) v H :=
 Wf.done (Us:=[]) (ys:=[]) (x:=⟨d,v,[],.z⟩) w (fun _ h=>(by cases h)) ⟨Same.refl _,r,fun _ h=>(by cases h),fun h=>absurd rfl h⟩
theorem gN {d:D} {v:V} {Q:VK} (r:∀ H,Rep K H d v []) (h:tE K G0 W0 (mC d) σ H Q):tC v σ H Q:=by
 refine h.use fun G W le ρ T g o ρ' w e q=>?_
 cases e
 exact q v H (w.const (r H))
noncomputable def ai (f:D->D->Option (D × Fl)) (ma mb:EM):EM:=ac ma fun ra=>ac mb fun rb=>ac (der ra) fun da=>ac (der rb) fun db=>bh ((f da db).map fun p=>R3.val p.1 p.2)
noncomputable def OpD (K:FG) (r:R2) (f:D->D->Option (D × Fl)):Prop:=∀ (a b:It3) (H:Hp) (Q:VK) (p:D × Fl),Arg K H a->Arg K H b->f a.d b.d=some p ->
 (∀ w H',New K H H' (dQ [a,b]) w->w.d=p.1->w.f=p.2->Q w.v H')->r a.v b.v H Q
theorem lf {Us:List It3} {ys:List It3} {Q:VK} {d:D} {f:Fl} (w:Wf K G H σ ρ (Us ++ T) g) (hy:∀ y ∈ ys,Itm (Us ++ T) g y) (q:EndE K G W σ T ρ Q (.ok (.val d f))) :
  ∀ w' H',New K H H' (dQ ys) w'->w'.d=d->w'.f=f->Q w'.v H':=by
 intro w' H' n e1 e2
 subst e1 e2
 exact q w'.v H' (w.done hy n)
theorem lr {r:R2} {f:D->D->Option (D × Fl)} {ma mb:EM} {Q:VK} (ho:OpD K r f) (h:tE K G0 W0 (ai f ma mb) σ H Q):tOp r (tE K G0 W0 ma) (tE K G0 W0 mb) σ H Q:=by
 refine h.use fun G W le ρ T g o ρ' w e q=>?_
 refine tE.seq le w e q.err fun ra ρ1 e1 va H1 ⟨Ts,g1,w1,a1⟩=>?_
 refine tE.seq le w1 e1 q.err fun rb ρ2 e2 vb H2 ⟨Us,g2,w2,a2⟩=>?_
 obtain ⟨da,d1,e3⟩:=aV e2
 obtain ⟨db,d2,e4⟩:=aV e3
 obtain ⟨p,e5,rfl,rfl⟩:=bW e4
 obtain ⟨ya,i1,f1,f2⟩:=a1.item w2 (fun x hx=>yQ _ (yP _ hx)) d1
 obtain ⟨yb,i2,f3,f4⟩:=a2.item w2 (fun x hx=>yP _ hx) d2
 subst f1 f2 f3 f4
 cases ef:f ya.d yb.d with
 | none=>rw [ef] at e5;exact nsE e5
 | some s =>
  rw [ef] at e5
  cases e5
  rw [<- List.append_assoc] at w2 i1 i2
  refine ho ya yb H2 Q s (w2.itm i1).arg (w2.itm i2).arg ef (lf w2 (fun y hy=>?_) q)
  rcases yR.mp hy with h | hy
  ·rw [h];exact i1
  ·rw [zo.mp hy];exact i2
noncomputable def mUn (f:D->Option (D × Fl)) (ma:EM):EM:=ac ma fun ra=>ac (der ra) fun da=>bh ((f da).map fun p=>R3.val p.1 p.2)
noncomputable def UnD (K:FG) (r:V->Hp->VK->Prop) (f:D->Option (D × Fl)):Prop:=∀ (a:It3) (H:Hp) (Q:VK) (p:D × Fl),Arg K H a->f a.d=some p ->
 (∀ w H',New K H H' (dQ [a]) w->w.d=p.1->w.f=p.2->Q w.v H')->r a.v H Q
theorem wk {r:V->Hp->VK->Prop} {f:D->Option (D × Fl)} {ma:EM} {Q:VK} (ho:UnD K r f) (h:tE K G0 W0 (mUn f ma) σ H Q):tUn r (tE K G0 W0 ma) σ H Q:=by
 refine h.use fun G W le ρ T g o ρ' w e q=>?_
 refine tE.seq le w e q.err fun ra ρ1 e1 va H1 ⟨Ts,g1,w1,a1⟩=>?_
 obtain ⟨da,d1,e3⟩:=aV e1
 obtain ⟨p,e5,rfl,rfl⟩:=bW e3
 obtain ⟨ya,i1,f1,f2⟩:=a1.item w1 (fun x hx=>yP _ hx) d1
 subst f1 f2
 cases ef:f ya.d with
 | none=>rw [ef] at e5;exact nsE e5
 | some s =>
  rw [ef] at e5
  cases e5
  exact ho ya H1 Q s (w1.itm i1).arg ef (lf w1 (fun y hy=>by rw [zo.mp hy];exact i1) q)
noncomputable def ak:M3 (List R3):=bj []
noncomputable def ab (m:EM) (ms:M3 (List R3)):M3 (List R3):=ac m fun r=>ac ms fun rs=>bj (r :: rs)
noncomputable def EndA (K:FG) (G:Gm) (W:D->Sto->Prop) (σ:St) (T:List It3) (ρ':Sto) (Q:List V->Hp->Prop):Except D (List R3)->Prop
 | .ok rs=>∀ vs H' Ts g',Wf K G H' σ ρ' (Ts ++ T) g'->Ars σ rs vs Ts->Q vs H'
 | .error e=>W e ρ'
theorem EndA.err {Q:List V->Hp->Prop} {r:Except D (List R3)} (h:EndA K G W σ T ρ' Q r):∀ x,r=.error x->W x ρ':=by
 intro x e;subst e;exact h
theorem tA.open {m:M3 (List R3)} {Q:List V->Hp->Prop} (h:tA K G0 W0 m σ H Q):∃ G W,Le K G W G0 W0/\∃ ρ T g r ρ',Wf K G H σ ρ T g/\m ρ=some (r,ρ')/\EndA K G W σ T ρ' Q r:=by
 obtain ⟨G,W,le,ρ,T,g,r,ρ',w,e,q⟩:=h
 refine ⟨G,W,le,ρ,T,g,r,ρ',w,e,?_⟩
 cases r with
 | ok r=>exact q
 | error x=>exact q
theorem tA.use {m:M3 (List R3)} {Q:List V->Hp->Prop} (h:tA K G0 W0 m σ H Q) {P:Prop} (k:∀ G W,Le K G W G0 W0->∀ ρ T g r ρ',Wf K G H σ ρ T g->m ρ=some (r,ρ')->EndA K G W σ T ρ' Q r->P):P:=by
 obtain ⟨G,W,le,ρ,T,g,r,ρ',w,e,q⟩:=h.open
 exact k G W le ρ T g r ρ' w e q
theorem rT {Q:List V->Hp->Prop} (h:tA K G0 W0 ak σ H Q):tNil σ H Q:=by
 refine h.use fun G W le ρ T g r ρ' w e q=>?_
 cases e
 exact q [] H [] g w .nil
theorem uP {m:EM} {ms:M3 (List R3)} {Q:List V->Hp->Prop} (h:tA K G0 W0 (ab m ms) σ H Q):wm (tE K G0 W0 m) (tA K G0 W0 ms) σ H Q:=by
 refine h.use fun G W le ρ T g r ρ' w e q=>?_
 refine tE.seq le w e q.err fun ra ρ1 e1 va H1 ⟨Ts,g1,w1,a1⟩=>?_
 refine tA.seq le w1 e1 q.err fun rs ρ2 e2 vs H2 Us g2 w2 a2=>?_
 cases e2
 refine q (va :: vs) H2 (Us ++ Ts) g2 ?_ (.cons a1 a2)
 rw [List.append_assoc]
 exact w2
noncomputable def eh:List R3->M3 (List D)
 | []=>bj []
 | r :: rs=>ac (der r) fun d=>ac (eh rs) fun ds=>bj (d :: ds)
theorem p9:∀ {rs:List R3} {ρ ρ':Sto} {o:Except D (List D)},eh rs ρ=some (o,ρ')->∃ ds,o=.ok ds/\ρ' = ρ
 | [],ρ,ρ',o,e=>by cases e;exact ⟨[],rfl,rfl⟩
 | r :: rs,ρ,ρ',o,e=>by
  obtain ⟨d,e1,e2⟩:=aV (k:=fun d=>ac (eh rs) fun ds=>bj (d :: ds)) e
  unfold ac at e2
  cases q:eh rs ρ with
  | none=>rw [q] at e2;exact nsE e2
  | some p =>
   obtain ⟨o',ρ1⟩:=p
   obtain ⟨ds,rfl,rfl⟩:=p9 q
   rw [q] at e2
   cases e2
   exact ⟨d :: ds,rfl,rfl⟩
theorem cR {rs:List R3} {k:List D->M3 β} {o:Except D β} (e:ac (eh rs) k ρ=some (o,ρ')):∃ ds,eh rs ρ=some (.ok ds,ρ)/\k ds ρ=some (o,ρ'):=by
 unfold ac at e
 cases q:eh rs ρ with
 | none=>rw [q] at e;exact nsE e
 | some p =>
  obtain ⟨o',ρ1⟩:=p
  obtain ⟨ds,rfl,rfl⟩:=p9 q
  rw [q] at e
  exact ⟨ds,rfl,e⟩
theorem Ars.items:∀ {rs:List R3} {vs:List V} {Ts:List It3} {ds:List D} ,Wf K G H σ ρ T g->Ars σ rs vs Ts->(∀ x ∈ Ts,x ∈ T)->eh rs ρ=some (.ok ds,ρ)->∃ ys:List It3,(∀ y ∈ ys,Itm T g y)/\ys.map (·.d)=ds/\ys.map (·.v)=vs
 | [],_,_,ds,w,.nil,_,e=>by cases e;exact ⟨[],fun _ h=>(by cases h),rfl,rfl⟩
 | r :: rs,_,_,ds,w,.cons a as,hs,e=>by
  obtain ⟨d,e1,e2⟩:=aV (k:=fun d=>ac (eh rs) fun ds=>bj (d :: ds)) e
  obtain ⟨ds',e3,e4⟩:=cR e2
  cases e4
  obtain ⟨y,i1,f1,f2⟩:=a.item w (fun x hx=>hs x (yQ _ hx)) e1
  obtain ⟨ys,i2,f3,f4⟩:=Ars.items w as (fun x hx=>hs x (yP _ hx)) e3
  refine ⟨y :: ys,fun z hz=>?_,by simp [f1,f3],by simp [f2,f4]⟩
  rcases yR.mp hz with h | hz
  ·rw [h];exact i1
  ·exact i2 z hz
noncomputable def aC (f:List D->Option (D × Fl)) (ms:M3 (List R3)):EM:=ac ms fun rs=>ac (eh rs) fun ds=>bh ((f ds).map fun p=>R3.val p.1 p.2)
noncomputable def eM (K:FG) (r:List V->Hp->VK->Prop) (f:List D->Option (D × Fl)):Prop:=∀ (ys:List It3) (H:Hp) (Q:VK) (p:D × Fl),(∀ y ∈ ys,Arg K H y)->f (ys.map (·.d))=some p ->
 (∀ w H',New K H H' (dQ ys) w->w.d=p.1->w.f=p.2->Q w.v H')->r (ys.map (·.v)) H Q
theorem jF {r:List V->Hp->VK->Prop} {f:List D->Option (D × Fl)} {ms:M3 (List R3)} {Q:VK} (ho:eM K r f) (h:tE K G0 W0 (aC f ms) σ H Q):tCB r (tA K G0 W0 ms) σ H Q:=by
 refine h.use fun G W le ρ T g o ρ' w e q=>?_
 refine tA.seq le w e q.err fun rs ρ1 e1 vs H1 Ts g1 w1 a1=>?_
 obtain ⟨ds,d1,e2⟩:=cR e1
 obtain ⟨p,e5,rfl,rfl⟩:=bW e2
 obtain ⟨ys,i1,f1,f2⟩:=a1.items w1 (fun x hx=>yP _ hx) d1
 subst f1 f2
 cases ef:f (ys.map (·.d)) with
 | none=>rw [ef] at e5;exact nsE e5
 | some s =>
  rw [ef] at e5
  cases e5
  exact ho ys H1 Q s (fun y hy=>(w1.itm (i1 y hy)).arg) ef (lf w1 i1 q)
noncomputable def asB:D->Option Bool
 | .bl b=>some b
 | _=>none
noncomputable def jh (ma mb:EM):EM:=ac ma fun ra=>ac (der ra) fun d=>ac (bh (asB d)) fun b=>if b then mb else bj (.val (.bl false) .z)
noncomputable def vK (ma:EM):EM:=ac ma fun ra=>ac (der ra) fun d=>ac (bh (asB d)) fun b=>bj (.val (.bl (!b)) .z)
theorem iI {o:Option α} {k:α->M3 β} {r:Except D β} (e:ac (bh o) k ρ=some (r,ρ')):∃ a,o=some a/\k a ρ=some (r,ρ'):=by
 unfold ac bh at e
 cases o with
 | none=>exact nsE e
 | some a=>exact ⟨a,rfl,e⟩
theorem uq {d:D} {b:Bool} (e:asB d=some b):d=.bl b:=by
 cases d <;> first | exact nsE e | cases e
 rfl
theorem Rep.bl_eq {b:Bool} {v:V} {L:List Addr} (r:Rep K H (.bl b) v L):v=.bl b/\L=[]:=by cases r;exact ⟨rfl,rfl⟩
theorem Ar.bool {ra:R3} {v:V} {Ts:List It3} {d:D} {b:Bool} (w:Wf K G H σ ρ (Ts ++ T) g) (a:Ar σ ra v Ts) (e:der ra ρ=some (.ok d,ρ)) (hb:asB d=some b):v=.bl b:=by
 obtain ⟨y,i1,f1,f2⟩:=a.item w (fun x hx=>yP _ hx) e
 have r:=(w.itm i1).rep
 rw [f1,uq hb] at r
 rw [<- f2]
 exact r.bl_eq.1
theorem xc {ma mb:EM} {Q:VK} (h:tE K G0 W0 (jh ma mb) σ H Q):wo (tE K G0 W0 ma) (tE K G0 W0 mb) σ H Q:=by
 refine h.use fun G W le ρ T g o ρ' w e q=>?_
 refine tE.seq le w e q.err fun ra ρ1 e1 va H1 ⟨Ts,g1,w1,a1⟩=>?_
 obtain ⟨d,d1,e2⟩:=aV e1
 obtain ⟨b,hb,e3⟩:=iI e2
 refine ⟨b,a1.bool w1 d1 hb,?_⟩
 have w2:=w1.sub (yZ Ts T)
 cases b with
 | true=>exact tE.mk le w2 e3 q
 | false=>cases e3;exact q _ _ (w2.const (.bl false))
theorem wZ {ma:EM} {Q:VK} (h:tE K G0 W0 (vK ma) σ H Q):we (tE K G0 W0 ma) σ H Q:=by
 refine h.use fun G W le ρ T g o ρ' w e q=>?_
 refine tE.seq le w e q.err fun ra ρ1 e1 va H1 ⟨Ts,g1,w1,a1⟩=>?_
 obtain ⟨d,d1,e2⟩:=aV e1
 obtain ⟨b,hb,e3⟩:=iI e2
 refine ⟨b,a1.bool w1 d1 hb,?_⟩
 have w2:=w1.sub (yZ Ts T)
 cases e3;exact q _ _ (w2.const (.bl (!b)))
noncomputable def EndT (K:FG) (G:Gm) (W:D->Sto->Prop) (σ:St) (T:List It3) (ρ':Sto) (Q:Bool->Hp->Prop):Except D Bool->Prop
 | .ok b=>∀ H' g',Wf K G H' σ ρ' T g'->Q b H'
 | .error e=>W e ρ'
theorem EndT.err {Q:Bool->Hp->Prop} {r:Except D Bool} (h:EndT K G W σ T ρ' Q r):∀ x,r=.error x->W x ρ':=by
 intro x e;subst e;exact h
theorem tT.open {m:M3 Bool} {Q:Bool->Hp->Prop} (h:tT K G0 W0 m σ H Q):∃ G W,Le K G W G0 W0/\∃ ρ T g r ρ',Wf K G H σ ρ T g/\m ρ=some (r,ρ')/\EndT K G W σ T ρ' Q r:=by
 obtain ⟨G,W,le,ρ,T,g,r,ρ',w,e,q⟩:=h
 refine ⟨G,W,le,ρ,T,g,r,ρ',w,e,?_⟩
 cases r with
 | ok r=>exact q
 | error x=>exact q
theorem tT.use {m:M3 Bool} {Q:Bool->Hp->Prop} (h:tT K G0 W0 m σ H Q) {P:Prop} (k:∀ G W,Le K G W G0 W0->∀ ρ T g r ρ',Wf K G H σ ρ T g->m ρ=some (r,ρ')->EndT K G W σ T ρ' Q r->P):P:=by
 obtain ⟨G,W,le,ρ,T,g,r,ρ',w,e,q⟩:=h.open
 exact k G W le ρ T g r ρ' w e q
theorem tT.mk {m:M3 Bool} {Q:Bool->Hp->Prop} {r:Except D Bool} (le:Le K G W G0 W0) (w:Wf K G H σ ρ T g) (e:m ρ=some (r,ρ')) (h:EndT K G W σ T ρ' Q r):tT K G0 W0 m σ H Q:=by
 refine ⟨G,W,le,ρ,T,g,r,ρ',w,e,?_⟩
 cases r with
 | ok r=>exact h
 | error x=>exact h
noncomputable def cB (m:EM):M3 Bool:=ac m fun r=>ac (der r) fun d=>bh (asB d)
theorem tT_b {m:EM} {Q:Bool->Hp->Prop} (h:tT K G0 W0 (cB m) σ H Q):tB (tE K G0 W0 m) σ H Q:=by
 refine h.use fun G W le ρ T g o ρ' w e q=>?_
 refine tE.seq le w e q.err fun ra ρ1 e1 va H1 ⟨Ts,g1,w1,a1⟩=>?_
 obtain ⟨d,d1,e2⟩:=aV e1
 obtain ⟨b,hb,rfl,rfl⟩:=bW e2
 exact ⟨b,a1.bool w1 d1 hb,q _ _ (w1.sub (yZ Ts T))⟩
noncomputable def oZ (a b:M3 Bool):M3 Bool:=ac a fun c=>if c then b else bj false
noncomputable def cOr (a b:M3 Bool):M3 Bool:=ac a fun c=>if c then bj true else b
noncomputable def jp (a:M3 Bool):M3 Bool:=ac a fun c=>bj (!c)
theorem wN {a b:M3 Bool} {Q:Bool->Hp->Prop} (h:tT K G0 W0 (oZ a b) σ H Q):tAnd (tT K G0 W0 a) (tT K G0 W0 b) σ H Q:=by
 refine h.use fun G W le ρ T g o ρ' w e q=>?_
 refine tT.seq le w e q.err fun c ρ1 e1 H1 g1 w1=>?_
 cases c with
 | true=>exact tT.mk le w1 e1 q
 | false=>cases e1;exact q _ _ w1
theorem tT_or {a b:M3 Bool} {Q:Bool->Hp->Prop} (h:tT K G0 W0 (cOr a b) σ H Q):tOr (tT K G0 W0 a) (tT K G0 W0 b) σ H Q:=by
 refine h.use fun G W le ρ T g o ρ' w e q=>?_
 refine tT.seq le w e q.err fun c ρ1 e1 H1 g1 w1=>?_
 cases c with
 | false=>exact tT.mk le w1 e1 q
 | true=>cases e1;exact q _ _ w1
theorem wM {a:M3 Bool} {Q:Bool->Hp->Prop} (h:tT K G0 W0 (jp a) σ H Q):tNot (tT K G0 W0 a) σ H Q:=by
 refine h.use fun G W le ρ T g o ρ' w e q=>?_
 refine tT.seq le w e q.err fun c ρ1 e1 H1 g1 w1=>?_
 cases e1;exact q _ _ w1
noncomputable def mIf (c:M3 Bool) (ma mb:EM):EM:=ac c fun b=>if b then ma else mb
theorem tE_if {c:M3 Bool} {ma mb:EM} {Q:VK} (h:tE K G0 W0 (mIf c ma mb) σ H Q):tIf (tT K G0 W0 c) (tE K G0 W0 ma) (tE K G0 W0 mb) σ H Q:=by
 refine h.use fun G W le ρ T g o ρ' w e q=>?_
 refine tT.seq le w e q.err fun c ρ1 e1 H1 g1 w1=>?_
 cases c with
 | true=>exact tE.mk le w1 e1 q
 | false=>exact tE.mk le w1 e1 q
end
end L3
end
section
namespace L3
open PySem L2
noncomputable def de (x:It3):It3:={ x with f:=.z }
theorem cF {x y:It3}:NoRoot (de x) y:=fun h=>absurd rfl h
noncomputable def lowAt (i:Nat) (ρ:Sto):Sto:=match (ρ[i]?).join with
 | some (d,.u)=>ρ.set i (some (d,.z))
 | some (d,.l)=>ρ.set i (some (d,.z))
 | _=>ρ
noncomputable def frz (is:List Nat) (ρ:Sto):Sto:=is.foldl (fun ρ i=>lowAt i ρ) ρ
noncomputable def frz3 (is:List Nat):M3 Unit:=fun ρ=>some (.ok (),frz is ρ)
noncomputable def pls:List R3->List Nat
 | []=>[]
 | .pl i :: rs=>i :: pls rs
 | .val _ _ :: rs=>pls rs
section
variable {K:FG} {G G0:Gm} {W W0:D->Sto->Prop} {H H':Hp} {σ:St} {ρ ρ':Sto} {T T':List It3} {g:Nat->Option It3} {x y z:It3} {α β:Type}
theorem ItOk.low (h:ItOk K G H x):ItOk K G H (de x):=⟨h.rep,fun q=>absurd rfl q,h.src⟩
theorem bS {ρ:Sto} {i j:Nat} {o:Option (D × Fl)} (hi:i < ρ.length):((ρ.set i o)[j]?).join=if j=i then o else (ρ[j]?).join:=by
 by_cases e:j=i
 ·subst e
  rw [if_pos rfl,List.getElem?_set_self hi]
  rfl
 ·rw [if_neg e,List.getElem?_set_ne (fun h=>e h.symm)]
theorem dA {ρ:Sto} {i:Nat} {p:D × Fl} (h:(ρ[i]?).join=some p):i < ρ.length:=by
 cases q:ρ[i]? with
 | none=>rw [q] at h;exact nsE h
 | some o=>exact (yX.mp q).1
theorem Wf.lowSlot (w:Wf K G H σ ρ T g) {i:Nat} {d:D} {f:Fl} (e:(ρ[i]?).join=some (d,f)):Wf K G H σ (ρ.set i (some (d,.z))) T (fun j=>if j=i then (g i).map de else g j):=by
 have hi:=dA e
 obtain ⟨y,gy,ed,ef,ev⟩:=w.slot e
 have val:∀ j x,(if j=i then (g i).map de else g j)=some x->∃ x0,g j=some x0/\(x=x0\/x=de x0)/\(j=i->x=de x0):=fun j x h=>by
  by_cases q:j=i
  ·subst q
   rw [if_pos rfl,gy] at h
   cases h
   exact ⟨y,gy,.inr rfl,fun _=>rfl⟩
  ·rw [if_neg q] at h
   exact ⟨x,h,.inl rfl,fun z=>absurd z q⟩
 have nr:∀ {a b:It3},NoRoot a b->∀ a' b',(a'=a\/a'=de a)->(b'=b\/b'=de b)->NoRoot a' b':=fun h a' b' h1 h2=>by
  rcases h1 with rfl | rfl
  ·rcases h2 with rfl | rfl
   ·exact h
   ·exact h
  ·exact cF
 refine ⟨by rw [List.length_set];exact w.len,fun j=>?_,fun j x h=>?_,fun j x h=>?_,w.okT,fun j k a b n h1 h2=>?_,fun j a h b hb=>?_,w.tt,w.base,w.pro,⟨w.fx.frT,fun j x h hp hf a ea=>?_,w.fx.bin,w.fx.ob,fun j x h hl=>?_⟩⟩
 ·rw [bS hi]
  by_cases q:j=i
  ·subst q
   rw [if_pos rfl,if_pos rfl,gy]
   show some ((de y).d,Fl.z)=_
   rw [<- ed];rfl
  ·rw [if_neg q,if_neg q];exact w.sl j
 ·obtain ⟨x0,h0,hx,_⟩:=val j x h
  have:=w.sv j x0 h0
  rcases hx with rfl | rfl <;> exact this
 ·obtain ⟨x0,h0,hx,_⟩:=val j x h
  rcases hx with rfl | rfl
  ·exact w.okS j x h0
  ·exact (w.okS j x0 h0).low
 ·obtain ⟨a0,h0,ha,_⟩:=val j a h1
  obtain ⟨b0,h0',hb,_⟩:=val k b h2
  exact nr (w.ss j k a0 b0 n h0 h0') a b ha hb
 ·obtain ⟨a0,h0,ha,_⟩:=val j a h
  exact ⟨nr (w.st j a0 h0 b hb).1 a b ha (.inl rfl),nr (w.st j a0 h0 b hb).2 b a (.inl rfl) ha⟩
 ·obtain ⟨x0,h0,hx,_⟩:=val j x h
  rcases hx with rfl | rfl
  ·exact w.fx.frS j x h0 hp hf a ea
  ·exact absurd rfl hf
 ·obtain ⟨x0,h0,hx,_⟩:=val j x h
  rcases hx with rfl | rfl
  ·exact w.fx.lvS j x h0 hl
  ·cases hl
noncomputable def Kin (x y:It3):Prop:=y.d=x.d/\y.v=x.v/\y.L=x.L/\(y.f=x.f\/y.f=.z)
theorem Kin.refl (x:It3):Kin x x:=⟨rfl,rfl,rfl,.inl rfl⟩
theorem Kin.trans (a:Kin x y) (b:Kin y z):Kin x z:=⟨b.1.trans a.1,b.2.1.trans a.2.1,b.2.2.1.trans a.2.2.1,by
 rcases b.2.2.2 with h | h
 ·rcases a.2.2.2 with h' | h'
  ·exact .inl (h.trans h')
  ·exact .inr (h.trans h')
 ·exact .inr h⟩
theorem Wf.lowAt {i:Nat} (w:Wf K G H σ ρ T g):∃ g',Wf K G H σ (lowAt i ρ) T g'/\(∀ j y,g j=some y->∃ y',g' j=some y'/\Kin y y'/\(j=i->y'.f=.z)):=by
 have keep:∀ d,(ρ[i]?).join=some (d,.z)->∃ g',Wf K G H σ ρ T g'/\(∀ j y,g j=some y->∃ y',g' j=some y'/\Kin y y'/\(j=i->y'.f=.z)):=fun d e=>⟨g,w,fun j y h=>⟨y,h,Kin.refl y,fun q=>by
  subst q
  obtain ⟨y',h',_,hf,_⟩:=w.slot e
  rw [h] at h';cases h';exact hf⟩⟩
 have low:∀ d f,(ρ[i]?).join=some (d,f)->∃ g',Wf K G H σ (ρ.set i (some (d,.z))) T g'/\(∀ j y,g j=some y->∃ y',g' j=some y'/\Kin y y'/\(j=i->y'.f=.z)):=fun d f e=>⟨_,w.lowSlot e,fun j y h=>by
  by_cases q:j=i
  ·subst q;exact ⟨de y,by rw [if_pos rfl,h];rfl,⟨rfl,rfl,rfl,.inr rfl⟩,fun _=>rfl⟩
  ·exact ⟨y,by rw [if_neg q];exact h,Kin.refl y,fun z=>absurd z q⟩⟩
 unfold L3.lowAt
 cases e:(ρ[i]?).join with
 | none =>
  refine ⟨g,w,fun j y h=>⟨y,h,Kin.refl y,fun q=>?_⟩⟩
  subst q
  have:=w.sl j
  rw [h,e] at this;cases this
 | some p =>
  obtain ⟨d,f⟩:=p
  cases f with
  | u=>exact low d _ e
  | l=>exact low d _ e
  | z=>exact keep d e
theorem Wf.frz:∀ {is:List Nat} {ρ:Sto} {g:Nat->Option It3},Wf K G H σ ρ T g->∃ g',Wf K G H σ (frz is ρ) T g'/\(∀ j y,g j=some y->∃ y',g' j=some y'/\Kin y y'/\(j ∈ is->y'.f=.z))
 | [],ρ,g,w=>⟨g,w,fun j y h=>⟨y,h,Kin.refl y,fun q=>by cases q⟩⟩
 | i :: is,ρ,g,w=>by
  obtain ⟨g1,w1,h1⟩:=w.lowAt (i:=i)
  obtain ⟨g2,w2,h2⟩:=Wf.frz (is:=is) w1
  refine ⟨g2,w2,fun j y h=>?_⟩
  obtain ⟨y1,e1,k1,z1⟩:=h1 j y h
  obtain ⟨y2,e2,k2,z2⟩:=h2 j y1 e1
  refine ⟨y2,e2,k1.trans k2,fun hm=>?_⟩
  rcases yR.mp hm with q | q
  ·rcases k2.2.2.2 with h | h
   ·exact h.trans (z1 q)
   ·exact h
  ·exact z2 q
theorem Wf.lowT {Ts:List It3} (w:Wf K G H σ ρ (Ts ++ T) g):Wf K G H σ ρ (Ts.map de ++ T) g:=by
 have sp:∀ {a b:It3},Apart3 a b->Apart3 (de a) (de b):=fun h=>⟨cF,cF⟩
 refine ⟨w.len,w.sl,w.sv,w.okS,fun x hx=>?_,w.ss,fun i x e y hy=>?_,?_,w.base,w.pro,⟨fun x hx hf a ea=>?_,w.fx.frS,w.fx.bin,w.fx.ob,w.fx.lvS⟩⟩
 ·rcases yU.mp hx with h | h
  ·obtain ⟨x0,h0,rfl⟩:=y6.mp h
   exact (w.okT x0 (yP _ h0)).low
  ·exact w.okT x (yQ _ h)
 ·rcases yU.mp hy with h | h
  ·obtain ⟨y0,h0,rfl⟩:=y6.mp h
   exact ⟨(w.st i x e y0 (yP _ h0)).1,cF⟩
  ·exact w.st i x e y (yQ _ h)
 ·have h:=List.pairwise_append.mp w.tt
  refine List.pairwise_append.mpr ⟨?_,h.2.1,fun a ha b hb=>?_⟩
  ·rw [List.pairwise_map]
   exact h.1.imp fun h=>sp h
  ·obtain ⟨a0,h0,rfl⟩:=y6.mp ha
   exact ⟨cF,(h.2.2 a0 h0 b hb).2⟩
 ·rcases yU.mp hx with h | h
  ·obtain ⟨x0,h0,rfl⟩:=y6.mp h
   exact absurd rfl hf
  ·exact w.fx.frT x (yQ _ h) hf a ea
theorem jv:∀ {rs:List R3} {i:Nat},R3.pl i ∈ rs->i ∈ pls rs
 | [],_,h=>by cases h
 | .pl j :: rs,i,h=>by
  rcases yR.mp h with e | h
  ·cases e;exact yK
  ·exact yM _ (jv h)
 | .val _ _ :: rs,i,h=>by
  rcases yR.mp h with e | h
  ·cases e
  ·exact jv (rs:=rs) h
theorem Ars.given:∀ {rs:List R3} {vs:List V} {Ts:List It3} {ds:List D} {S:List It3} {g':Nat->Option It3} {is:List Nat},Wf K G H σ ρ T g->(∀ j y,g j=some y->∃ y',g' j=some y'/\Kin y y'/\(j ∈ is->y'.f=.z))->(∀ i,R3.pl i ∈ rs->i ∈ is) ->
  Ars σ rs vs Ts->(∀ x ∈ Ts,x ∈ T)->(∀ x ∈ Ts,de x ∈ S)->eh rs ρ=some (.ok ds,ρ)->∃ ys:List It3,(∀ y ∈ ys,Itm S g' y/\y.f=.z)/\ys.map (·.d)=ds/\ys.map (·.v)=vs
 | [],_,_,ds,S,g',is,w,hg,hi,.nil,_,_,e=>by cases e;exact ⟨[],fun _ h=>(by cases h),rfl,rfl⟩
 | r :: rs,_,_,ds,S,g',is,w,hg,hi,.cons (v:=v0) a as,hs,hS,e=>by
  obtain ⟨d,e1,e2⟩:=aV (k:=fun d=>ac (eh rs) fun ds=>bj (d :: ds)) e
  obtain ⟨ds',e3,e4⟩:=cR e2
  cases e4
  obtain ⟨ys,i2,f3,f4⟩:=Ars.given w hg (fun i h=>hi i (yM _ h)) as (fun x hx=>hs x (yP _ hx)) (fun x hx=>hS x (yP _ hx)) e3
  have one:∃ y,(Itm S g' y/\y.f=.z)/\y.d=d/\y.v=v0:=by
   cases a with
   | @pl i v h =>
    have er:der (.pl i) ρ=((ρ[i]?).join).map fun p=>(.ok p.1,ρ):=rfl
    rw [er] at e1
    cases q:(ρ[i]?).join with
    | none=>rw [q] at e1;exact nsE e1
    | some p =>
     rw [q] at e1
     obtain ⟨y,y1,y2,y3,y4⟩:=w.slot (d:=p.1) (f:=p.2) q
     obtain ⟨y',h1,h2,h3⟩:=hg i y y1
     have e5:p.1=d:=by cases e1;rfl
     rw [h] at y4
     refine ⟨y',⟨.inl ⟨i,h1⟩,h3 (hi i yK)⟩,h2.1.trans (y2.trans e5),?_⟩
     rw [h2.2.1];cases y4;rfl
   | val x=>cases e1;exact ⟨de x,⟨.inr (hS x (by simp)),rfl⟩,rfl,rfl⟩
  obtain ⟨y,i1,f1,f2⟩:=one
  refine ⟨y :: ys,fun z hz=>?_,by simp [f1,f3],by simp [f2,f4]⟩
  rcases yR.mp hz with h | hz
  ·rw [h];exact i1
  ·exact i2 z hz
noncomputable def dj (ys:List It3) (c:Addr):Prop:=∃ y ∈ ys,c ∈ y.L
noncomputable def gives (rs:List R3):M3 (List D):=ac (eh rs) fun ds=>ac (frz3 (pls rs)) fun _=>bj ds
theorem Ars.gives {rs:List R3} {vs:List V} {Ts:List It3} {k:List D->M3 β} {r:Except D β} (w:Wf K G H σ ρ (Ts ++ T) g) (a:Ars σ rs vs Ts) (e:ac (gives rs) k ρ=some (r,ρ')) :
  ∃ ds ρ1 g1,k ds ρ1=some (r,ρ')/\ρ1=frz (pls rs) ρ/\Wf K G H σ ρ1 (Ts.map de ++ T) g1/\(∀ j y,g j=some y->∃ y',g1 j=some y'/\Kin y y')/\∃ ys:List It3,(∀ y ∈ ys,Itm (Ts.map de ++ T) g1 y/\y.f=.z)/\ys.map (·.d)=ds/\ys.map (·.v)=vs:=by
 unfold L3.gives at e
 have e0:ac (eh rs) (fun ds=>ac (frz3 (pls rs)) fun _=>k ds) ρ=some (r,ρ'):=by
  rw [<- e]
  unfold ac
  cases q:eh rs ρ with
  | none=>rfl
  | some p =>
   obtain ⟨o,ρ2⟩:=p
   cases o with
   | error x=>rfl
   | ok ds=>rfl
 obtain ⟨ds,d1,e1⟩:=cR e0
 obtain ⟨g1,w1,h1⟩:=Wf.frz (is:=pls rs) w
 refine ⟨ds,L3.frz (pls rs) ρ,g1,e1,rfl,w1.lowT,fun j y h=>let ⟨y',a,b,_⟩:=h1 j y h;⟨y',a,b⟩,?_⟩
 exact Ars.given w h1 (fun i h=>jv h) a (fun x hx=>yP _ hx) (fun x hx=>yP _ (y6.mpr ⟨x,hx,rfl⟩)) d1
theorem Wf.alls (w:Wf K G H σ ρ T g) {ys:List It3} (hy:∀ y ∈ ys,Itm T g y/\y.f=.z) {c:Addr} (h:dj ys c):dC T g c/\(G.H0 c=none\/G.src c):=by
 obtain ⟨y,m,hc⟩:=h
 exact ⟨w.kid (hy y m).1 hc fun hf=>absurd (hy y m).2 hf,(w.itm (hy y m).1).src c hc⟩
theorem Wf.doneA {Us:List It3} {ys:List It3} (w:Wf K G H σ ρ (Us ++ T) g) (hy:∀ y ∈ ys,Itm (Us ++ T) g y/\y.f=.z) (n:New K H H' (dj ys) x):Got K G σ ρ T (.val x.d x.f) x.v H' :=
 ⟨[x],g,(w.push n fun c h=>w.alls hy h).sub (by simpa using List.Sublist.cons_cons x (yZ Us T)),.val x⟩
theorem ju:∀ {ys:List It3},(∀ y ∈ ys,Rep K H y.d y.v y.L)->Reps (Rep K H) (ys.map (·.d)) (ys.map (·.v)) (ys.map (·.L)).flatten
 | [],_=>.nil
 | y :: ys,h=>.cons (h y yK) (ju fun z hz=>h z (yM _ hz))
theorem eE {ys:List It3} {c:Addr} (h:c ∈ (ys.map (·.L)).flatten):dj ys c:=by
 obtain ⟨l,hl,hc⟩:=List.mem_flatten.mp h
 obtain ⟨y,hy,rfl⟩:=y6.mp hl
 exact ⟨y,hy,hc⟩
noncomputable def vJ (mk:List D->D) (f:Fl) (ms:M3 (List R3)):EM:=ac ms fun rs=>ac (gives rs) fun ds=>bh (if ds.length<=16777216 then some (.val (mk ds) f) else none)
noncomputable abbrev oN:M3 (List R3)->EM:=vJ .tup .z
noncomputable abbrev fG:M3 (List R3)->EM:=vJ .lst .u
theorem b6 {H:Hp} {p:Addr} {o:HO} (h:H p=none):Same H (upd H p o):=fun b u e=>by
 rw [aG (bd e h)];exact e
set_option tactic.hygienic true in
theorem wY (hz:(16777216:Nat)=sizeLine) {ms:M3 (List R3)} {Q:VK} (h:tE K G0 W0 (oN ms) σ H Q):tTup (tA K G0 W0 ms) σ H Q:=by
 refine h.use fun G W le ρ T g o ρ' w e q=>?_
 refine tA.seq le w e q.err fun rs ρ1 e1 vs H1 Ts g1 w1 a1=>?_
 obtain ⟨ds,ρ2,g2,e2,_,w2,_,ys,hy,f1,f2⟩:=a1.gives w1 e1
 obtain ⟨v,e3,rfl,rfl⟩:=bW e2
 subst f1 f2
 split at e3
 ·rename_i hl
  cases e3
  refine ⟨by rw [yW] at hl ⊢;omega,fun p hp=>?_⟩
  refine q _ _ (Wf.doneA (x:=⟨.tup (ys.map (·.d)),.ref p,(ys.map (·.L)).flatten,.z⟩) w2 hy ⟨b6 hp,.tup bm ((ju fun y hy'=>(w2.itm (hy y hy').1).rep).same (b6 hp)),fun c hc=>.inr (eE hc),fun hf=>absurd rfl hf⟩)
 ·exact nsE e3
set_option tactic.hygienic true in
theorem xa (hz:(16777216:Nat)=sizeLine) {ms:M3 (List R3)} {Q:VK} (h:tE K G0 W0 (fG ms) σ H Q):tLst (tA K G0 W0 ms) σ H Q:=by
 refine h.use fun G W le ρ T g o ρ' w e q=>?_
 refine tA.seq le w e q.err fun rs ρ1 e1 vs H1 Ts g1 w1 a1=>?_
 obtain ⟨ds,ρ2,g2,e2,_,w2,_,ys,hy,f1,f2⟩:=a1.gives w1 e1
 obtain ⟨v,e3,rfl,rfl⟩:=bW e2
 subst f1 f2
 split at e3
 ·rename_i hl
  cases e3
  refine ⟨by rw [yW] at hl ⊢;omega,fun p hp=>?_⟩
  have np:p ∉ (ys.map (·.L)).flatten:=fun hc=>by
   obtain ⟨y,hm,hc⟩:=eE hc
   obtain ⟨o,ho⟩:=((w2.itm (hy y hm).1).rep.inH p hc).ex
   rw [hp] at ho;exact nsE ho
  refine q _ _ (Wf.doneA (x:=⟨.lst (ys.map (·.d)),.ref p,p :: (ys.map (·.L)).flatten,.u⟩) w2 hy ⟨b6 hp,.lst bm ((ju fun y hy'=>(w2.itm (hy y hy').1).rep).same (b6 hp)),fun c hc=>?_,fun _=>⟨rfl,p,_,rfl,rfl,np,hp⟩⟩)
  rcases yR.mp hc with e | hc
  ·rw [e];exact .inl hp
  ·exact .inr (eE hc)
 ·exact nsE e3
end
end L3
end
section
namespace L3
open PySem L2
section
variable {K:FG} {G G0:Gm} {W W0:D->Sto->Prop} {H H':Hp} {σ:St} {ρ ρ':Sto} {T T':List It3} {g:Nat->Option It3} {x y z:It3} {α β:Type}
noncomputable def EndS (K:FG) (G:Gm) (W:D->Sto->Prop) (T:List It3) (ρ':Sto) (E:Ends):Except D Flw->Prop
 | .ok .nx=>∀ σ' H' g',Wf K G H' σ' ρ' T g'->E.nx σ' H'
 | .ok .br=>∀ σ' H' g',Wf K G H' σ' ρ' T g'->E.bk σ' H'
 | .ok .ct=>∀ σ' H' g',Wf K G H' σ' ρ' T g'->E.ct σ' H'
 | .ok (.rt d f)=>∀ x σ' H' g',Wf K G H' σ' ρ' (x :: T) g'->x.d=d->x.f=f->E.rt x.v H'
 | .error e=>W e ρ'
theorem EndS.err {E:Ends} {r:Except D Flw} (h:EndS K G W T ρ' E r):∀ x,r=.error x->W x ρ':=by
 intro x e;subst e;exact h
theorem tS.open {m:SM} {E:Ends} (h:tS K G0 W0 m E σ H):∃ G W,Le K G W G0 W0/\∃ ρ T g r ρ',Wf K G H σ ρ T g/\m ρ=some (r,ρ')/\EndS K G W T ρ' E r:=by
 obtain ⟨G,W,le,ρ,T,g,r,ρ',w,e,q⟩:=h
 refine ⟨G,W,le,ρ,T,g,r,ρ',w,e,?_⟩
 cases r with
 | ok r=>cases r <;> exact q
 | error x=>exact q
theorem tS.use {m:SM} {E:Ends} (h:tS K G0 W0 m E σ H) {P:Prop} (k:∀ G W,Le K G W G0 W0->∀ ρ T g r ρ',Wf K G H σ ρ T g->m ρ=some (r,ρ')->EndS K G W T ρ' E r->P):P:=by
 obtain ⟨G,W,le,ρ,T,g,r,ρ',w,e,q⟩:=h.open
 exact k G W le ρ T g r ρ' w e q
theorem tS.mk {m:SM} {E:Ends} {r:Except D Flw} (le:Le K G W G0 W0) (w:Wf K G H σ ρ T g) (e:m ρ=some (r,ρ')) (h:EndS K G W T ρ' E r):tS K G0 W0 m E σ H:=by
 refine ⟨G,W,le,ρ,T,g,r,ρ',w,e,?_⟩
 cases r with
 | ok r=>cases r <;> exact h
 | error x=>exact h
noncomputable def fE:SM:=bj .nx
noncomputable def aK (a b:SM):SM:=ac a fun f=>match f with
 | .nx=>b
 | o=>bj o
theorem wS {E:Ends} (h:tS K G0 W0 fE E σ H):wg E σ H:=by
 refine h.use fun G W le ρ T g r ρ' w e q=>?_
 cases e
 exact q _ _ _ w
theorem wQ {a b:SM} {E:Ends} (h:tS K G0 W0 (aK a b) E σ H):tSeq (tS K G0 W0 a) (tS K G0 W0 b) E σ H:=by
 refine h.use fun G W le ρ T g r ρ' w e q=>?_
 unfold aK ac at e
 cases p:a ρ with
 | none=>rw [p] at e;exact nsE e
 | some p' =>
  obtain ⟨o,ρ1⟩:=p'
  rw [p] at e
  cases o with
  | error x=>cases e;exact tS.mk le w p q
  | ok f =>
   cases f with
   | nx=>exact tS.mk le (r:=.ok .nx) w p fun σ' H' g' w'=>tS.mk le w' e q
   | br=>cases e;exact tS.mk le w p q
   | ct=>cases e;exact tS.mk le w p q
   | rt d f=>cases e;exact tS.mk le w p q
noncomputable def dg (m:EM):SM:=ac m fun _=>bj .nx
theorem uG {m:EM} {E:Ends} (h:tS K G0 W0 (dg m) E σ H):wl (tE K G0 W0 m) E σ H:=by
 refine h.use fun G W le ρ T g r ρ' w e q=>?_
 refine tE.seq le w e q.err fun ra ρ1 e1 v H1 ⟨Ts,g1,w1,a1⟩=>?_
 cases e1
 exact q _ _ _ (w1.sub (yZ Ts T))
noncomputable def sIf (c:M3 Bool) (a b:SM):SM:=ac c fun t=>if t then a else b
theorem tS_if {c:M3 Bool} {a b:SM} {E:Ends} (h:tS K G0 W0 (sIf c a b) E σ H):tIfS (tT K G0 W0 c) (tS K G0 W0 a) (tS K G0 W0 b) E σ H:=by
 refine h.use fun G W le ρ T g r ρ' w e q=>?_
 refine tT.seq le w e q.err fun t ρ1 e1 H1 g1 w1=>?_
 cases t with
 | true=>exact tS.mk le w1 e1 q
 | false=>exact tS.mk le w1 e1 q
noncomputable def nol:Fl->Fl
 | .u=>.u
 | _=>.z
theorem xQ (f:Fl):nol f ≠ .l:=by cases f <;> intro h <;> cases h
theorem xP (f:Fl):nol f=f\/nol f=.z:=by cases f <;> first | exact .inl rfl | exact .inr rfl
noncomputable def eA (r:R3):M3 (D × Fl):=match r with
 | .val d f=>bj (d,nol f)
 | .pl i=>fun ρ=>((ρ[i]?).join).map fun p=>(.ok (p.1,.z),lowAt i ρ)
theorem mj {i:Nat}:eA (.pl i) ρ=((ρ[i]?).join).map fun p=>(.ok (p.1,.z),lowAt i ρ):=rfl
theorem Ar.val_inv {d:D} {f:Fl} {v:V} {Ts:List It3} (a:Ar σ (.val d f) v Ts):∃ x,Ts=[x]/\x.d=d/\x.f=f/\x.v=v:=by
 generalize h:R3.val d f=r at a
 cases a with
 | pl _=>cases h
 | val x=>cases h;exact ⟨x,rfl,rfl,rfl,rfl⟩
theorem Ar.take {r:R3} {v:V} {Ts:List It3} {k:D × Fl->M3 β} {o:Except D β} (w:Wf K G H σ ρ (Ts ++ T) g) (a:Ar σ r v Ts) (e:ac (eA r) k ρ=some (o,ρ')) :
  ∃ p ρ1 g1 x,k p ρ1=some (o,ρ')/\Wf K G H σ ρ1 (x :: T) g1/\x.d=p.1/\(p.2=x.f\/p.2=.z)/\p.2 ≠ .l/\x.v=v:=by
 cases a with
 | val x=>exact ⟨(x.d,nol x.f),ρ,g,x,e,w,rfl,xP _,xQ _,rfl⟩
 | @pl i v h =>
  unfold ac at e
  rw [mj] at e
  cases q:(ρ[i]?).join with
  | none=>rw [q] at e;exact nsE e
  | some p =>
   rw [q] at e
   obtain ⟨y,y1,y2,y3,y4⟩:=w.slot (d:=p.1) (f:=p.2) q
   obtain ⟨g1,w1,h1⟩:=w.lowAt (i:=i)
   obtain ⟨y',z1,z2,z3⟩:=h1 i y y1
   have hz:=z3 rfl
   refine ⟨(p.1,.z),_,g1,y',e,?_,z2.1.trans y2,.inr rfl,(by intro h;cases h),?_⟩
   ·have nr:∀ u:It3,NoRoot y' u:=fun u hf=>absurd hz hf
    refine ⟨w1.len,w1.sl,w1.sv,w1.okS,fun u hu=>?_,w1.ss,fun j u eu u' hu=>?_,?_,w1.base,w1.pro,⟨fun u hu hf a ea=>?_,w1.fx.frS,w1.fx.bin,w1.fx.ob,w1.fx.lvS⟩⟩
    ·rcases yR.mp hu with h | hu
     ·rw [h];exact w1.okS i y' z1
     ·exact w1.okT u hu
    ·rcases yR.mp hu with h | hu
     ·rw [h]
      refine ⟨?_,nr _⟩
      by_cases ij:j=i
      ·subst ij
       rw [z1] at eu;cases eu
       exact nr _
      ·exact w1.ss j i u y' ij eu z1
     ·exact w1.st j u eu u' hu
    ·exact List.pairwise_cons.mpr ⟨fun u hu=>⟨nr _,(w1.st i y' z1 u hu).2⟩,w1.tt⟩
    ·rcases yR.mp hu with h | hu
     ·rw [h] at hf;exact absurd hz hf
     ·exact w1.fx.frT u hu hf a ea
   ·rw [z2.2.1]
    rw [h] at y4;cases y4;rfl
theorem Wf.store {i:Nat} {f:Fl} (w:Wf K G H σ ρ (x :: T) g) (hi:i < ρ.length) (hp:G.pr i=false) (hf:f=x.f\/f=.z) (hnl:f ≠ .l) :
  Wf K G H (σ.set i (some x.v)) (ρ.set i (some (x.d,f))) T (fun j=>if j=i then some { x with f:=f } else g j):=by
 have hil:i < σ.length:=by rw [w.len];exact hi
 have tx:=List.pairwise_cons.mp w.tt
 have ox:=w.okT x yK
 have nx:∀ u:It3,NoRoot x u->NoRoot { x with f:=f } u:=fun u h q=>by
  rcases hf with e | e
  ·exact h (by rw [<- e];exact q)
  ·exact absurd e q
 have val:∀ j u,(if j=i then some { x with f:=f } else g j)=some u->(j=i/\u = { x with f:=f })\/(j ≠ i/\g j=some u):=fun j u h=>by
  by_cases q:j=i
  ·rw [if_pos q] at h;cases h;exact .inl ⟨q,rfl⟩
  ·rw [if_neg q] at h;exact .inr ⟨q,h⟩
 refine ⟨by rw [List.length_set,List.length_set];exact w.len,fun j=>?_,fun j u h=>?_,fun j u h=>?_,fun u hu=>w.okT u (yM _ hu),fun j k a b n h1 h2=>?_,fun j a h b hb=>?_,tx.2,w.base,fun j hj=>?_,⟨fun u hu=>w.fx.frT u (yM _ hu),fun j u h hpj hfu a ea=>?_,w.fx.bin,w.fx.ob,fun j u h hl=>?_⟩⟩
 ·rw [bS hi]
  by_cases q:j=i
  ·rw [if_pos q,if_pos q];rfl
  ·rw [if_neg q,if_neg q];exact w.sl j
 ·rcases val j u h with ⟨rfl,rfl⟩ | ⟨n,h⟩
  ·rw [List.getElem?_set_self hil]
  ·rw [List.getElem?_set_ne (fun z=>n z.symm)];exact w.sv j u h
 ·rcases val j u h with ⟨rfl,rfl⟩ | ⟨n,h⟩
  ·refine ⟨ox.rep,fun q=>?_,ox.src⟩
   rcases hf with e | e
   ·subst e
    exact ox.own q
   ·exact absurd e q
  ·exact w.okS j u h
 ·rcases val j a h1 with ⟨ej,ea⟩ | ⟨n1,h1'⟩
  ·rcases val k b h2 with ⟨ek,eb⟩ | ⟨n2,h2'⟩
   ·exact absurd (ej.trans ek.symm) n
   ·rw [ea];exact nx b (w.st k b h2' x yK).2
  ·rcases val k b h2 with ⟨ek,eb⟩ | ⟨n2,h2'⟩
   ·rw [eb];exact (w.st j a h1' x yK).1
   ·exact w.ss j k a b n h1' h2'
 ·rcases val j a h with ⟨rfl,rfl⟩ | ⟨n,h⟩
  ·exact ⟨nx b (tx.1 b hb).1,(tx.1 b hb).2⟩
  ·exact w.st j a h b (yM _ hb)
 ·have n:j ≠ i:=fun z=>by subst z;rw [hp] at hj;cases hj
  rw [List.getElem?_set_ne (fun z=>n z.symm)];exact w.pro j hj
 ·rcases val j u h with ⟨_,rfl⟩ | ⟨n,h⟩
  ·rcases hf with e | e
   ·exact w.fx.frT x yK (by rw [<- e];exact hfu) a ea
   ·exact absurd e hfu
  ·exact w.fx.frS j u h hpj hfu a ea
 ·rcases val j u h with ⟨_,rfl⟩ | ⟨n,h⟩
  ·exact absurd hl hnl
  ·exact w.fx.lvS j u h hl
noncomputable def bp (i:Nat) (m:EM):SM:=ac m fun r=>ac (eA r) fun p=>fun ρ=>if i < ρ.length then some (.ok .nx,ρ.set i (some p)) else none
set_option tactic.hygienic true in
theorem wP {i:Nat} {m:EM} {E:Ends} (hp:G0.pr i=false) (h:tS K G0 W0 (bp i m) E σ H):rS (tE K G0 W0 m) (pY i) E σ H:=by
 refine h.use fun G W le ρ T g r ρ' w e q=>?_
 refine tE.seq le w e q.err fun ra ρ1 e1 v H1 ⟨Ts,g1,w1,a1⟩=>?_
 obtain ⟨p,ρ2,g2,x,e2,w2,f1,f2,f4,f3⟩:=a1.take w1 e1
 split at e2
 ·rename_i hi
  cases e2
  have:=w2.store (f:=p.2) hi (by rw [le.pr];exact hp) f2 f4
  rw [f1,f3] at this
  exact q _ _ _ this
 ·exact nsE e2
noncomputable def bD (np:Nat) (m:EM):SM:=ac m fun r=>match r with
 | .val d f=>bj (.rt d f)
 | .pl i=>fun ρ=>match (ρ[i]?).join with
  | some (d,.u)=>if i < np then some (.ok (.rt d .z),lowAt i ρ) else some (.ok (.rt d .u),ρ.set i none)
  | some (d,_)=>some (.ok (.rt d .z),lowAt i ρ)
  | none=>none
theorem Wf.move {i:Nat} (w:Wf K G H σ ρ T g) (hp:G.pr i=false) (e:g i=some y):Wf K G H σ (ρ.set i none) (y :: T) (fun j=>if j=i then none else g j):=by
 have hi:i < ρ.length:=by
  have:=w.sl i
  rw [e] at this
  exact dA this.symm
 have val:∀ j u,(if j=i then none else g j)=some u->j ≠ i/\g j=some u:=fun j u h=>by
  by_cases q:j=i
  ·rw [if_pos q] at h;exact nsE h
  ·rw [if_neg q] at h;exact ⟨q,h⟩
 refine ⟨by rw [List.length_set];exact w.len,fun j=>?_,fun j u h=>w.sv j u (val j u h).2,fun j u h=>w.okS j u (val j u h).2,fun u hu=>?_,fun j k a b n h1 h2=>w.ss j k a b n (val j a h1).2 (val k b h2).2,fun j a h b hb=>?_,?_,w.base,w.pro,⟨fun u hu hf a ea=>?_,fun j u h=>w.fx.frS j u (val j u h).2,w.fx.bin,w.fx.ob,fun j u h=>w.fx.lvS j u (val j u h).2⟩⟩
 ·rw [bS hi]
  by_cases q:j=i
  ·rw [if_pos q,if_pos q];rfl
  ·rw [if_neg q,if_neg q];exact w.sl j
 ·rcases yR.mp hu with h | hu
  ·rw [h];exact w.okS i y e
  ·exact w.okT u hu
 ·obtain ⟨n,h⟩:=val j a h
  rcases yR.mp hb with h' | hb
  ·rw [h'];exact ⟨w.ss j i a y n h e,w.ss i j y a (Ne.symm n) e h⟩
  ·exact w.st j a h b hb
 ·exact List.pairwise_cons.mpr ⟨fun u hu=>w.st i y e u hu,w.tt⟩
 ·rcases yR.mp hu with h | hu
  ·subst h;exact w.fx.frS i u e hp hf a ea
  ·exact w.fx.frT u hu hf a ea
theorem wR {np:Nat} {m:EM} {E:Ends} (hnp:∀ i,np<=i->G0.pr i=false) (h:tS K G0 W0 (bD np m) E σ H):tRet (tE K G0 W0 m) E σ H:=by
 refine h.use fun G W le ρ T g r ρ' w e q=>?_
 refine tE.seq le w e q.err fun ra ρ1 e1 v H1 ⟨Ts,g1,w1,a1⟩=>?_
 have low:∀ {i:Nat} {d:D} {f:Fl},(ρ1[i]?).join=some (d,f)->some ((.ok (.rt d .z),lowAt i ρ1):Except D Flw × Sto)=some (r,ρ')->Ar σ (.pl i) v Ts->E.rt v H1:=fun {i d f} ej e2 a=>by
  cases e2
  have e3:ac (eA (.pl i)) (fun p=>bj (Flw.rt p.1 p.2)) ρ1=some (.ok (.rt d .z),L3.lowAt i ρ1):=by
   unfold ac
   rw [mj,ej]
   rfl
  obtain ⟨p,ρ2,g2,x,e4,w2,f1,f2,_,f3⟩:=a.take w1 e3
  have e5:Flw.rt p.1 p.2=Flw.rt d .z/\ρ2=L3.lowAt i ρ1:=by
   unfold bj at e4
   injection e4 with e4
   injection e4 with e5 e6
   injection e5 with e5
   exact ⟨e5,e6⟩
  obtain ⟨e5,e6⟩:=e5
  injection e5 with e7 e8
  subst e6
  rw [<- f3]
  have w3:=Wf.lowT (Ts:=[x]) w2
  exact q (de x) σ H1 g2 w3 (f1.trans e7) rfl
 cases a1 with
 | val x=>cases e1;exact q x σ H1 g1 w1 rfl rfl
 | @pl i v h =>
  dsimp only at e1
  cases ej:(ρ1[i]?).join with
  | none=>rw [ej] at e1;exact nsE e1
  | some p =>
   obtain ⟨d,f⟩:=p
   rw [ej] at e1
   cases f with
   | u =>
    dsimp only at e1
    split at e1
    ·exact low ej e1 (.pl h)
    ·cases e1
     obtain ⟨y,y1,y2,y3,y4⟩:=w1.slot ej
     have w2:=Wf.move w1 (by rw [le.pr];exact hnp i (by omega)) y1
     have:=q y σ H1 _ w2 y2 y3
     rw [h] at y4
     cases y4
     exact this
   | l=>exact low ej e1 (.pl h)
   | z=>exact low ej e1 (.pl h)
noncomputable def bX (c:M3 Bool) (b:SM):Nat->SM
 | 0=>fun _=>none
 | n+1=>ac c fun t=>if t then ac b (fun f=>match f with
   | .nx=>bX c b n
   | .ct=>bX c b n
   | .br=>bj .nx
   | .rt d f=>bj (.rt d f)) else bj .nx
noncomputable def cw (c:M3 Bool) (b:SM):SM:=fun ρ=>open Classical in if h:∃ n r,bX c b n ρ=some r then some (Classical.choose (Classical.choose_spec h)) else none
theorem fH {c:M3 Bool} {b:SM}:∀ {n:Nat} {ρ:Sto} {r:Except D Flw × Sto},bX c b n ρ=some r->bX c b (n+1) ρ=some r
 | 0,ρ,r,e=>by cases e
 | n+1,ρ,r,e=>by
  unfold bX at e ⊢
  unfold ac at e ⊢
  cases h:c ρ with
  | none=>rw [h] at e;exact nsE e
  | some p =>
   obtain ⟨o,ρ1⟩:=p
   rw [h] at e
   cases o with
   | error x=>exact e
   | ok t =>
    cases t with
    | false=>exact e
    | true =>
     simp only [if_true] at e ⊢
     cases h2:b ρ1 with
     | none=>rw [h2] at e;exact nsE e
     | some p2 =>
      obtain ⟨o2,ρ2⟩:=p2
      rw [h2] at e
      cases o2 with
      | error x=>exact e
      | ok f =>
       cases f with
       | nx=>exact fH (n:=n) e
       | ct=>exact fH (n:=n) e
       | br=>exact e
       | rt d f=>exact e
theorem iw {c:M3 Bool} {b:SM} {n m:Nat} {ρ:Sto} {r:Except D Flw × Sto} (h:n<=m) (e:bX c b n ρ=some r):bX c b m ρ=some r:=by
 induction h with
 | refl=>exact e
 | step _ ih=>exact fH ih
set_option tactic.hygienic true in
theorem my {c:M3 Bool} {b:SM} {ρ:Sto} {r:Except D Flw × Sto} (e:cw c b ρ=some r):∃ n,bX c b n ρ=some r:=by
 unfold cw at e
 split at e
 ·rename_i h
  have e2:=Classical.choose_spec (Classical.choose_spec h)
  injection e with e
  exact ⟨Classical.choose h,by rw [<- e];exact e2⟩
 ·exact nsE e
theorem rO {c:M3 Bool} {b:SM} {E:Ends} (h:tS K G0 W0 (cw c b) E σ H):rN (tT K G0 W0 c) (tS K G0 W0 b) E σ H:=by
 refine h.use fun G W le ρ T g r ρ' w e q=>?_
 obtain ⟨n,e⟩:=my e
 refine ⟨fun m σ H=>∃ ρ g,Wf K G H σ ρ T g/\bX c b m ρ=some (r,ρ'),⟨n,ρ,g,w,e⟩,?_⟩
 rintro m σ1 H1 ⟨ρ1,g1,w1,e1⟩
 cases m with
 | zero=>exact nsE e1
 | succ m =>
  unfold bX at e1
  refine tT.seq le w1 e1 q.err fun t ρ2 e2 H2 g2 w2=>?_
  cases t with
  | false=>cases e2;exact q _ _ _ w2
  | true =>
   refine ⟨fun σ H=>∃ ρ g,Wf K G H σ ρ T g/\bX c b m ρ=some (r,ρ'),fun σ' H' h=>⟨m,Nat.lt_succ_self m,h⟩,?_⟩
   simp only [if_true] at e2
   unfold ac at e2
   cases p:b ρ2 with
   | none=>rw [p] at e2;exact nsE e2
   | some p2 =>
    obtain ⟨o,ρ3⟩:=p2
    rw [p] at e2
    cases o with
    | error x=>cases e2;exact tS.mk le w2 p q
    | ok f =>
     cases f with
     | nx=>exact tS.mk le (r:=.ok .nx) w2 p fun σ' H' g' w'=>⟨ρ3,g',w',e2⟩
     | ct=>exact tS.mk le (r:=.ok .ct) w2 p fun σ' H' g' w'=>⟨ρ3,g',w',e2⟩
     | br=>cases e2;exact tS.mk le (r:=.ok .br) w2 p q
     | rt d f=>cases e2;exact tS.mk le (r:=.ok (.rt d f)) w2 p q
end
end L3
end
section
namespace L3
open PySem L2
noncomputable abbrev Fn:=List (D × Fl)->Option (Except D (D × Fl) × List (D × Fl))
noncomputable def prs (ρ:Sto):List R3->Option (List (D × Fl))
 | []=>some []
 | .pl i :: rs=>match (ρ[i]?).join,prs ρ rs with
  | some p,some ps=>some (p :: ps)
  | _,_=>none
 | .val d f :: rs=>match prs ρ rs with
  | some ps=>some ((d,f) :: ps)
  | _=>none
noncomputable def nq (rs:List R3):List Nat:=(pls rs).filter fun i=>decide (2<=(pls rs).count i)
noncomputable def back:List R3->List (D × Fl)->List (D × Fl)->Sto->Sto
 | .pl i :: rs,p :: ps,q :: qs,ρ=>back rs ps qs (if p.2=.z then ρ else ρ.set i (some (q.1,if q.2=.z then .z else p.2)))
 | .val _ _ :: rs,_ :: ps,_ :: qs,ρ=>back rs ps qs ρ
 | _,_,_,ρ=>ρ
section
variable {K:FG} {G G0:Gm} {W W0:D->Sto->Prop} {H H':Hp} {σ:St} {ρ ρ':Sto} {T T':List It3} {g:Nat->Option It3} {x y z:It3} {α β:Type}
structure Back1 (K:FG) (H H':Hp) (ps:List It3) (p q:It3):Prop where
 z:p.f=.z->q=p
 v:q.v=p.v
 f:q.f=p.f\/q.f=.z
 arg:Arg K H' q
 src:∀ c ∈ q.L,H c=none\/dj ps c
 there:p.f=.u->∀ b,p.v=.ref b->∃ o,H' b=some o
structure BehindX (K:FG) (H H':Hp) (ps qs:List It3):Prop where
 frame:∀ b o,H b=some o->(∀ p ∈ ps,p.f=.u->p.v ≠ .ref b)->H' b=some o
 back:Paired (Back1 K H H' ps) ps qs
 apart:qs.Pairwise Apart3
structure Behind (K:FG) (H H':Hp) (ps qs:List It3) (x:It3):Prop extends BehindX K H H' ps qs where
 rep:Rep K H' x.d x.v x.L
 own:x.f ≠ .z->ie x.d=true/\∃ a L',x.v=.ref a/\x.L=a :: L'/\a ∉ L'/\H a=none
 src:∀ c ∈ x.L,H c=none\/dj ps c
 apx:∀ q ∈ qs,Apart3 x q
theorem Ars.args:∀ {rs:List R3} {vs:List V} {Ts T:List It3} {pfs:List (D × Fl)},Ars σ rs vs Ts->Wf K G H σ ρ (Ts ++ T) g->(∀ i,2<=(pls rs).count i->∀ y,g i=some y->y.f=.z)->prs ρ rs=some pfs ->
  ∃ ps:List It3,ps.map (fun p=>(p.d,p.f))=pfs/\ps.map (·.v)=vs/\ps.Pairwise Apart3/\(∀ p ∈ ps,(∃ i,R3.pl i ∈ rs/\g i=some p)\/p ∈ Ts)/\Paired (fun r p=>match r with | .pl i=>g i=some p | .val _ _=>p ∈ Ts) rs ps
 | [],_,_,T,pfs,.nil,w,_,e=>by cases e;exact ⟨[],rfl,rfl,.nil,fun _ h=>(by cases h),.nil⟩
 | r :: rs,_,_,T,pfs,.cons (v:=v0) (Ts:=T0) (Us:=U0) a as,w,hd,e=>by
  have wt:Wf K G H σ ρ (U0 ++ (T0 ++ T)) g:=by rw [<- List.append_assoc];exact w
  have hd':∀ i,2<=(pls rs).count i->∀ y,g i=some y->y.f=.z:=fun i hc=>hd i (by
   cases r with
   | pl j=>show 2<=(j :: pls rs).count i;rw [List.count_cons];omega
   | val _ _=>exact hc)
  cases a with
  | @pl i v h =>
   unfold prs at e
   cases q:(ρ[i]?).join with
   | none=>rw [q] at e;exact nsE e
   | some p0 =>
    cases q2:prs ρ rs with
    | none=>rw [q,q2] at e;exact nsE e
    | some pfs' =>
     rw [q,q2] at e
     cases e
     obtain ⟨ps,f1,f2,f3,f4,f5⟩:=Ars.args as wt hd' q2
     obtain ⟨y,y1,y2,y3,y4⟩:=w.slot (d:=p0.1) (f:=p0.2) q
     have hv:y.v=v0:=by rw [h] at y4;cases y4;rfl
     refine ⟨y :: ps,by rw [zc,f1,y2,y3],by rw [zc,f2,hv],List.pairwise_cons.mpr ⟨fun p hp=>?_,f3⟩,fun p hp=>?_,.cons y1 ?_⟩
     ·rcases f4 p hp with ⟨j,hj,ej⟩ | hp
      ·by_cases ij:i=j
       ·subst ij
        have hc:2<=(pls (R3.pl i :: rs)).count i:=by
         show 2<=(i :: pls rs).count i
         rw [List.count_cons_self]
         have:=List.count_pos_iff.mpr (jv hj)
         omega
        have hz:=hd i hc y y1
        have hz':=hd i hc p ej
        exact ⟨fun q=>absurd hz q,fun q=>absurd hz' q⟩
       ·exact ⟨w.ss i j y p ij y1 ej,w.ss j i p y (Ne.symm ij) ej y1⟩
      ·exact w.st i y y1 p (yP _ (yP _ hp))
     ·rcases yR.mp hp with h' | hp
      ·rw [h'];exact .inl ⟨i,yK,y1⟩
      ·rcases f4 p hp with ⟨j,hj,ej⟩ | hp
       ·exact .inl ⟨j,yM _ hj,ej⟩
       ·exact .inr (yP _ hp)
     ·exact Paired.mapP f5 fun r p h=>by
       cases r with
       | pl j=>exact h
       | val _ _=>exact yP _ h
  | val x =>
   unfold prs at e
   cases q2:prs ρ rs with
   | none=>rw [q2] at e;exact nsE e
   | some pfs' =>
    rw [q2] at e
    cases e
    obtain ⟨ps,f1,f2,f3,f4,f5⟩:=Ars.args as wt hd' q2
    refine ⟨x :: ps,by rw [zc,f1],by rw [zc,f2],List.pairwise_cons.mpr ⟨fun p hp=>?_,f3⟩,fun p hp=>?_,.cons (yQ _ yK) ?_⟩
    ·rcases f4 p hp with ⟨j,hj,ej⟩ | hp
     ·exact (w.st j p ej x (yP _ (yQ _ yK))).symm
     ·have t1:=(List.pairwise_append.mp w.tt).1
      exact ((List.pairwise_append.mp t1).2.2 p hp x yK).symm
    ·rcases yR.mp hp with h' | hp
     ·rw [h'];exact .inr (yQ _ yK)
     ·rcases f4 p hp with ⟨j,hj,ej⟩ | hp
      ·exact .inl ⟨j,yM _ hj,ej⟩
      ·exact .inr (yP _ hp)
    ·exact Paired.mapP f5 fun r p h=>by
      cases r with
      | pl j=>exact h
      | val _ _=>exact yP _ h
theorem fi:∀ {rs:List R3} {ps qs:List It3} {ρ:Sto} {g:Nat->Option It3},(∀ j,(g j).map (fun x=>(x.d,x.f))=(ρ[j]?).join)->rs.length=ps.length->Paired (Back1 K H H' T) ps qs->(∀ i,R3.pl i ∈ rs->i < ρ.length) ->
  ∃ g':Nat->Option It3,(∀ j,(g' j).map (fun x=>(x.d,x.f))=((back rs (ps.map fun p=>(p.d,p.f)) (qs.map fun q=>(q.d,q.f)) ρ)[j]?).join)/\(back rs (ps.map fun p=>(p.d,p.f)) (qs.map fun q=>(q.d,q.f)) ρ).length = ρ.length /\
   ∀ j:Nat,(g' j=g j/\∀ (k:Nat) (p:It3),rs[k]?=some (R3.pl j)->ps[k]?=some p->p.f=.z)\/∃ (k:Nat) (p q:It3),rs[k]?=some (R3.pl j)/\ps[k]?=some p/\qs[k]?=some q/\p.f ≠ .z/\g' j=some q
 | [],[],_,ρ,g,hg,_,.nil,_=>⟨g,hg,rfl,fun j=>.inl ⟨rfl,fun k p h=>by simp at h⟩⟩
 | [],_ :: _,_,_,_,_,h,_,_=>by cases h
 | _ :: _,[],_,_,_,_,h,_,_=>by cases h
 | .val d f :: rs,p :: ps,_,ρ,g,hg,hl,.cons (b:=q) (l₂:=qs) b1 bs,hi=>by
  obtain ⟨g',h1,h2,h3⟩:=fi (rs:=rs) hg (by simpa using hl) bs fun i h=>hi i (yM _ h)
  refine ⟨g',h1,h2,fun j=>?_⟩
  rcases h3 j with ⟨e,h⟩ | ⟨k,p',q',a1,a2,a3,a4⟩
  ·refine .inl ⟨e,fun k p' e1 e2=>?_⟩
   cases k with
   | zero=>simp at e1
   | succ k=>exact h k p' (by simpa using e1) (by simpa using e2)
  ·exact .inr ⟨k+1,p',q',by simpa using a1,by simpa using a2,by simpa using a3,a4⟩
 | .pl i :: rs,p :: ps,_,ρ,g,hg,hl,.cons (b:=q) (l₂:=qs) b1 bs,hi=>by
  have hil:=hi i yK
  by_cases hz:p.f=.z
  ·have eb:back (.pl i :: rs) ((p :: ps).map fun p=>(p.d,p.f)) ((q :: qs).map fun q=>(q.d,q.f)) ρ=back rs (ps.map fun p=>(p.d,p.f)) (qs.map fun q=>(q.d,q.f)) ρ:=by
    show back rs _ _ (if p.f=.z then ρ else _)=_
    rw [if_pos hz]
   rw [eb]
   obtain ⟨g',h1,h2,h3⟩:=fi (rs:=rs) hg (by simpa using hl) bs fun i h=>hi i (yM _ h)
   refine ⟨g',h1,h2,fun j=>?_⟩
   rcases h3 j with ⟨e,h⟩ | ⟨k,p',q',a1,a2,a3,a4⟩
   ·refine .inl ⟨e,fun k p' e1 e2=>?_⟩
    cases k with
    | zero=>simp at e2;rw [<- e2];exact hz
    | succ k=>exact h k p' (by simpa using e1) (by simpa using e2)
   ·exact .inr ⟨k+1,p',q',by simpa using a1,by simpa using a2,by simpa using a3,a4⟩
  ·have eb:back (.pl i :: rs) ((p :: ps).map fun p=>(p.d,p.f)) ((q :: qs).map fun q=>(q.d,q.f)) ρ=back rs (ps.map fun p=>(p.d,p.f)) (qs.map fun q=>(q.d,q.f)) (ρ.set i (some (q.d,q.f))):=by
    show back rs _ _ (if p.f=.z then ρ else ρ.set i (some (q.d,if q.f=.z then .z else p.f)))=_
    rw [if_neg hz]
    have:(if q.f=.z then Fl.z else p.f)=q.f:=by
     by_cases h:q.f=.z
     ·rw [if_pos h,h]
     ·rw [if_neg h]
      rcases b1.f with h' | h'
      ·exact h'.symm
      ·exact absurd h' h
    rw [this]
   rw [eb]
   obtain ⟨g',h1,h2,h3⟩:=fi (rs:=rs) (ρ:=ρ.set i (some (q.d,q.f))) (g:=fun j=>if j=i then some q else g j) (fun j=>by
    rw [bS hil]
    by_cases e:j=i
    ·rw [if_pos e,if_pos e];rfl
    ·rw [if_neg e,if_neg e];exact hg j) (by simpa using hl) bs fun i h=>by rw [List.length_set];exact hi i (yM _ h)
   refine ⟨g',h1,by rw [h2,List.length_set],fun j=>?_⟩
   rcases h3 j with ⟨e,h⟩ | ⟨k,p',q',a1,a2,a3,a4⟩
   ·by_cases ej:j=i
    ·rw [if_pos ej] at e
     exact .inr ⟨0,p,q,by simp [ej],rfl,rfl,hz,e⟩
    ·rw [if_neg ej] at e
     refine .inl ⟨e,fun k p' e1 e2=>?_⟩
     cases k with
     | zero=>simp at e1;exact absurd e1.symm ej
     | succ k=>exact h k p' (by simpa using e1) (by simpa using e2)
   ·exact .inr ⟨k+1,p',q',by simpa using a1,by simpa using a2,by simpa using a3,a4⟩
theorem lC:∀ {rs:List R3} {pfs:List (D × Fl)},prs ρ rs=some pfs->rs.length=pfs.length
 | [],pfs,e=>by cases e;rfl
 | .pl i :: rs,pfs,e=>by
  unfold prs at e
  cases q:(ρ[i]?).join with
  | none=>rw [q] at e;exact nsE e
  | some p =>
   cases q2:prs ρ rs with
   | none=>rw [q,q2] at e;exact nsE e
   | some ps=>rw [q,q2] at e;cases e;rw [zj,zj,lC q2]
 | .val d f :: rs,pfs,e=>by
  unfold prs at e
  cases q2:prs ρ rs with
  | none=>rw [q2] at e;exact nsE e
  | some ps=>rw [q2] at e;cases e;rw [zj,zj,lC q2]
theorem ot:∀ {rs:List R3} {pfs:List (D × Fl)},prs ρ rs=some pfs->∀ i,R3.pl i ∈ rs->i < ρ.length
 | [],pfs,e,i,h=>by cases h
 | .pl i :: rs,pfs,e,j,h=>by
  unfold prs at e
  cases q:(ρ[i]?).join with
  | none=>rw [q] at e;exact nsE e
  | some p =>
   cases q2:prs ρ rs with
   | none=>rw [q,q2] at e;exact nsE e
   | some ps =>
    rcases yR.mp h with h | h
    ·cases h;exact dA q
    ·exact ot q2 j h
 | .val d f :: rs,pfs,e,j,h=>by
  unfold prs at e
  cases q2:prs ρ rs with
  | none=>rw [q2] at e;exact nsE e
  | some ps =>
   rcases yR.mp h with h | h
   ·cases h
   ·exact ot q2 j h
theorem Paired.at {α β:Type} {F:α->β->Prop}:∀ {l:List α} {m:List β} {k:Nat} {a:α} {b:β},Paired F l m->l[k]?=some a->m[k]?=some b->F a b
 | _,_,_,_,_,.nil,h,_=>by simp at h
 | _,_,0,_,_,.cons r _,h,h'=>by simp at h h';subst h h';exact r
 | _,_,k+1,_,_,.cons _ t,h,h'=>Paired.at (k:=k) t (by simpa using h) (by simpa using h')
theorem Paired.exL {α β:Type} {F:α->β->Prop}:∀ {l:List α} {m:List β} {k:Nat} {a:α},Paired F l m->l[k]?=some a->∃ b,m[k]?=some b/\F a b
 | _,_,_,_,.nil,h=>by simp at h
 | _,_,0,_,.cons r _,h=>by simp at h;subst h;exact ⟨_,rfl,r⟩
 | _,_,k+1,_,.cons _ t,h=>let ⟨b,h1,h2⟩:=Paired.exL (k:=k) t (by simpa using h);⟨b,by simpa using h1,h2⟩
theorem Paired.exR {α β:Type} {F:α->β->Prop}:∀ {l:List α} {m:List β} {k:Nat} {b:β},Paired F l m->m[k]?=some b->∃ a,l[k]?=some a/\F a b
 | _,_,_,_,.nil,h=>by simp at h
 | _,_,0,_,.cons r _,h=>by simp at h;subst h;exact ⟨_,rfl,r⟩
 | _,_,k+1,_,.cons _ t,h=>let ⟨b,h1,h2⟩:=Paired.exR (k:=k) t (by simpa using h);⟨b,by simpa using h1,h2⟩
theorem c6 {α:Type} {R:α->α->Prop} {l:List α} (p:l.Pairwise R) (hs:∀ a b,R a b->R b a) {i j:Nat} {a b:α} (n:i ≠ j) (ha:l[i]?=some a) (hb:l[j]?=some b):R a b:=by
 obtain ⟨h1,e1⟩:=yX.mp ha
 obtain ⟨h2,e2⟩:=yX.mp hb
 have q:=List.pairwise_iff_getElem.mp p
 rcases Nat.lt_or_ge i j with h | h
 ·rw [<- e1,<- e2];exact q i j h1 h2 h
 ·rw [<- e1,<- e2];exact hs _ _ (q j i h2 h1 (by omega))
theorem Wf.after {rs:List R3} {Ts ps qs:List It3} {pfs:List (D × Fl)} (w:Wf K G H σ ρ (Ts ++ T) g) (e:prs ρ rs=some pfs) (f1:ps.map (fun p=>(p.d,p.f))=pfs)
  (f4:∀ p ∈ ps,(∃ i,R3.pl i ∈ rs/\g i=some p)\/p ∈ Ts) (f5:Paired (fun r p=>match r with | .pl i=>g i=some p | .val _ _=>p ∈ Ts) rs ps) (B:BehindX K H H' ps qs) :
  ∃ g',Wf K G H' σ (L3.back rs pfs (qs.map fun q=>(q.d,q.f)) ρ) T g' /\
   ∀ x,Rep K H' x.d x.v x.L->(x.f ≠ .z->ie x.d=true/\∃ a L',x.v=.ref a/\x.L=a :: L'/\a ∉ L'/\H a=none)->(∀ c ∈ x.L,H c=none\/dj ps c)->(∀ q ∈ qs,Apart3 x q)->Wf K G H' σ (L3.back rs pfs (qs.map fun q=>(q.d,q.f)) ρ) (x :: T) g':=by
 subst f1
 have hl:rs.length=ps.length:=by have:=lC e;rwa [yW] at this
 obtain ⟨g',h1,h2,h3⟩:=fi (K:=K) (H:=H) (H':=H') (T:=ps) (rs:=rs) (ps:=ps) (qs:=qs) w.sl hl B.back (ot e)
 have hps:∀ p ∈ ps,Itm (Ts ++ T) g p:=fun p hp=>by
  rcases f4 p hp with ⟨i,_,ei⟩ | h
  ·exact .inl ⟨i,ei⟩
  ·exact .inr (yP _ h)
 have dom:∀ b o,H b=some o->∃ o',H' b=some o':=fun b o hb=>by
  by_cases h:∀ p ∈ ps,p.f=.u->p.v ≠ .ref b
  ·exact ⟨o,B.frame b o hb h⟩
  ·have h':∃ p,p ∈ ps/\p.f=.u/\p.v=.ref b:=by
    refine Classical.byContradiction fun n=>h fun p hp hf hv=>n ⟨p,hp,hf,hv⟩
   obtain ⟨p,hp,hf,hv⟩:=h'
   obtain ⟨k,hk,ek⟩:=List.mem_iff_getElem.mp hp
   obtain ⟨q,e1,b1⟩:=Paired.exL B.back (show ps[k]?=some p by rw [yS hk,ek])
   exact b1.there hf b hv
 have ka:∀ j z,g j=some z->(∀ (k:Nat) (p:It3),rs[k]?=some (R3.pl j)->ps[k]?=some p->p.f=.z)->∀ p ∈ ps,Apart3 p z:=fun j z ej hu p hp=>by
  rcases f4 p hp with ⟨i,hi,ei⟩ | h
  ·by_cases ij:i=j
   ·subst ij
    have epz:p=z:=zx (ei.symm.trans ej)
    subst epz
    have hz:p.f=.z:=by
     obtain ⟨k,hk,ek⟩:=List.mem_iff_getElem.mp hi
     have ek':rs[k]?=some (R3.pl i):=by rw [yS hk,ek]
     obtain ⟨p',e1,e2⟩:=Paired.exL f5 ek'
     have e2:g i=some p':=e2
     rw [ei] at e2
     cases e2
     exact hu k p ek' e1
    exact ⟨fun q=>absurd hz q,fun q=>absurd hz q⟩
   ·exact ⟨w.ss i j p z ij ei ej,w.ss j i z p (Ne.symm ij) ej ei⟩
  ·exact (w.st j z ej p (yP _ h)).symm
 have kt:∀ z ∈ T,∀ p ∈ ps,Apart3 p z:=fun z hz p hp=>by
  rcases f4 p hp with ⟨i,hi,ei⟩ | h
  ·exact w.st i p ei z (yQ _ hz)
  ·exact (List.pairwise_append.mp w.tt).2.2 p h z hz
 have keep:∀ z,ItOk K G H z->(∀ p ∈ ps,Apart3 p z)->ItOk K G H' z:=fun z oz az=>by
  refine oz.keep (M:=fun b=>∃ p ∈ ps,p.f=.u/\p.v=.ref b) (fun b o hb n=>B.frame b o hb fun p hp hf hv=>n ⟨p,hp,hf,hv⟩) (fun b ⟨p,hp,hf,hv⟩=>?_) (fun b hb ⟨p,hp,hf,hv⟩=>?_)
  ·obtain ⟨_,a,L',e1,e2,_⟩:=(w.itm (hps p hp)).own (by rw [hf];intro q;cases q)
   rw [hv] at e1
   cases e1
   exact (w.itm (hps p hp)).rep.inH b (by rw [e2];exact yK)
  ·exact (az p hp).1 (by rw [hf];intro q;cases q) b hv hb
 have okq:∀ k p q,ps[k]?=some p->qs[k]?=some q->ItOk K G H' q:=fun k p q e1 e2=>by
  have b:=Paired.at B.back e1 e2
  refine ⟨b.arg.rep,fun hf=>?_,fun c hc=>?_⟩
  ·obtain ⟨m,a,L',v1,v2,v3⟩:=b.arg.own hf
   refine ⟨m,a,L',v1,v2,v3,fun hu=>?_⟩
   have pf:p.f=.u:=by
    rcases b.f with h | h
    ·rw [<- h];exact hu
    ·rw [h] at hu;cases hu
   obtain ⟨_,a',L'',e3,_,_,e5⟩:=(w.itm (hps p (yY e1))).own (by rw [pf];intro q;cases q)
   rw [<- b.v,v1] at e3
   cases e3
   exact e5 pf
  ·rcases b.src c hc with h | ⟨p',hp',h⟩
   ·exact .inl (w.h0none h)
   ·exact (w.itm (hps p' hp')).src c h
 have kq:∀ z,ItOk K G H z->(∀ p ∈ ps,Apart3 p z)->∀ k p q,ps[k]?=some p->qs[k]?=some q->Apart3 z q:=fun z oz az k p q e1 e2=>by
  have b:=Paired.at B.back e1 e2
  refine ⟨fun hf a ev hm=>?_,fun hf a ev=>?_⟩
  ·rcases b.src a hm with h | ⟨p',hp',hc⟩
   ·obtain ⟨_,a',L',q1,q2,_⟩:=oz.own hf
    rw [ev] at q1;cases q1
    obtain ⟨o,ho⟩:=(oz.rep.inH a (by rw [q2];exact yK)).ex
    rw [h] at ho;exact nsE ho
   ·exact (az p' hp').2 hf a ev hc
  ·have pf:p.f ≠ .z:=fun q'=>by
    have:=b.z q'
    rw [this] at hf
    exact hf q'
   exact (az p (yY e1)).1 pf a (by rw [<- b.v];exact ev)
 have old:∀ j z,g' j=some z->(g j=some z/\∀ p ∈ ps,Apart3 p z)\/∃ k p,rs[k]?=some (R3.pl j)/\ps[k]?=some p/\qs[k]?=some z:=fun j z ez=>by
  rcases h3 j with ⟨e1,hu⟩ | ⟨k,p,q,a1,a2,a3,_,a5⟩
  ·rw [e1] at ez
   exact .inl ⟨ez,ka j z ez hu⟩
  ·rw [a5] at ez
   cases ez
   exact .inr ⟨k,p,a1,a2,a3⟩
 have wf:Wf K G H' σ (L3.back rs (ps.map fun p=>(p.d,p.f)) (qs.map fun q=>(q.d,q.f)) ρ) T g':=by
  refine ⟨by rw [h2];exact w.len,h1,fun j z ez=>?_,fun j z ez=>?_,fun z hz=>keep z (w.okT z (yQ _ hz)) (kt z hz),fun i j a b n ea eb=>?_,fun j z ez t ht=>?_,(List.pairwise_append.mp w.tt).2.1,fun b o e n=>?_,w.pro,⟨fun u hu=>w.fx.frT u (yQ _ hu),fun j u h hp hf a ea=>?_,fun b hb=>?_,fun b o h=>?_,fun j u h hl=>?_⟩⟩
  ·rcases old j z ez with ⟨e1,_⟩ | ⟨k,p,a1,a2,a3⟩
   ·exact w.sv j z e1
   ·have ep:g j=some p:=by
     obtain ⟨p',q1,q2⟩:=Paired.exL f5 a1
     rw [a2] at q1;cases q1
     exact q2
    rw [(Paired.at B.back a2 a3).v]
    exact w.sv j p ep
  ·rcases old j z ez with ⟨e1,ap⟩ | ⟨k,p,a1,a2,a3⟩
   ·exact keep z (w.okS j z e1) ap
   ·exact okq k p z a2 a3
  ·rcases old i a ea with ⟨e1,ap⟩ | ⟨k,p,a1,a2,a3⟩
   ·rcases old j b eb with ⟨e2,_⟩ | ⟨k',p',b1,b2,b3⟩
    ·exact w.ss i j a b n e1 e2
    ·exact (kq a (w.okS i a e1) ap k' p' b b2 b3).1
   ·rcases old j b eb with ⟨e2,ap⟩ | ⟨k',p',b1,b2,b3⟩
    ·exact (kq b (w.okS j b e2) ap k p a a2 a3).2
    ·have kk:k ≠ k':=fun z=>by
      subst z
      rw [a1] at b1
      cases b1
      exact n rfl
     exact (c6 B.apart (fun _ _=>Apart3.symm) kk a3 b3).1
  ·rcases old j z ez with ⟨e1,ap⟩ | ⟨k,p,a1,a2,a3⟩
   ·exact w.st j z e1 t (yQ _ ht)
   ·exact (kq t (w.okT t (yQ _ ht)) (kt t ht) k p z a2 a3).symm
  ·refine B.frame b o (w.base b o e n) fun p hp hf hv=>?_
   obtain ⟨_,a,L',e1,_,_,e3⟩:=(w.itm (hps p hp)).own (by rw [hf];intro q;cases q)
   rw [hv] at e1
   cases e1
   rcases e3 hf with h | h
   ·rw [e] at h;cases h
   ·exact n h
  ·rcases old j u h with ⟨e1,_⟩ | ⟨k,p,a1,a2,a3⟩
   ·exact w.fx.frS j u e1 hp hf a ea
   ·have b:=Paired.at B.back a2 a3
    have ep:g j=some p:=by
     obtain ⟨p',q1,q2⟩:=Paired.exL f5 a1
     rw [a2] at q1;cases q1
     exact q2
    refine w.fx.frS j p ep hp (fun q'=>?_) a (by rw [<- b.v];exact ea)
    have:=b.z q'
    rw [this] at hf
    exact hf q'
  ·obtain ⟨o,ho⟩:=w.fx.bin b hb
   exact dom b o ho
  ·obtain ⟨o',ho⟩:=w.fx.ob b o h
   exact dom b o' ho
  ·rcases old j u h with ⟨e1,_⟩ | ⟨k,p,a1,a2,a3⟩
   ·exact w.fx.lvS j u e1 hl
   ·have b:=Paired.at B.back a2 a3
    have ep:g j=some p:=by
     obtain ⟨p',q1,q2⟩:=Paired.exL f5 a1
     rw [a2] at q1;cases q1
     exact q2
    rw [b.v]
    refine w.fx.lvS j p ep ?_
    rcases b.f with h | h
    ·rw [<- h];exact hl
    ·rw [h] at hl;cases hl
 refine ⟨g',wf,fun x rx ox sx ax=>?_⟩
 have kx:∀ z,ItOk K G H z->(∀ p ∈ ps,Apart3 p z)->Apart3 z x:=fun z oz az=>by
  refine ⟨fun hf a ev hm=>?_,fun hf a ev hm=>?_⟩
  ·rcases sx a hm with h | ⟨p',hp',hc⟩
   ·obtain ⟨_,a',L',q1,q2,_⟩:=oz.own hf
    rw [ev] at q1;cases q1
    obtain ⟨o,ho⟩:=(oz.rep.inH a (by rw [q2];exact yK)).ex
    rw [h] at ho;exact nsE ho
   ·exact (az p' hp').2 hf a ev hc
  ·obtain ⟨_,a',L',q1,_,_,q4⟩:=ox hf
   rw [ev] at q1;cases q1
   obtain ⟨o,ho⟩:=(oz.rep.inH a hm).ex
   rw [q4] at ho;exact nsE ho
 refine ⟨wf.len,wf.sl,wf.sv,wf.okS,fun z hz=>?_,wf.ss,fun j z ez t ht=>?_,?_,wf.base,wf.pro,⟨fun u hu hf a ea=>?_,wf.fx.frS,wf.fx.bin,wf.fx.ob,wf.fx.lvS⟩⟩
 ·rcases yR.mp hz with h | hz
  ·rw [h]
   refine ⟨rx,fun hf=>?_,fun c hc=>?_⟩
   ·obtain ⟨m,a,L',v1,v2,v3,v4⟩:=ox hf
    exact ⟨m,a,L',v1,v2,v3,fun _=>.inl (w.h0none v4)⟩
   ·rcases sx c hc with h | ⟨p',hp',h⟩
    ·exact .inl (w.h0none h)
    ·exact (w.itm (hps p' hp')).src c h
  ·exact wf.okT z hz
 ·rcases yR.mp ht with h | ht
  ·rw [h]
   rcases old j z ez with ⟨e1,ap⟩ | ⟨k,p,a1,a2,a3⟩
   ·exact kx z (w.okS j z e1) ap
   ·exact (ax z (yY a3)).symm
  ·exact wf.st j z ez t ht
 ·exact List.pairwise_cons.mpr ⟨fun t ht=>(kx t (w.okT t (yQ _ ht)) (kt t ht)).symm,wf.tt⟩
 ·rcases yR.mp hu with h | hu
  ·subst h
   obtain ⟨_,a',L',q1,_,_,q4⟩:=ox hf
   rw [ea] at q1;cases q1
   exact w.ornone q4
  ·exact wf.fx.frT u hu hf a ea
set_option tactic.hygienic true in
theorem oO {i a:Nat} (h:(ρ[i]?).join=none):((L3.lowAt a ρ)[i]?).join=none:=by
 unfold L3.lowAt
 split
 ·rename_i d hd
  rw [bS (dA hd)]
  by_cases ia:i=a
  ·subst ia;rw [h] at hd;exact nsE hd
  ·rw [if_neg ia];exact h
 ·rename_i d hd
  rw [bS (dA hd)]
  by_cases ia:i=a
  ·subst ia;rw [h] at hd;exact nsE hd
  ·rw [if_neg ia];exact h
 ·exact h
theorem ni {i:Nat}:∀ {is:List Nat} {ρ:Sto},(ρ[i]?).join=none->((L3.frz is ρ)[i]?).join=none
 | [],ρ,h=>h
 | a :: is,ρ,h=>ni (is:=is) (ρ:=L3.lowAt a ρ) (oO h)
end
end L3
end
section
namespace L3
open PySem L2
noncomputable def gu (ρ:Sto):Nat->List (D × Fl)->Option (List (D × Fl))
 | _,[]=>some []
 | i,(d,.z) :: ps=>(gu ρ (i+1) ps).map fun r=>(d,.z) :: r
 | i,(d,f) :: ps=>match (ρ[i]?).join,gu ρ (i+1) ps with
  | some (d',f'),some r=>if f'=f\/f'=.z then some ((d',f') :: r) else none
  | _,_=>none
noncomputable def ja (n:Nat) (ps:List (D × Fl)):Sto:=ps.map some ++ List.replicate (n - ps.length) none
noncomputable def fn0 (n:Nat) (b:SM):Fn:=fun ps=>match b (ja n ps) with
 | some (.ok .nx,ρ')=>(gu ρ' 0 ps).map fun fs=>(.ok (.non,.z),fs)
 | some (.ok (.rt d f),ρ')=>(gu ρ' 0 ps).map fun fs=>(.ok (d,f),fs)
 | some (.error e,ρ')=>(gu ρ' 0 ps).map fun fs=>(.error e,fs)
 | _=>none
noncomputable def qR (b:Bool) (p:D × Fl):D × Fl:=if b then (p.1,.z) else p
noncomputable def fnM (mask:List Bool) (n:Nat) (b:SM):Fn:=fun ps=>if ps.length=mask.length then fn0 n b (List.zipWith qR mask ps) else none
section
variable {K:FG} {G:Gm} {W:D->Sto->Prop} {H H':Hp} {σ:St} {ρ ρ':Sto} {T T':List It3} {g:Nat->Option It3} {x y z:It3} {α β:Type}
noncomputable def gOf (H:Hp) (pr:Nat->Bool) (σ0:St) (ps:List It3):Gm:=⟨H,fun b=>∃ p ∈ ps,p.f=.u/\p.v=.ref b,pr,σ0,H,dj ps,fun i=>(ps[i]?).map (·.v)⟩
theorem re {n:Nat} {ps:List (D × Fl)} (hn:ps.length<=n) (i:Nat):((ja n ps)[i]?).join=ps[i]?:=by
 unfold ja
 by_cases h:i < ps.length
 ·rw [zr (by simpa using h),y7]
  cases ps[i]? <;> rfl
 ·rw [List.getElem?_append_right (by simpa using h),List.getElem?_replicate,List.getElem?_eq_none (by omega)]
  split <;> rfl
theorem kO {n:Nat} {vs:List V} {i:Nat} {v:V} (h:vs[i]?=some v):(vs.map some ++ List.replicate n (none:Option V))[i]?=some (some v):=by
 obtain ⟨hi,e⟩:=yX.mp h
 rw [zr (by simpa using hi),y7,h]
 rfl
theorem rH {n:Nat} {pr:Nat->Bool} {ps:List It3} (hn:ps.length<=n) (ha:∀ p ∈ ps,Arg K H p) (hp:ps.Pairwise Apart3) (hpr:∀ (i:Nat) (p:It3),ps[i]?=some p->p.f ≠ .z->pr i=true) :
  Wf K (gOf H pr ((ps.map (·.v)).map some ++ List.replicate (n - (ps.map (·.v)).length) none) ps) H ((ps.map (·.v)).map some ++ List.replicate (n - (ps.map (·.v)).length) none) (ja n (ps.map fun p=>(p.d,p.f))) [] (fun i=>ps[i]?):=by
 refine ⟨?_,fun i=>?_,fun i x e=>?_,fun i x e=>?_,fun _ h=>(by cases h),fun i j a b n ea eb=>?_,fun _ _ _ _ h=>(by cases h),.nil,fun b o e _=>e,fun i _=>rfl,⟨fun _ h=>(by cases h),fun i x e hz hf=>?_,fun b h=>?_,fun b o e=>⟨o,e⟩,fun i x e _=>(by show (ps[i]?).map (·.v)=_;rw [e];rfl)⟩⟩
 ·unfold ja;simp
 ·rw [re (by simpa using hn),y7]
 ·exact kO (by rw [y7,e];rfl)
 ·have hm:=yY e
  refine ⟨(ha x hm).rep,fun hf=>?_,fun c hc=>.inr ⟨x,hm,hc⟩⟩
  obtain ⟨m,a,L',v1,v2,v3⟩:=(ha x hm).own hf
  exact ⟨m,a,L',v1,v2,v3,fun hu=>.inr ⟨x,hm,hu,v1⟩⟩
 ·exact (c6 hp (fun _ _=>Apart3.symm) n ea eb).1
 ·have hz:pr i=false:=hz
  rw [hpr i x e hf] at hz;cases hz
 ·obtain ⟨p,hm,hf,hv⟩:=h
  obtain ⟨_,a,L',v1,v2,_⟩:=(ha p hm).own (by rw [hf];intro q;cases q)
  rw [hv] at v1;cases v1
  exact ((ha p hm).rep.inH b (by rw [v2];exact yK)).ex
noncomputable def FinsOk (ρ:Sto) (i:Nat) (ps fs:List (D × Fl)):Prop:=fs.length=ps.length/\∀ (k:Nat) (p:D × Fl),ps[k]?=some p->∃ q,fs[k]?=some q/\(p.2=.z->q=p)/\(p.2 ≠ .z->(ρ[i+k]?).join=some q/\(q.2=p.2\/q.2=.z))
theorem FinsOk.cons {i:Nat} {p0 q0:D × Fl} {ps fs:List (D × Fl)} (h:FinsOk ρ (i+1) ps fs) (hz:p0.2=.z->q0=p0) (hn:p0.2 ≠ .z->(ρ[i]?).join=some q0/\(q0.2=p0.2\/q0.2=.z)):FinsOk ρ i (p0 :: ps) (q0 :: fs):=by
 refine ⟨by rw [zj,zj,h.1],fun k p hk=>?_⟩
 cases k with
 | zero=>cases hk;exact ⟨q0,rfl,hz,hn⟩
 | succ k =>
  obtain ⟨q,a,b,c⟩:=h.2 k p hk
  exact ⟨q,a,b,fun n=>by have:=c n;rwa [show i+1+k=i+(k+1) by omega] at this⟩
theorem iL:∀ {i:Nat} {ps:List (D × Fl)} {fs:List (D × Fl)},gu ρ i ps=some fs->FinsOk ρ i ps fs
 | i,[],fs,e=>by cases e;exact ⟨rfl,fun k p h=>by cases h⟩
 | i,p0 :: ps,fs,e=>by
  obtain ⟨d,f⟩:=p0
  have key:f ≠ .z->(match (ρ[i]?).join,gu ρ (i+1) ps with
    | some (d',f'),some r=>if f'=f\/f'=.z then some ((d',f') :: r) else none
    | _,_=>none)=some fs->FinsOk ρ i ((d,f) :: ps) fs:=fun hf e=>by
   cases h:(ρ[i]?).join with
   | none=>rw [h] at e;exact nsE e
   | some p0 =>
    cases h2:gu ρ (i+1) ps with
    | none=>rw [h,h2] at e;exact nsE e
    | some r =>
     rw [h,h2] at e
     obtain ⟨d',f'⟩:=p0
     dsimp only at e
     rcases Decidable.em (f'=f\/f'=.z) with hc | hc
     ·rw [if_pos hc] at e
      cases e
      exact (iL h2).cons (fun z=>absurd z hf) fun _=>⟨h,hc⟩
     ·rw [if_neg hc] at e;exact nsE e
  cases f with
  | z =>
   obtain ⟨r,h,h'⟩:=yO.mp (show (gu ρ (i+1) ps).map (fun r=>(d,Fl.z) :: r)=some fs from e)
   subst h'
   exact (iL h).cons (fun _=>rfl) fun n=>absurd rfl n
  | u=>exact key (by intro q;cases q) e
  | l=>exact key (by intro q;cases q) e
theorem i6 {α β:Type} {P:Nat->α->β->Prop}:∀ (l:List α) (i:Nat),(∀ (k:Nat) a,l[k]?=some a->∃ b,P (i+k) a b)->∃ m:List β,m.length=l.length/\∀ (k:Nat) a,l[k]?=some a->∃ b,m[k]?=some b/\P (i+k) a b
 | [],i,_=>⟨[],rfl,fun k a h=>by simp at h⟩
 | a :: l,i,h=>by
  obtain ⟨b,hb⟩:=h 0 a rfl
  obtain ⟨m,h1,h2⟩:=i6 l (i+1) fun k a e=>by
   have:=h (k+1) a (by simpa using e)
   rwa [show i+(k+1)=i+1+k by omega] at this
  refine ⟨b :: m,by simp [h1],fun k a' e=>?_⟩
  cases k with
  | zero=>simp at e;subst e;exact ⟨b,rfl,hb⟩
  | succ k =>
   obtain ⟨b',e1,e2⟩:=h2 k a' (by simpa using e)
   exact ⟨b',by simpa using e1,by rwa [show i+(k+1)=i+1+k by omega]⟩
theorem Paired.ofGet {α β:Type} {F:α->β->Prop}:∀ {l:List α} {m:List β},l.length=m.length->(∀ (k:Nat) a b,l[k]?=some a->m[k]?=some b->F a b)->Paired F l m
 | [],[],_,_=>.nil
 | [],_ :: _,h,_=>by cases h
 | _ :: _,[],h,_=>by cases h
 | a :: l,b :: m,h,f=>.cons (f 0 a b rfl rfl) (Paired.ofGet (by simpa using h) fun k a b e1 e2=>f (k+1) a b (by simpa using e1) (by simpa using e2))
theorem nO {n:Nat} {pr:Nat->Bool} {σ0:St} {ps:List It3} {fs:List (D × Fl)} (ha:∀ p ∈ ps,Arg K H p) (hp:ps.Pairwise Apart3) (hpr:∀ (i:Nat) (p:It3),ps[i]?=some p->p.f ≠ .z->pr i=true) (h0:∀ (i:Nat) (p:It3),ps[i]?=some p->σ0[i]?=some (some p.v))
  (w:Wf K (gOf H pr σ0 ps) H' σ ρ T g) (e:gu ρ 0 (ps.map fun p=>(p.d,p.f))=some fs) :
  ∃ qs,BehindX K H H' ps qs/\qs.map (fun q=>(q.d,q.f))=fs/\(∀ (k:Nat) (p q:It3),ps[k]?=some p->qs[k]?=some q->(p.f=.z/\q=p)\/(p.f ≠ .z/\g k=some q)):=by
 obtain ⟨hl,hs⟩:=iL e
 rw [yW] at hl
 have frame:∀ b o,H b=some o->(∀ p ∈ ps,p.f=.u->p.v ≠ .ref b)->H' b=some o:=fun b o hb hn=>w.base b o hb fun ⟨p,hm,hf,hv⟩=>hn p hm hf hv
 have there:∀ b o,H b=some o->∃ o',H' b=some o':=fun b o hb=>w.fx.ob b o hb
 have repz:∀ (k:Nat) (p:It3),ps[k]?=some p->p.f=.z->Rep K H' p.d p.v p.L:=fun k p ek hz=>by
  refine (ha p (yY ek)).rep.keep (M:=fun b=>∃ p ∈ ps,p.f=.u/\p.v=.ref b) (fun b o hb hn=>frame b o hb fun p hp hf hv=>hn ⟨p,hp,hf,hv⟩) (fun b ⟨p',hm,hf,hv⟩=>?_) fun b hb ⟨p',hm,hf,hv⟩=>?_
  ·obtain ⟨_,a,L',v1,v2,_⟩:=(ha p' hm).own (by rw [hf];intro q;cases q)
   rw [hv] at v1;cases v1
   exact (ha p' hm).rep.inH b (by rw [v2];exact yK)
  ·obtain ⟨j,hj,ej⟩:=List.mem_iff_getElem.mp hm
   have ej':ps[j]?=some p':=by rw [yS hj,ej]
   have jk:j ≠ k:=fun z=>by subst z;rw [ek] at ej';cases ej';rw [hz] at hf;cases hf
   exact (c6 hp (fun _ _=>Apart3.symm) jk ej' ek).1 (by rw [hf];intro q;cases q) b hv hb
 have one:∀ (k:Nat) (p:It3),ps[k]?=some p->∃ q,(q.d,q.f)=(fs[k]?).getD (p.d,p.f)/\fs[k]?=some (q.d,q.f)/\Back1 K H H' ps p q/\((p.f=.z/\q=p)\/(p.f ≠ .z/\g k=some q)):=fun k p ek=>by
  have hm:=yY ek
  obtain ⟨q0,f1,f2,f3⟩:=hs k (p.d,p.f) (by rw [y7,ek];rfl)
  by_cases hz:p.f=.z
  ·have:=f2 hz
   subst this
   refine ⟨p,by rw [f1];rfl,f1,⟨fun _=>rfl,rfl,.inl rfl,⟨repz k p ek hz,fun h=>absurd hz h⟩,fun c hc=>.inr ⟨p,hm,hc⟩,fun h=>?_⟩,.inl ⟨hz,rfl⟩⟩
   rw [hz] at h;cases h
  ·obtain ⟨h1,h2⟩:=f3 hz
   rw [zg] at h1
   obtain ⟨y,y1,y2,y3,y4⟩:=w.slot (d:=q0.1) (f:=q0.2) h1
   have hv:y.v=p.v:=by
    have:=w.pro k (hpr k p ek hz)
    rw [y4] at this
    have h0:some (some y.v)=some (some p.v):=this.trans (h0 k p ek)
    injection h0 with h0
    injection h0
   have ok:=w.okS k y y1
   refine ⟨y,by rw [f1,y2,y3];rfl,by rw [f1,y2,y3],⟨fun h=>absurd h hz,hv,by rw [y3];exact h2,⟨ok.rep,fun hf=>?_⟩,fun c hc=>ok.src c hc,fun hf b hb=>?_⟩,.inr ⟨hz,y1⟩⟩
   ·obtain ⟨m,a,L',v1,v2,v3,_⟩:=ok.own hf
    exact ⟨m,a,L',v1,v2,v3⟩
   ·obtain ⟨_,a,L',v1,v2,_⟩:=(ha p hm).own hz
    rw [hb] at v1;cases v1
    obtain ⟨o,ho⟩:=((ha p hm).rep.inH b (by rw [v2];exact yK)).ex
    exact there b o ho
 obtain ⟨qs,hq,hall⟩:=i6 (P:=fun k p q=>fs[k]?=some (q.d,q.f)/\Back1 K H H' ps p q/\((p.f=.z/\q=p)\/(p.f ≠ .z/\g k=some q))) ps 0 fun k p ek=>by
  obtain ⟨q,_,a,b,c⟩:=one k p ek
  exact ⟨q,by simpa using ⟨a,b,c⟩⟩
 have get:∀ (k:Nat) (p q:It3),ps[k]?=some p->qs[k]?=some q->fs[k]?=some (q.d,q.f)/\Back1 K H H' ps p q/\((p.f=.z/\q=p)\/(p.f ≠ .z/\g k=some q)):=fun k p q ep eq=>by
  obtain ⟨q',e1,e2⟩:=hall k p ep
  rw [eq] at e1
  cases e1
  simpa using e2
 have par:∀ (k:Nat) (q:It3),qs[k]?=some q->∃ p,ps[k]?=some p:=fun k q e=>by
  have hk:=(yX.mp e).1
  exact ⟨ps[k]'(by omega),by simp [show k < ps.length by omega]⟩
 refine ⟨qs,⟨frame,Paired.ofGet hq.symm fun k p q ep eq=>(get k p q ep eq).2.1,?_⟩,?_,fun k p q ep eq=>(get k p q ep eq).2.2⟩
 ·rw [List.pairwise_iff_getElem]
  intro k j hk hj lt
  have ek:qs[k]?=some qs[k]:=yS hk
  have ej:qs[j]?=some qs[j]:=yS hj
  have side:∀ (k j:Nat) (q r:It3),k ≠ j->qs[k]?=some q->qs[j]?=some r->NoRoot q r:=fun k j q r n eq er=>by
   obtain ⟨p,ep⟩:=par k q eq
   obtain ⟨p',ep'⟩:=par j r er
   obtain ⟨_,b,c⟩:=get k p q ep eq
   obtain ⟨_,b',c'⟩:=get j p' r ep' er
   rcases c with ⟨hz,e⟩ | ⟨hz,e⟩
   ·rw [e];exact fun h=>absurd hz h
   ·rcases c' with ⟨hz',e'⟩ | ⟨hz',e'⟩
    ·rw [e']
     intro hf a ea
     exact (c6 hp (fun _ _=>Apart3.symm) n ep ep').1 hz a (by rw [<- b.v];exact ea)
    ·exact w.ss k j q r n e e'
  exact ⟨side k j _ _ (za lt) ek ej,side j k _ _ (Nat.ne_of_gt lt) ej ek⟩
 ·refine List.ext_getElem? fun k=>?_
  rw [y7]
  cases eq:qs[k]? with
  | none =>
   have:qs.length<=k:=List.getElem?_eq_none_iff.mp eq
   rw [List.getElem?_eq_none (by omega)]
   rfl
  | some q =>
   obtain ⟨p,ep⟩:=par k q eq
   rw [(get k p q ep eq).1]
   rfl
theorem o0 {n:Nat} {pr:Nat->Bool} {σ0:St} {ps:List It3} {fs:List (D × Fl)} (ha:∀ p ∈ ps,Arg K H p) (hp:ps.Pairwise Apart3) (hpr:∀ (i:Nat) (p:It3),ps[i]?=some p->p.f ≠ .z->pr i=true) (h0:∀ (i:Nat) (p:It3),ps[i]?=some p->σ0[i]?=some (some p.v))
  (w:Wf K (gOf H pr σ0 ps) H' σ ρ (x :: T) g) (e:gu ρ 0 (ps.map fun p=>(p.d,p.f))=some fs):∃ qs,Behind K H H' ps qs x/\qs.map (fun q=>(q.d,q.f))=fs:=by
 obtain ⟨qs,B,f,hg⟩:=nO (n:=n) ha hp hpr h0 w e
 have ok:=w.okT x yK
 refine ⟨qs,⟨B,ok.rep,fun hf=>?_,fun c hc=>ok.src c hc,fun q hq=>?_⟩,f⟩
 ·obtain ⟨m,a,L',v1,v2,v3,_⟩:=ok.own hf
  exact ⟨m,a,L',v1,v2,v3,w.fx.frT x yK hf a v1⟩
 ·obtain ⟨k,hk,ek⟩:=List.mem_iff_getElem.mp hq
  have eq:qs[k]?=some q:=by rw [yS hk,ek]
  obtain ⟨p,ep,b⟩:=Paired.exR B.back eq
  rcases hg k p q ep eq with ⟨hz,e⟩ | ⟨hz,e⟩
  ·rw [e]
   refine ⟨fun hf a ea hm=>?_,fun h=>absurd hz h⟩
   have h1:=w.fx.frT x yK hf a ea
   obtain ⟨o,ho⟩:=((ha p (yY ep)).rep.inH a hm).ex
   have h2:H a=none:=h1
   rw [h2] at ho;exact nsE ho
  ·exact (w.st k q e x yK).symm
end
end L3
end
section
namespace L3
open PySem L2
noncomputable def cN:Fl->Fl
 | .u=>.l
 | f=>f
noncomputable def bu (x:It3):It3:={ x with f:=cN x.f }
noncomputable def fD:Fl->Fl
 | .l=>.u
 | f=>f
noncomputable def uC (x:It3):It3:={ x with f:=fD x.f }
noncomputable def jY (h:Fl->Fl) (i:Nat) (ρ:Sto):Sto:=match (ρ[i]?).join with
 | some (d,f)=>ρ.set i (some (d,h f))
 | none=>ρ
noncomputable def aJ (h:Fl->Fl) (is:List Nat) (ρ:Sto):Sto:=is.foldl (fun ρ i=>jY h i ρ) ρ
noncomputable def us (ρ:Sto) (is:List Nat):List Nat:=is.filter fun i=>match (ρ[i]?).join with
 | some (_,.u)=>true
 | _=>false
theorem lentF_z {f:Fl}:cN f=.z ↔ f=.z:=by cases f <;> simp [cN]
theorem unlF_z {f:Fl}:fD f=.z ↔ f=.z:=by cases f <;> simp [fD]
theorem pN (f:Fl):cN f ≠ .u:=by cases f <;> simp [cN]
theorem wK (f:Fl):fD f ≠ .l:=by cases f <;> simp [fD]
section
variable {K:FG} {G G0:Gm} {W W0:D->Sto->Prop} {H H':Hp} {σ:St} {ρ ρ':Sto} {T T':List It3} {g:Nat->Option It3} {x y z:It3} {α β:Type}
theorem oH {h:Fl->Fl} {i j:Nat}:((jY h i ρ)[j]?).join=if j=i then ((ρ[j]?).join).map (fun p=>(p.1,h p.2)) else (ρ[j]?).join:=by
 unfold jY
 cases e:(ρ[i]?).join with
 | none =>
  by_cases q:j=i
  ·subst q;rw [if_pos rfl,e];rfl
  ·rw [if_neg q]
 | some p =>
  obtain ⟨d,f⟩:=p
  dsimp only
  rw [bS (dA e)]
  by_cases q:j=i
  ·subst q;rw [if_pos rfl,if_pos rfl,e];rfl
  ·rw [if_neg q,if_neg q]
theorem qN {h:Fl->Fl} {i:Nat}:(jY h i ρ).length = ρ.length:=by
 unfold jY
 split
 ·rw [List.length_set]
 ·rfl
theorem fS {h:Fl->Fl} (hh:∀ f,h (h f)=h f):∀ {is:List Nat} {ρ:Sto} {j:Nat},((aJ h is ρ)[j]?).join=if j ∈ is then ((ρ[j]?).join).map (fun p=>(p.1,h p.2)) else (ρ[j]?).join
 | [],ρ,j=>by simp [aJ]
 | i :: is,ρ,j=>by
  have e:aJ h (i :: is) ρ=aJ h is (jY h i ρ):=rfl
  rw [e,fS hh,oH]
  by_cases q:j=i
  ·subst q
   by_cases m:j ∈ is
   ·rw [if_pos m,if_pos rfl,if_pos yK]
    cases (ρ[j]?).join with
    | none=>rfl
    | some p=>simp [hh]
   ·rw [if_neg m,if_pos rfl,if_pos yK]
  ·by_cases m:j ∈ is
   ·rw [if_pos m,if_neg q,if_pos (yM _ m)]
   ·rw [if_neg m,if_neg q,if_neg (fun z=>(yR.mp z).elim q m)]
theorem gG {h:Fl->Fl}:∀ {is:List Nat} {ρ:Sto},(aJ h is ρ).length = ρ.length
 | [],ρ=>rfl
 | i :: is,ρ=>by
  have e:aJ h (i :: is) ρ=aJ h is (jY h i ρ):=rfl
  rw [e,gG,qN]
noncomputable def dO (G:Gm) (H:Hp) (g:Nat->Option It3) (is:List Nat):Gm :=
 ⟨H,fun b=>∃ j y,j ∉ is/\g j=some y/\y.f=.u/\y.v=.ref b,G.pr,G.σ0,G.orig,fun c=>G.H0 c=none\/G.src c,fun j=>if j ∈ is then (g j).map (·.v) else G.lv j⟩
structure Fk (x y:It3):Prop where
 d:y.d=x.d
 v:y.v=x.v
 L:y.L=x.L
 z:y.f=.z ↔ x.f=.z
theorem Fk.noRoot {x x' y y':It3} (a:Fk x x') (b:Fk y y') (h:NoRoot x y):NoRoot x' y':=fun hf c e=>by
 rw [b.L]
 exact h (fun q=>hf (a.z.mpr q)) c (by rw [<- a.v];exact e)
theorem Fk.apart {x x' y y':It3} (a:Fk x x') (b:Fk y y') (h:Apart3 x y):Apart3 x' y':=⟨a.noRoot b h.1,b.noRoot a h.2⟩
theorem Fk.refl (x:It3):Fk x x:=⟨rfl,rfl,rfl,Iff.rfl⟩
theorem jA (x:It3):Fk x (bu x):=⟨rfl,rfl,rfl,lentF_z⟩
theorem yp (x:It3):Fk x (uC x):=⟨rfl,rfl,rfl,unlF_z⟩
theorem mU {o:Option It3} {h:Fl->Fl} {p:Option (D × Fl)} (e:o.map (fun x=>(x.d,x.f))=p):(o.map fun x=>{ x with f:=h x.f }).map (fun x:It3=>(x.d,x.f))=p.map fun p=>(p.1,h p.2):=by
 subst e
 cases o <;> rfl
theorem Wf.enter (w:Wf K G H σ ρ T g) (is:List Nat):Wf K (dO G H g is) H σ (aJ cN is ρ) (T.map bu) (fun j=>if j ∈ is then (g j).map bu else g j):=by
 have val:∀ j u,(if j ∈ is then (g j).map bu else g j)=some u->∃ u0,g j=some u0/\Fk u0 u/\((j ∈ is/\u=bu u0)\/(j ∉ is/\u=u0)):=fun j u h=>by
  by_cases q:j ∈ is
  ·rw [if_pos q] at h
   obtain ⟨u0,e1,e2⟩:=yO.mp h
   subst e2
   exact ⟨u0,e1,jA u0,.inl ⟨q,rfl⟩⟩
  ·rw [if_neg q] at h
   exact ⟨u,h,Fk.refl u,.inr ⟨q,rfl⟩⟩
 refine ⟨by rw [gG];exact w.len,fun j=>?_,fun j u h=>?_,fun j u h=>?_,fun u hu=>?_,fun i j a b n ha hb=>?_,fun j a h b hb=>?_,?_,fun b o e _=>e,w.pro,⟨fun u hu hf a ea=>?_,fun j u h hp hf a ea=>?_,fun b hb=>?_,w.fx.ob,fun j u h hl=>?_⟩⟩
 ·rw [fS (by intro f;cases f <;> rfl)]
  by_cases q:j ∈ is
  ·rw [if_pos q,if_pos q];exact mU (w.sl j)
  ·rw [if_neg q,if_neg q];exact w.sl j
 ·obtain ⟨u0,e,k,_⟩:=val j u h
  rw [k.v];exact w.sv j u0 e
 ·obtain ⟨u0,e,k,c⟩:=val j u h
  have ok:=w.okS j u0 e
  refine ⟨by rw [k.d,k.v,k.L];exact ok.rep,fun hf=>?_,fun c hc=>.inr (ok.src c (by rw [<- k.L];exact hc))⟩
  obtain ⟨m,a,L',v1,v2,v3,_⟩:=ok.own (fun q=>hf (k.z.mpr q))
  refine ⟨by rw [k.d];exact m,a,L',by rw [k.v];exact v1,by rw [k.L];exact v2,v3,fun hu=>?_⟩
  rcases c with ⟨_,rfl⟩ | ⟨nj,rfl⟩
  ·exact absurd hu (pN _)
  ·exact .inr ⟨j,u,nj,e,hu,v1⟩
 ·obtain ⟨u0,h0,rfl⟩:=y6.mp hu
  have ok:=w.okT u0 h0
  refine ⟨ok.rep,fun hf=>?_,fun c hc=>.inr (ok.src c hc)⟩
  obtain ⟨m,a,L',v1,v2,v3,_⟩:=ok.own (fun q=>hf (lentF_z.mpr q))
  exact ⟨m,a,L',v1,v2,v3,fun hu=>absurd hu (pN _)⟩
 ·obtain ⟨a0,e1,k1,_⟩:=val i a ha
  obtain ⟨b0,e2,k2,_⟩:=val j b hb
  exact k1.noRoot k2 (w.ss i j a0 b0 n e1 e2)
 ·obtain ⟨a0,e1,k1,_⟩:=val j a h
  obtain ⟨b0,h0,rfl⟩:=y6.mp hb
  exact k1.apart (jA b0) (w.st j a0 e1 b0 h0)
 ·rw [List.pairwise_map]
  exact w.tt.imp fun {a b} h=>(jA a).apart (jA b) h
 ·obtain ⟨u0,h0,rfl⟩:=y6.mp hu
  exact w.fx.frT u0 h0 (fun q=>hf (lentF_z.mpr q)) a ea
 ·obtain ⟨u0,e,k,_⟩:=val j u h
  exact w.fx.frS j u0 e hp (fun q=>hf (k.z.mpr q)) a (by rw [<- k.v];exact ea)
 ·obtain ⟨j,y,_,e,hf,hv⟩:=hb
  obtain ⟨_,a,L',v1,v2,_⟩:=(w.okS j y e).own (by rw [hf];intro q;cases q)
  rw [hv] at v1;cases v1
  exact ((w.okS j y e).rep.inH b (by rw [v2];exact yK)).ex
 ·obtain ⟨u0,e,k,c⟩:=val j u h
  show (if j ∈ is then (g j).map (·.v) else G.lv j)=_
  rcases c with ⟨q,rfl⟩ | ⟨q,rfl⟩
  ·rw [if_pos q,e];rfl
  ·rw [if_neg q];exact w.fx.lvS j u e hl
theorem Wf.leave {is:List Nat} {σ':St} {ρ2:Sto} {g2:Nat->Option It3} {R:List It3} (w:Wf K G H σ ρ T g) (his:∀ i ∈ is,∀ y,g i=some y->y.f=.u) (hT:T'.Sublist T) (w2:Wf K (dO G H g is) H' σ' ρ2 (R ++ T'.map bu) g2) :
  Wf K G H' σ' (aJ fD is ρ2) (R ++ T') (fun j=>if j ∈ is then (g2 j).map uC else g2 j):=by
 have val:∀ j u,(if j ∈ is then (g2 j).map uC else g2 j)=some u->∃ u0,g2 j=some u0/\Fk u0 u/\((j ∈ is/\u=uC u0)\/(j ∉ is/\u=u0)):=fun j u h=>by
  by_cases q:j ∈ is
  ·rw [if_pos q] at h
   obtain ⟨u0,e1,e2⟩:=yO.mp h
   subst e2
   exact ⟨u0,e1,yp u0,.inl ⟨q,rfl⟩⟩
  ·rw [if_neg q] at h
   exact ⟨u,h,Fk.refl u,.inr ⟨q,rfl⟩⟩
 have may:∀ a,H a=none\/(∃ j y,j ∉ is/\g j=some y/\y.f=.u/\y.v=.ref a)->G.H0 a=none\/G.bw a:=fun a h=>by
  rcases h with h | ⟨j,y,_,e,hf,hv⟩
  ·exact .inl (w.h0none h)
  ·obtain ⟨_,a',L',v1,_,_,v4⟩:=(w.okS j y e).own (by rw [hf];intro q;cases q)
   rw [hv] at v1;cases v1
   exact v4 hf
 have srcs:∀ c,H c=none\/(G.H0 c=none\/G.src c)->G.H0 c=none\/G.src c:=fun c h=>by
  rcases h with h | h
  ·exact .inl (w.h0none h)
  ·exact h
 have tm:∀ x ∈ T',x ∈ T:=fun x hx=>hT.subset hx
 have dom:∀ b o,H b=some o->∃ o',H' b=some o':=fun b o hb=>by
  by_cases q:∃ j y,j ∉ is/\g j=some y/\y.f=.u/\y.v=.ref b
  ·exact w2.fx.bin b q
  ·exact ⟨o,w2.base b o hb q⟩
 refine ⟨by rw [gG];exact w2.len,fun j=>?_,fun j u h=>?_,fun j u h=>?_,fun u hu=>?_,fun i j a b n ha hb=>?_,fun j a h b hb=>?_,?_,fun b o e n=>?_,w2.pro,⟨fun u hu=>?_,fun j u h hp hf a ea=>?_,fun b hb=>?_,w2.fx.ob,fun j u h hl=>?_⟩⟩
 ·rw [fS (by intro f;cases f <;> rfl)]
  by_cases q:j ∈ is
  ·rw [if_pos q,if_pos q];exact mU (w2.sl j)
  ·rw [if_neg q,if_neg q];exact w2.sl j
 ·obtain ⟨u0,e,k,_⟩:=val j u h
  rw [k.v];exact w2.sv j u0 e
 ·obtain ⟨u0,e,k,c⟩:=val j u h
  have ok:=w2.okS j u0 e
  refine ⟨by rw [k.d,k.v,k.L];exact ok.rep,fun hf=>?_,fun c hc=>srcs c (ok.src c (by rw [<- k.L];exact hc))⟩
  obtain ⟨m,a,L',v1,v2,v3,v4⟩:=ok.own (fun q=>hf (k.z.mpr q))
  refine ⟨by rw [k.d];exact m,a,L',by rw [k.v];exact v1,by rw [k.L];exact v2,v3,fun hu=>?_⟩
  rcases c with ⟨q,rfl⟩ | ⟨nj,rfl⟩
  ·cases hf0:u0.f with
   | u=>exact may a (v4 hf0)
   | l =>
    have hl:=w2.fx.lvS j u0 e hf0
    have hl:(if j ∈ is then (g j).map (·.v) else G.lv j)=some u0.v:=hl
    rw [if_pos q] at hl
    obtain ⟨y,ey,ev⟩:=yO.mp hl
    have yu:=his j q y ey
    obtain ⟨_,a',L'',b1,_,_,b4⟩:=(w.okS j y ey).own (by rw [yu];intro q;cases q)
    rw [ev,v1] at b1;cases b1
    exact b4 yu
   | z=>exact absurd (unlF_z.mpr hf0) hf
  ·exact may a (v4 hu)
 ·rcases yU.mp hu with hu | hu
  ·have ok:=w2.okT u (yP _ hu)
   refine ⟨ok.rep,fun hf=>?_,fun c hc=>srcs c (ok.src c hc)⟩
   obtain ⟨m,a,L',v1,v2,v3,v4⟩:=ok.own hf
   exact ⟨m,a,L',v1,v2,v3,fun h=>may a (v4 h)⟩
  ·have ok:=w.okT u (tm u hu)
   exact ⟨(w2.okT (bu u) (yQ _ (y6.mpr ⟨u,hu,rfl⟩))).rep,ok.own,ok.src⟩
 ·obtain ⟨a0,e1,k1,_⟩:=val i a ha
  obtain ⟨b0,e2,k2,_⟩:=val j b hb
  exact k1.noRoot k2 (w2.ss i j a0 b0 n e1 e2)
 ·obtain ⟨a0,e1,k1,_⟩:=val j a h
  rcases yU.mp hb with hb | hb
  ·exact k1.apart (Fk.refl b) (w2.st j a0 e1 b (yP _ hb))
  ·have:=w2.st j a0 e1 (bu b) (yQ _ (y6.mpr ⟨b,hb,rfl⟩))
   exact k1.apart (y:=bu b) ⟨rfl,rfl,rfl,lentF_z.symm⟩ this
 ·have h:=List.pairwise_append.mp w2.tt
  refine List.pairwise_append.mpr ⟨h.1,w.tt.sublist hT,fun a ha b hb=>?_⟩
  exact (Fk.refl a).apart (y:=bu b) ⟨rfl,rfl,rfl,lentF_z.symm⟩ (h.2.2 a ha (bu b) (y6.mpr ⟨b,hb,rfl⟩))
 ·have hb:=w.base b o e n
  refine w2.base b o hb fun q=>?_
  rcases may b (.inr q) with h | h
  ·rw [e] at h;cases h
  ·exact n h
 ·rcases yU.mp hu with hu | hu
  ·exact w2.fx.frT u (yP _ hu)
  ·exact w.fx.frT u (tm u hu)
 ·obtain ⟨u0,e,k,_⟩:=val j u h
  exact w2.fx.frS j u0 e hp (fun q=>hf (k.z.mpr q)) a (by rw [<- k.v];exact ea)
 ·obtain ⟨o,ho⟩:=w.fx.bin b hb
  exact dom b o ho
 ·obtain ⟨u0,e,k,c⟩:=val j u h
  rcases c with ⟨q,rfl⟩ | ⟨q,rfl⟩
  ·exact absurd hl (wK _)
  ·have:=w2.fx.lvS j u e hl
   have this:(if j ∈ is then (g j).map (·.v) else G.lv j)=some u.v:=this
   rw [if_neg q] at this
   exact this
theorem vM {is:List Nat} (w:Wf K G H σ ρ T g) (his:∀ i ∈ is,∀ y,g i=some y->y.f=.u):∀ (H':Hp) (σ':St) (ρ2:Sto) (T2:List It3) (g2:Nat->Option It3),Wf K (dO G H g is) H' σ' ρ2 T2 g2->∃ g3,Wf K G H' σ' (aJ fD is ρ2) [] g3 :=
 fun H' σ' ρ2 T2 g2 w2=>⟨_,by simpa using Wf.leave (T':=[]) (R:=[]) w his (List.nil_sublist T) (by simpa using w2.sub (List.nil_sublist T2))⟩
end
end L3
end
section
namespace L3
open PySem L2
section
variable {K:FG} {G G0:Gm} {W W0:D->Sto->Prop} {H H':Hp} {σ:St} {ρ ρ':Sto} {T T':List It3} {g:Nat->Option It3} {x y z:It3} {α β:Type}
noncomputable def Walk (K:FG) (J:It) (H1:Hp) (ys:List It3) (ds:List D):Prop:=∃ els:List It3,(∀ x ∈ els,x.f=.z/\Rep K H1 x.d x.v x.L/\∀ c ∈ x.L,dQ ys c) /\
 ∀ (M:Addr->Prop) (H':Hp),(∀ b,M b->MutAt H1 b)->(∀ b o,H1 b=some o->¬ M b->H' b=some o)->(∀ y ∈ ys,∀ b ∈ y.L,¬ M b) ->
  (∀ (i:Nat) (d:D),ds[i]?=some d->J.go i H'/\∀ x H'',J.yld i H' x H''->∃ w,New K H' H'' (dj els) w/\w.d=d/\w.f=.z/\w.v=x)/\J.stop ds.length H'
noncomputable abbrev IM:=M3 (List R3 × List D)
noncomputable def EndI (K:FG) (G:Gm) (W:D->Sto->Prop) (σ:St) (T:List It3) (ρ':Sto) (R:It->Hp->Prop):Except D (List R3 × List D)->Prop
 | .ok p=>∀ J H1 vs Ts g1 ys,Wf K G H1 σ ρ' (Ts ++ T) g1->Ars σ p.1 vs Ts->(∀ y ∈ ys,(∃ i,i ∈ pls p.1/\g1 i=some y)\/y ∈ Ts)->Walk K J H1 ys p.2->R J H1
 | .error e=>W e ρ'
noncomputable def tI (K:FG) (G0:Gm) (W0:D->Sto->Prop) (m:IM):TI:=fun σ H R=>∃ G W,Le K G W G0 W0/\∃ ρ T g r ρ',Wf K G H σ ρ T g/\m ρ=some (r,ρ')/\EndI K G W σ T ρ' R r
theorem tI.seq {m:IM} {k:List R3 × List D->M3 β} {r:Except D β} {P:It->Hp->Prop} (le:Le K G W G0 W0) (w:Wf K G H σ ρ T g) (e:ac m k ρ=some (r,ρ')) (he:∀ x,r=.error x->W x ρ')
  (h:∀ p ρ1,k p ρ1=some (r,ρ')->EndI K G W σ T ρ1 P (.ok p)):tI K G0 W0 m σ H P:=by
 unfold ac at e
 cases q:m ρ with
 | none=>rw [q] at e;exact nsE e
 | some p =>
  obtain ⟨o,ρ1⟩:=p
  rw [q] at e
  cases o with
  | error x=>cases e;exact ⟨G,W,le,ρ,T,g,.error x,ρ',w,q,he x rfl⟩
  | ok ra=>exact ⟨G,W,le,ρ,T,g,.ok ra,ρ1,w,q,h ra ρ1 e⟩
noncomputable def Bnd (K:FG) (pr:Nat->Bool) (tg:TG) (bnd:D->Sto->Option Sto):Prop:=∀ (G:Gm) (H:Hp) (σ:St) (ρ ρ1:Sto) (T:List It3) (g:Nat->Option It3) (w:It3) (Q:St->Hp->Prop),G.pr=pr->w.f=.z->Wf K G H σ ρ (w :: T) g->bnd w.d ρ=some ρ1 ->
 (∀ σ2 g2,Wf K G H σ2 ρ1 T g2->Q σ2 H)->tg w.v σ H Q
noncomputable def am (i:Nat) (d:D) (ρ:Sto):Option Sto:=if i < ρ.length then some (ρ.set i (some (d,.z))) else none
set_option tactic.hygienic true in
theorem a7 {pr:Nat->Bool} {i:Nat} (hp:pr i=false):Bnd K pr (pY i) (am i):=fun G H σ ρ ρ1 T g w Q hpr hz wf e q=>by
 unfold am at e
 split at e
 ·rename_i hi
  cases e
  exact q _ _ (wf.store (f:=.z) hi (by rw [hpr];exact hp) (.inr rfl) (by intro h;cases h))
 ·exact nsE e
noncomputable def uB (K:FG) (pr:Nat->Bool) (tg:TGs) (bnd:List D->Sto->Option Sto):Prop:=∀ (G:Gm) (H:Hp) (σ:St) (ρ ρ1:Sto) (T:List It3) (g:Nat->Option It3) (ws:List It3) (Q:St->Hp->Prop),G.pr=pr->(∀ w ∈ ws,w.f=.z)->Wf K G H σ ρ (ws ++ T) g->bnd (ws.map (·.d)) ρ=some ρ1 ->
 (∀ σ2 g2,Wf K G H σ2 ρ1 T g2->Q σ2 H)->tg (ws.map (·.v)) σ H Q
noncomputable def uo:List D->Sto->Option Sto
 | [],ρ=>some ρ
 | _,_=>none
noncomputable def jc (b:D->Sto->Option Sto) (bs:List D->Sto->Option Sto):List D->Sto->Option Sto
 | [],_=>none
 | d :: ds,ρ=>match b d ρ with
  | some ρ1=>bs ds ρ1
  | none=>none
theorem nK {pr:Nat->Bool}:uB K pr gNil uo:=fun G H σ ρ ρ1 T g ws Q _ _ wf e q=>by
 cases ws with
 | nil=>cases e;exact ⟨rfl,q _ _ wf⟩
 | cons w ws=>exact nsE e
theorem iR {pr:Nat->Bool} {tg:TG} {tgs:TGs} {b:D->Sto->Option Sto} {bs:List D->Sto->Option Sto} (h1:Bnd K pr tg b) (h2:uB K pr tgs bs):uB K pr (wE tg tgs) (jc b bs):=fun G H σ ρ ρ1 T g ws Q hpr hz wf e q=>by
 cases ws with
 | nil=>exact nsE e
 | cons w ws =>
  have e:(match b w.d ρ with | some ρ1=>bs (ws.map (·.d)) ρ1 | none=>none)=some ρ1:=e
  cases q1:b w.d ρ with
  | none=>rw [q1] at e;exact nsE e
  | some ρ2 =>
   rw [q1] at e
   exact ⟨w.v,ws.map (·.v),rfl,h1 G H σ ρ ρ2 (ws ++ T) g w _ hpr (hz w yK) wf q1 fun σ2 g2 w2=>h2 G H σ2 ρ2 ρ1 T g2 ws Q hpr (fun x hx=>hz x (yM _ hx)) w2 e q⟩
noncomputable def um (n:Nat) (bs:List D->Sto->Option Sto):D->Sto->Option Sto
 | .tup ds,ρ=>if ds.length=n then bs ds ρ else none
 | _,_=>none
theorem Reps.split:∀ {ds:List D} {vs:List V} {L:List Addr},Reps (Rep K H) ds vs L->∃ ws:List It3,ws.map (·.d)=ds/\ws.map (·.v)=vs/\(∀ w ∈ ws,w.f=.z/\Rep K H w.d w.v w.L/\∀ c ∈ w.L,c ∈ L)
 | _,_,_,.nil=>⟨[],rfl,rfl,fun _ h=>(by cases h)⟩
 | _,_,_,.cons (d:=d) (v:=v) (L:=L) r rs=>by
  obtain ⟨ws,h1,h2,h3⟩:=Reps.split rs
  refine ⟨⟨d,v,L,.z⟩ :: ws,by simp [h1],by simp [h2],fun w hw=>?_⟩
  rcases yR.mp hw with h | h
  ·subst h;exact ⟨rfl,r,fun c hc=>yP _ hc⟩
  ·exact ⟨(h3 w h).1,(h3 w h).2.1,fun c hc=>yQ _ ((h3 w h).2.2 c hc)⟩
theorem Wf.pushAll:∀ {ws:List It3} {T:List It3},Wf K G H σ ρ T g->(∀ w ∈ ws,w.f=.z/\Rep K H w.d w.v w.L/\∀ c ∈ w.L,dC T g c/\(G.H0 c=none\/G.src c))->Wf K G H σ ρ (ws ++ T) g
 | [],T,w,_=>w
 | x :: ws,T,w,h=>by
  have w1:=Wf.pushAll (ws:=ws) w fun y hy=>h y (yM _ hy)
  obtain ⟨hz,hr,hc⟩:=h x yK
  refine w1.push (Ks:=fun c=>c ∈ x.L) ⟨Same.refl _,hr,fun c h=>.inr h,fun q=>absurd hz q⟩ fun c m=>⟨⟨(hc c m).1.1,fun y hy hf=>?_⟩,(hc c m).2⟩
  rcases yU.mp hy with q | q
  ·exact absurd (h y (yM _ q)).1 hf
  ·exact (hc c m).1.2 y q hf
set_option tactic.hygienic true in
theorem qh {pr:Nat->Bool} {n:Nat} {tgs:TGs} {bs:List D->Sto->Option Sto} (h2:uB K pr tgs bs):Bnd K pr (gTup K n tgs) (um n bs):=fun G H σ ρ ρ1 T g w Q hpr hz wf e q=>by
 have r:=(wf.okT w yK).rep
 obtain ⟨d,v,L,f⟩:=w
 cases r with
 | @tup xs a vs _ hs rs =>
  have e:(if xs.length=n then bs xs ρ else none)=some ρ1:=e
  split at e
  ·rename_i hl
   obtain ⟨ws,h1,h3,h4⟩:=Reps.split rs
   refine ⟨a,vs,rfl,SqT.of hs,?_,?_⟩
   ·rw [<- h3,yW,<- hl,<- h1,yW]
   ·have w1:Wf K G H σ ρ (ws ++ (⟨.tup xs,.ref a,L,f⟩ :: T)) g:=wf.pushAll fun u hu=>⟨(h4 u hu).1,(h4 u hu).2.1,fun c hc=>⟨wf.kid (y:=⟨.tup xs,.ref a,L,f⟩) (.inr yK) ((h4 u hu).2.2 c hc) fun hf=>absurd hz hf,(wf.okT _ yK).src c ((h4 u hu).2.2 c hc)⟩⟩
    have w2:Wf K G H σ ρ (ws ++ T) g:=w1.sub ((List.Sublist.refl ws).append (List.sublist_cons_self _ _))
    rw [<- h3]
    exact h2 G H σ ρ ρ1 T g ws Q hpr (fun u hu=>(h4 u hu).1) w2 (by rw [h1];exact e) q
  ·exact nsE e
 | non=>exact nsE e
 | bl b=>exact nsE e
 | int i=>exact nsE e
 | str s=>exact nsE e
 | lst _ _=>exact nsE e
 | lstF _ _=>exact nsE e
 | dK _ _ _=>exact nsE e
 | dT _ _ _=>exact nsE e
 | exc _ _=>exact nsE e
noncomputable def eJ (bnd:D->Sto->Option Sto) (b:SM):List D->SM
 | []=>bj .nx
 | d :: ds=>fun ρ=>match bnd d ρ with
  | none=>none
  | some ρ1=>ac b (fun f=>match f with
   | .nx=>eJ bnd b ds
   | .ct=>eJ bnd b ds
   | .br=>bj .nx
   | .rt d f=>bj (.rt d f)) ρ1
noncomputable def du (im:IM) (bnd:D->Sto->Option Sto) (b:SM):SM:=ac im fun p=>fun ρ=>(eJ bnd b p.2 (aJ cN (us ρ (pls p.1)) ρ)).map fun r=>(r.1,aJ fD (us ρ (pls p.1)) r.2)
theorem us_u {is:List Nat} (w:Wf K G H σ ρ T g):∀ i ∈ us ρ is,∀ y,g i=some y->y.f=.u:=fun i hi y ey=>by
 have h:=(zq.mp hi).2
 have s:=w.sl i
 rw [ey] at s
 have s:some (y.d,y.f)=(ρ[i]?).join:=s
 rw [<- s] at h
 cases hf:y.f with
 | u=>rfl
 | l=>rw [hf] at h;cases h
 | z=>rw [hf] at h;cases h
theorem rJ {is:List Nat} {i:Nat} (w:Wf K G H σ ρ T g) (hi:i ∈ is) (ey:g i=some y) (hf:y.f=.u):i ∈ us ρ is:=by
 refine zq.mpr ⟨hi,?_⟩
 have s:=w.sl i
 rw [ey] at s
 have s:some (y.d,y.f)=(ρ[i]?).join:=s
 rw [<- s,hf]
theorem wT {im:IM} {bnd:D->Sto->Option Sto} {b:SM} {tg:TG} {E:Ends} (hb:Bnd K G0.pr tg bnd) (h:tS K G0 W0 (du im bnd b) E σ H):tFor (tI K G0 W0 im) tg (tS K G0 W0 b) E σ H:=by
 refine h.use fun G W le ρ T g r ρ' w e q=>?_
 refine tI.seq le w e q.err fun p ρ1 e1=>?_
 intro J H1 vs Ts g1 ys w1 a1 hys hw
 have his:=us_u (is:=pls p.1) w1
 have hus:∀ i y,i ∈ pls p.1->g1 i=some y->y.f=.u->i ∈ us ρ1 (pls p.1):=fun i y hi ey hf=>rJ w1 hi ey hf
 generalize us ρ1 (pls p.1)=is at e1 his hus
 have w2:=w1.enter is
 obtain ⟨els,hels,walk⟩:=hw
 have hM:∀ b,(∃ j y,j ∉ is/\g1 j=some y/\y.f=.u/\y.v=.ref b)->MutAt H1 b:=fun b ⟨j,y,_,ey,hf,hv⟩=>by
  obtain ⟨_,a,L',v1,v2,_⟩:=(w1.okS j y ey).own (by rw [hf];intro q;cases q)
  rw [hv] at v1;cases v1
  exact (w1.okS j y ey).rep.inH b (by rw [v2];exact yK)
 have hysM:∀ y ∈ ys,∀ b ∈ y.L,¬ ∃ j y,j ∉ is/\g1 j=some y/\y.f=.u/\y.v=.ref b:=fun y hy b hb ⟨j,y',nj,ey',hf,hv⟩=>by
  have hfz:y'.f ≠ .z:=by rw [hf];intro q;cases q
  rcases hys y hy with ⟨i,hi,ei⟩ | hy
  ·by_cases ij:i=j
   ·subst ij
    rw [ei] at ey';cases ey'
    exact nj (hus i y hi ei hf)
   ·exact w1.ss j i y' y (Ne.symm ij) ey' ei hfz b hv hb
  ·exact (w1.st j y' ey' y (yP _ hy)).1 hfz b hv hb
 have hitm:∀ y ∈ ys,Itm (Ts ++ T) g1 y:=fun y hy=>by
  rcases hys y hy with ⟨i,_,ei⟩ | h
  ·exact .inl ⟨i,ei⟩
  ·exact .inr (yP _ h)
 have kid:∀ x ∈ els,∀ c ∈ x.L,dC ((Ts ++ T).map bu) (fun j=>if j ∈ is then (g1 j).map bu else g1 j) c/\(H1 c=none\/(G.H0 c=none\/G.src c)):=fun x hx c hc=>by
  obtain ⟨nr,sr⟩:=w1.kids hitm ((hels x hx).2.2 c hc)
  refine ⟨⟨fun i z ez hf hv=>?_,fun z hz hf hv=>?_⟩,.inr sr⟩
  ·have ez:(if i ∈ is then (g1 i).map bu else g1 i)=some z:=ez
   by_cases q:i ∈ is
   ·rw [if_pos q] at ez
    obtain ⟨z0,e0,e1⟩:=yO.mp ez
    subst e1
    exact nr.1 i z0 e0 (fun q=>hf (lentF_z.mpr q)) hv
   ·rw [if_neg q] at ez
    exact nr.1 i z ez hf hv
  ·obtain ⟨z0,h0,rfl⟩:=y6.mp hz
   exact nr.2 z0 h0 (fun q=>hf (lentF_z.mpr q)) hv
 have w3:Wf K (dO G H1 g1 is) H1 σ (aJ cN is ρ1) (els ++ (Ts ++ T).map bu) (fun j=>if j ∈ is then (g1 j).map bu else g1 j):=w2.pushAll fun x hx=>⟨(hels x hx).1,(hels x hx).2.1,fun c hc=>kid x hx c hc⟩
 cases e2:eJ bnd b p.2 (aJ cN is ρ1) with
 | none=>rw [e2] at e1;exact nsE e1
 | some rr =>
  obtain ⟨r2,ρ3⟩:=rr
  rw [e2] at e1
  have er:r2=r/\aJ fD is ρ3 = ρ':=by cases e1;exact ⟨rfl,rfl⟩
  obtain ⟨rfl,eρ⟩:=er
  have leave:∀ {σ':St} {H':Hp} {ρ2:Sto} {g2:Nat->Option It3} {R:List It3},Wf K (dO G H1 g1 is) H' σ' ρ2 (R ++ (els ++ (Ts ++ T).map bu)) g2->∃ g3,Wf K G H' σ' (aJ fD is ρ2) (R ++ T) g3:=fun {σ' H' ρ2 g2 R} w4 =>
   ⟨_,Wf.leave (T:=Ts ++ T) (T':=T) (R:=R) w1 his (yZ Ts T) (w4.sub ((List.Sublist.refl R).append (by
    rw [List.map_append]
    exact (yZ (Ts.map bu) (T.map bu)).trans (yZ els _))))⟩
  have le1:Le K (dO G H1 g1 is) (fun e ρ2=>W e (aJ fD is ρ2)) G W:=⟨rfl,fun H' σ' ρ2 T2 g2 e w4 he=>by
   obtain ⟨g3,w5⟩:=vM w1 his H' σ' ρ2 T2 g2 w4
   exact ⟨_,[],g3,w5,he⟩⟩
  have le':Le K (dO G H1 g1 is) (fun e ρ2=>W e (aJ fD is ρ2)) G0 W0:=le1.trans le
  refine ⟨fun k m σ' H'=>k<=p.2.length/\m=p.2.length - k/\∃ ρ2 g2,Wf K (dO G H1 g1 is) H' σ' ρ2 (els ++ (Ts ++ T).map bu) g2/\eJ bnd b (p.2.drop k) ρ2=some (r2,ρ3),⟨_,Nat.zero_le _,rfl,_,_,w3,e2⟩,?_⟩
  rintro k m σ' H' ⟨hk,rfl,ρ2,g2,w4,e4⟩
  obtain ⟨wgo,wstop⟩:=walk _ H' hM (fun b o hb hn=>w4.base b o hb hn) hysM
  by_cases hlt:k < p.2.length
  ·obtain ⟨d,hd⟩:∃ d,p.2[k]?=some d:=⟨_,yS hlt⟩
   have hdrop:p.2.drop k=d :: p.2.drop (k+1):=by
    rw [List.drop_eq_getElem_cons hlt]
    rw [yS hlt] at hd
    cases hd;rfl
   rw [hdrop] at e4
   obtain ⟨go,yld⟩:=wgo k d hd
   refine .inr ⟨go,fun σ5 H5=>∃ ρ5 g5,Wf K (dO G H1 g1 is) H5 σ5 ρ5 (els ++ (Ts ++ T).map bu) g5/\eJ bnd b (p.2.drop (k+1)) ρ5=some (r2,ρ3),fun σ5 H5 ⟨ρ5,g5,w5,e5⟩=>⟨p.2.length - (k+1),by omega,hlt,rfl,ρ5,g5,w5,e5⟩,fun x H'' hy=>?_⟩
   obtain ⟨u,nu,ud,uf,uv⟩:=yld x H'' hy
   have w5:Wf K (dO G H1 g1 is) H'' σ' ρ2 (u :: (els ++ (Ts ++ T).map bu)) g2:=w4.push nu fun c hc=>w4.alls (ys:=els) (fun y hy=>⟨.inr (yP _ hy),(hels y hy).1⟩) hc
   have e5:(match bnd d ρ2 with
    | none=>none
    | some ρ1=>ac b (fun f=>match f with
     | .nx=>eJ bnd b (p.2.drop (k+1))
     | .ct=>eJ bnd b (p.2.drop (k+1))
     | .br=>bj .nx
     | .rt d f=>bj (.rt d f)) ρ1)=some (r2,ρ3):=e4
   cases e6:bnd d ρ2 with
   | none=>rw [e6] at e5;exact nsE e5
   | some ρ6 =>
    rw [e6] at e5
    dsimp only at e5
    rw [<- uv]
    refine hb (dO G H1 g1 is) H'' σ' ρ2 ρ6 _ g2 u _ le.pr uf w5 (by rw [ud];exact e6) fun σ6 g6 w6=>?_
    unfold ac at e5
    cases e7:b ρ6 with
    | none=>rw [e7] at e5;exact nsE e5
    | some pr7 =>
     obtain ⟨o7,ρ7⟩:=pr7
     rw [e7] at e5
     cases o7 with
     | error er =>
      cases e5
      refine tS.mk (r:=.error er) le' w6 e7 ?_
      show W er (aJ fD is _)
      rw [eρ];exact q
     | ok f =>
      cases f with
      | nx=>exact tS.mk (r:=.ok .nx) le' w6 e7 fun σ8 H8 g8 w8=>⟨ρ7,g8,w8,e5⟩
      | ct=>exact tS.mk (r:=.ok .ct) le' w6 e7 fun σ8 H8 g8 w8=>⟨ρ7,g8,w8,e5⟩
      | br =>
       cases e5
       refine tS.mk (r:=.ok .br) le' w6 e7 fun σ8 H8 g8 w8=>?_
       obtain ⟨g9,w9⟩:=leave (R:=[]) w8
       rw [eρ] at w9
       exact q _ _ _ w9
      | rt d' f' =>
       cases e5
       refine tS.mk (r:=.ok (.rt d' f')) le' w6 e7 fun x8 σ8 H8 g8 w8 x1 x2=>?_
       obtain ⟨g9,w9⟩:=leave (R:=[x8]) w8
       rw [eρ] at w9
       exact q x8 _ _ _ w9 x1 x2
  ·have ek:k=p.2.length:=by omega
   subst ek
   rw [List.drop_length] at e4
   cases e4
   obtain ⟨g9,w9⟩:=leave (R:=[]) w4
   rw [eρ] at w9
   exact .inl ⟨wstop,q _ _ _ w9⟩
end
end L3
end
section
namespace L3
open PySem L2
noncomputable def oU (ix:List (Option Nat)) (ρ:Sto):Sto:=ix.map fun o=>match o with
 | some i=>(ρ[i]?).join
 | none=>none
noncomputable def uncap:List (Option Nat)->Sto->Sto->Option Sto
 | [],_,ρ=>some ρ
 | none :: ix,τ,ρ=>uncap ix τ.tail ρ
 | some i :: ix,τ,ρ=>match (ρ[i]?).join,τ.head? with
  | some (_,f),some (some (d',f'))=>if f'=f\/f'=.z then uncap ix τ.tail (ρ.set i (some (d',f'))) else none
  | _,_=>none
noncomputable def bE (bnd:D->Sto->Option Sto) (c:M3 Bool) (elt:EM):List D->M3 (List D)
 | []=>bj []
 | d :: ds=>fun τ=>match bnd d τ with
  | none=>none
  | some τ1=>ac c (fun b=>if b then ac elt (fun r=>ac (eA r) fun p=>ac (bE bnd c elt ds) fun l=>bj (p.1 :: l)) else bE bnd c elt ds) τ1
noncomputable def bR (im:IM) (bnd:D->Sto->Option Sto) (c:M3 Bool) (elt:EM) (ix:List (Option Nat)):EM:=ac im fun p=>fun ρ =>
 match bE bnd c elt p.2 (oU ix (aJ cN (us ρ (pls p.1)) ρ)) with
 | some (.ok ds,τ)=>if p.2.length < 16777216 then (uncap ix τ (aJ cN (us ρ (pls p.1)) ρ)).map fun ρ2=>(.ok (.val (.lst ds) .u),aJ fD (us ρ (pls p.1)) ρ2) else none
 | _=>none
section
variable {K:FG} {G G0:Gm} {W W0:D->Sto->Prop} {H H':Hp} {σ τ:St} {ρ ρ':Sto} {T T':List It3} {g:Nat->Option It3} {x y z:It3} {α β:Type} {ix:List (Option Nat)}
noncomputable def Inj (ix:List (Option Nat)):Prop:=∀ (j k i:Nat),ix[j]?=some (some i)->ix[k]?=some (some i)->j=k
noncomputable def vR (ix:List (Option Nat)) (g:Nat->Option It3) (j:Nat):Option It3:=(ix[j]?).join.bind g
noncomputable def oC (ix:List (Option Nat)) (n:Nat) (g:Nat->Option It3):List It3:=(List.range n).filterMap fun i=>if some i ∈ ix then none else g i
noncomputable def uc (G:Gm) (ix:List (Option Nat)) (σ:St):Gm:=⟨G.H0,G.bw,fun j=>((ix[j]?).join).isSome,cap ix σ,fun _=>none,G.src,fun j=>(ix[j]?).join.bind G.lv⟩
theorem dF {j:Nat} (h:vR ix g j=some x):∃ i,ix[j]?=some (some i)/\g i=some x:=by
 unfold vR at h
 cases e:ix[j]? with
 | none=>rw [e] at h;exact nsE h
 | some o =>
  rw [e] at h
  cases o with
  | none=>exact nsE h
  | some i=>exact ⟨i,rfl,h⟩
set_option tactic.hygienic true in
theorem jW {n:Nat} (h:x ∈ oC ix n g):∃ i,some i ∉ ix/\g i=some x:=by
 obtain ⟨i,_,e⟩:=List.mem_filterMap.mp h
 split at e
 ·exact nsE e
 ·rename_i hn;exact ⟨i,hn,e⟩
theorem sU {n i:Nat} (hi:i < n) (hn:some i ∉ ix) (e:g i=some x):x ∈ oC ix n g:=List.mem_filterMap.mpr ⟨i,List.mem_range.mpr hi,by rw [if_neg hn];exact e⟩
theorem Wf.cap (w:Wf K G H σ ρ T g) (hij:Inj ix):Wf K (uc G ix σ) H (cap ix σ) (oU ix ρ) (oC ix ρ.length g ++ T) (vR ix g):=by
 have ne:∀ {i j:Nat},ix[j]?=some (some i)->∀ k,some k ∉ ix->i ≠ k:=fun e k hk q=>hk (by rw [<- q];exact yY e)
 refine ⟨by unfold L2.cap oU;rw [yW,yW],fun j=>?_,fun j x h=>?_,fun j x h=>?_,fun x hx=>?_,fun j k x y n hx hy=>?_,fun j x h y hy=>?_,?_,w.base,fun _ _=>rfl,⟨fun _ _ _ _ _=>rfl,fun _ _ _ _ _ _ _=>rfl,w.fx.bin,fun b o e=>(by cases e),fun j x h hl=>?_⟩⟩
 ·unfold vR oU
  rw [y7]
  cases e:ix[j]? with
  | none=>rfl
  | some o =>
   cases o with
   | none=>rfl
   | some i=>exact w.sl i
 ·obtain ⟨i,e1,e2⟩:=dF h
  unfold L2.cap
  rw [y7,e1]
  show some ((σ[i]?).getD none)=_
  rw [w.sv i x e2];rfl
 ·obtain ⟨i,_,e2⟩:=dF h
  have ok:=w.okS i x e2
  exact ⟨ok.rep,ok.own,ok.src⟩
 ·rcases yU.mp hx with h | h
  ·obtain ⟨i,_,e⟩:=jW h
   have ok:=w.okS i x e
   exact ⟨ok.rep,ok.own,ok.src⟩
  ·have ok:=w.okT x h
   exact ⟨ok.rep,ok.own,ok.src⟩
 ·obtain ⟨i,e1,e2⟩:=dF hx
  obtain ⟨i',e3,e4⟩:=dF hy
  exact w.ss i i' x y (fun q=>n (hij j k i e1 (q ▸ e3))) e2 e4
 ·obtain ⟨i,e1,e2⟩:=dF h
  rcases yU.mp hy with q | q
  ·obtain ⟨k,hk,e⟩:=jW q
   have:=ne e1 k hk
   exact ⟨w.ss i k x y this e2 e,w.ss k i y x (Ne.symm this) e e2⟩
  ·exact w.st i x e2 y q
 ·refine List.pairwise_append.mpr ⟨?_,w.tt,fun a ha b hb=>?_⟩
  ·unfold oC
   rw [List.pairwise_filterMap]
   refine List.pairwise_lt_range.imp fun {i k} lt a ha b hb=>?_
   have ha':(if some i ∈ ix then none else g i)=some a:=ha
   have hb':(if some k ∈ ix then none else g k)=some b:=hb
   split at ha'
   ·cases ha'
   ·split at hb'
    ·cases hb'
    ·exact ⟨w.ss i k a b (za lt) ha' hb',w.ss k i b a (Nat.ne_of_gt lt) hb' ha'⟩
  ·obtain ⟨k,hk,e⟩:=jW ha
   exact w.st k a e b hb
 ·obtain ⟨i,e1,e2⟩:=dF h
  show (ix[j]?).join.bind G.lv=_
  rw [e1]
  exact w.fx.lvS i x e2 hl
theorem Wf.perm {T T':List It3} (w:Wf K G H σ ρ T g) (p:T.Perm T'):Wf K G H σ ρ T' g :=
 ⟨w.len,w.sl,w.sv,w.okS,fun x hx=>w.okT x (p.mem_iff.mpr hx),w.ss,fun i x e y hy=>w.st i x e y (p.mem_iff.mpr hy),(p.pairwise_iff fun h=>Apart3.symm h).mp w.tt,w.base,w.pro,w.fx.sub fun x hx=>p.mem_iff.mpr hx⟩
set_option tactic.hygienic true in
theorem gA:∀ {ix:List (Option Nat)} {τ ρ ρ2:Sto},uncap ix τ ρ=some ρ2->Inj ix->ρ2.length = ρ.length/\(∀ i,some i ∉ ix->(ρ2[i]?).join=(ρ[i]?).join) /\
  ∀ (j i:Nat),ix[j]?=some (some i)->∃ p q,(ρ[i]?).join=some p/\(τ[j]?).join=some q/\(ρ2[i]?).join=some q/\(q.2=p.2\/q.2=.z)
 | [],τ,ρ,ρ2,e,_=>by cases e;exact ⟨rfl,fun _ _=>rfl,fun j i h=>by simp at h⟩
 | none :: ix,τ,ρ,ρ2,e,hij=>by
  unfold uncap at e
  obtain ⟨h1,h2,h3⟩:=gA e fun j k i a b=>by
   have:=hij (j+1) (k+1) i (by simpa using a) (by simpa using b)
   omega
  refine ⟨h1,fun i hi=>h2 i fun q=>hi (yM _ q),fun j i h=>?_⟩
  cases j with
  | zero=>simp at h
  | succ j =>
   obtain ⟨p,q,a,b,c⟩:=h3 j i (by simpa using h)
   exact ⟨p,q,a,by rw [List.getElem?_tail] at b;exact b,c⟩
 | some i0 :: ix,τ,ρ,ρ2,e,hij=>by
  unfold uncap at e
  cases e1:(ρ[i0]?).join with
  | none=>rw [e1] at e;exact nsE e
  | some p =>
   obtain ⟨d,f⟩:=p
   cases e2:τ.head? with
   | none=>rw [e1,e2] at e;exact nsE e
   | some o =>
    cases o with
    | none=>rw [e1,e2] at e;exact nsE e
    | some q =>
     obtain ⟨d',f'⟩:=q
     rw [e1,e2] at e
     dsimp only at e
     split at e
     ·rename_i hf
      have hi0:=dA e1
      have no0:some i0 ∉ ix:=fun m=>by
       obtain ⟨k,hk,ek⟩:=List.mem_iff_getElem.mp m
       have:=hij 0 (k+1) i0 rfl (by simp [hk,ek])
       omega
      obtain ⟨h1,h2,h3⟩:=gA e fun j k i a b=>by
       have:=hij (j+1) (k+1) i (by simpa using a) (by simpa using b)
       omega
      refine ⟨by rw [h1,List.length_set],fun i hi=>?_,fun j i h=>?_⟩
      ·rw [h2 i fun q=>hi (yM _ q),bS hi0,if_neg (fun q=>hi (by rw [q];exact yK))]
      ·cases j with
       | zero =>
        simp at h
        subst h
        refine ⟨(d,f),(d',f'),e1,?_,?_,hf⟩
        ·rw [List.head?_eq_getElem?] at e2;rw [e2];rfl
        ·rw [h2 i0 no0,bS hi0,if_pos rfl]
       | succ j =>
        have hji:ix[j]?=some (some i):=by simpa using h
        obtain ⟨p,q,a,b,c⟩:=h3 j i hji
        have ii:i ≠ i0:=fun z=>no0 (by rw [<- z];exact yY hji)
        rw [bS hi0,if_neg ii] at a
        exact ⟨p,q,a,by rw [List.getElem?_tail] at b;exact b,c⟩
     ·exact nsE e
theorem Wf.uncap {τ':St} {τρ ρ2:Sto} {gC:Nat->Option It3} {R:List It3} (w:Wf K G H σ ρ T g) (hH:∀ b o,H b=some o->G.H0 b=some o) (hij:Inj ix) (e:L3.uncap ix τρ ρ=some ρ2) (hR:∀ x ∈ R,x.f=.z) (w2:Wf K (uc G ix σ) H' τ' τρ (R ++ (oC ix ρ.length g ++ T)) gC) :
  ∃ g2,Wf K G H' σ ρ2 (R ++ T) g2:=by
 obtain ⟨hl,h2,h3⟩:=gA e hij
 let inv (i:Nat):Option Nat:=(List.range ix.length).find? fun j=>decide (ix[j]?=some (some i))
 have inv_some:∀ i j,inv i=some j->ix[j]?=some (some i):=fun i j h=>by simpa using List.find?_some h
 have inv_none:∀ i,inv i=none->some i ∉ ix:=fun i h m=>by
  obtain ⟨k,hk,ek⟩:=List.mem_iff_getElem.mp m
  have:=List.find?_eq_none.mp h k (List.mem_range.mpr hk)
  simp [hk,ek] at this
 let g2 (i:Nat):Option It3:=match inv i with | some j=>gC j | none=>g i
 have val:∀ i u,g2 i=some u->(∃ j p q,ix[j]?=some (some i)/\gC j=some u/\(ρ[i]?).join=some p/\(τρ[j]?).join=some q/\(q.2=p.2\/q.2=.z))\/(some i ∉ ix/\g i=some u):=fun i u h=>by
  have h':(match inv i with | some j=>gC j | none=>g i)=some u:=h
  cases ei:inv i with
  | none=>rw [ei] at h';exact .inr ⟨inv_none i ei,h'⟩
  | some j =>
   rw [ei] at h'
   obtain ⟨p,q,a,b,_,c⟩:=h3 j i (inv_some i j ei)
   exact .inl ⟨j,p,q,inv_some i j ei,h',a,b,c⟩
 have out:∀ i u,some i ∉ ix->g i=some u->u ∈ oC ix ρ.length g:=fun i u hn e=>by
  have s:=w.sl i
  rw [e] at s
  exact sU (dA s.symm) hn e
 have back:∀ i j u,ix[j]?=some (some i)->gC j=some u->σ[i]?=some (some u.v):=fun i j u ej eu=>by
  have a:=w2.sv j u eu
  have b:=w2.pro j (by show ((ix[j]?).join).isSome=true;rw [ej];rfl)
  rw [a] at b
  have b:some (some u.v)=(L2.cap ix σ)[j]?:=b
  unfold L2.cap at b
  rw [y7,ej] at b
  have b:some (some u.v)=some ((σ[i]?).getD none):=b
  cases q:σ[i]? with
  | none=>rw [q] at b;cases b
  | some o=>rw [q] at b;cases b;rfl
 have was:∀ i j u p q,ix[j]?=some (some i)->gC j=some u->(ρ[i]?).join=some p->(τρ[j]?).join=some q->(q.2=p.2\/q.2=.z)->∃ y,g i=some y/\y.v=u.v/\(u.f=y.f\/u.f=.z):=fun i j u p q ej eu ep eq hf=>by
  obtain ⟨y,y1,y2,y3,y4⟩:=w.slot (d:=p.1) (f:=p.2) ep
  have b:=back i j u ej eu
  rw [y4] at b
  have s:=w2.sl j
  rw [eu,eq] at s
  have s:some (u.d,u.f)=some q:=s
  refine ⟨y,y1,by injection b with b;injection b,?_⟩
  rw [y3,show u.f=q.2 by injection s with s;rw [<- s]]
  exact hf
 refine ⟨g2,⟨by rw [hl];exact w.len,fun i=>?_,fun i u h=>?_,fun i u h=>?_,fun u hu=>?_,fun i k a b n ha hb=>?_,fun i a h b hb=>?_,w2.tt.sublist ((List.Sublist.refl R).append (yZ _ T)),w2.base,w.pro,⟨fun u hu hf=>?_,fun i u h hp hf a ea=>?_,w2.fx.bin,fun b o hb=>?_,fun i u h hl=>?_⟩⟩⟩
 ·show (match inv i with | some j=>gC j | none=>g i).map _=_
  cases ei:inv i with
  | none=>rw [h2 i (inv_none i ei)];exact w.sl i
  | some j =>
   obtain ⟨p,q,a,b,c,_⟩:=h3 j i (inv_some i j ei)
   rw [c,<- b];exact w2.sl j
 ·rcases val i u h with ⟨j,p,q,ej,eu,_⟩ | ⟨hn,e⟩
  ·exact back i j u ej eu
  ·exact w.sv i u e
 ·rcases val i u h with ⟨j,p,q,ej,eu,_⟩ | ⟨hn,e⟩
  ·have ok:=w2.okS j u eu
   exact ⟨ok.rep,ok.own,ok.src⟩
  ·have ok:=w2.okT u (yQ _ (yP _ (out i u hn e)))
   exact ⟨ok.rep,ok.own,ok.src⟩
 ·have ok:=w2.okT u (by
   rcases yU.mp hu with q | q
   ·exact yP _ q
   ·exact yQ _ (yQ _ q))
  exact ⟨ok.rep,ok.own,ok.src⟩
 ·rcases val i a ha with ⟨j,p,q,ej,eu,_⟩ | ⟨hn,e⟩
  ·rcases val k b hb with ⟨j',p',q',ej',eu',_⟩ | ⟨hn',e'⟩
   ·exact w2.ss j j' a b (fun z=>n (by subst z;rw [ej] at ej';injection ej' with z;injection z)) eu eu'
   ·exact (w2.st j a eu b (yQ _ (yP _ (out k b hn' e')))).1
  ·rcases val k b hb with ⟨j',p',q',ej',eu',_⟩ | ⟨hn',e'⟩
   ·exact (w2.st j' b eu' a (yQ _ (yP _ (out i a hn e)))).2
   ·exact w.ss i k a b n e e'
 ·have hb':b ∈ R ++ (oC ix ρ.length g ++ T):=by
   rcases yU.mp hb with q | q
   ·exact yP _ q
   ·exact yQ _ (yQ _ q)
  rcases val i a h with ⟨j,p,q,ej,eu,_⟩ | ⟨hn,e⟩
  ·exact w2.st j a eu b hb'
  ·rcases yU.mp hb with q | q
   ·exact ((List.pairwise_append.mp w2.tt).2.2 b q a (yP _ (out i a hn e))).symm
   ·exact w.st i a e b q
 ·rcases yU.mp hu with q | q
  ·exact absurd (hR u q) hf
  ·exact w.fx.frT u q hf
 ·rcases val i u h with ⟨j,p,q,ej,eu,ep,eq,hc⟩ | ⟨hn,e⟩
  ·obtain ⟨y,y1,y2,y3⟩:=was i j u p q ej eu ep eq hc
   refine w.fx.frS i y y1 hp (fun z=>hf ?_) a (by rw [y2];exact ea)
   rcases y3 with h | h
   ·rw [h];exact z
   ·exact h
  ·exact w.fx.frS i u e hp hf a ea
 ·obtain ⟨o',ho⟩:=w.fx.ob b o hb
  have h0:=hH b o' ho
  by_cases q:G.bw b
  ·exact w2.fx.bin b q
  ·exact ⟨o',w2.base b o' h0 q⟩
 ·rcases val i u h with ⟨j,p,q,ej,eu,ep,eq,hc⟩ | ⟨hn,e⟩
  ·obtain ⟨y,y1,y2,y3⟩:=was i j u p q ej eu ep eq hc
   rw [<- y2]
   refine w.fx.lvS i y y1 ?_
   rcases y3 with h | h
   ·rw [<- h];exact hl
   ·rw [h] at hl;cases hl
  ·exact w.fx.lvS i u e hl
theorem rh {J:It} {H1:Hp} {ys els:List It3} {ds:List D} {bnd:D->Sto->Option Sto} {c:M3 Bool} {elt:EM} {tg:TG} {tc:TT} {te:TE} {Gc:Gm} {Rst:List It3} {ds':List D} {τρ τρ':Sto} {gC:Nat->Option It3} {Z:List V->Hp->Prop} {M:Addr->Prop}
  (hz:(16777216:Nat)=sizeLine) (hel:∀ x ∈ els,x ∈ Rst/\x.f=.z)
  (hgo:∀ H',(∀ b o,H1 b=some o->¬ Gc.bw b->H' b=some o)->(∀ (i:Nat) (d:D),ds[i]?=some d->J.go i H'/\∀ x H'',J.yld i H' x H''->∃ w,New K H' H'' (dj els) w/\w.d=d/\w.f=.z/\w.v=x)/\J.stop ds.length H')
  (h0:Gc.H0=H1) (hb:Bnd K Gc.pr tg bnd) (htc:∀ σ H Q,tT K Gc (fun _ _=>False) c σ H Q->tc σ H Q) (hte:∀ σ H Q,tE K Gc (fun _ _=>False) elt σ H Q->te σ H Q)
  (hlen:ds.length < 16777216) (w:Wf K Gc H1 τ τρ Rst gC) (e:bE bnd c elt ds τρ=some (.ok ds',τρ'))
  (hZ:∀ (us:List It3) (τ':St) (H':Hp) (g':Nat->Option It3),(∀ x ∈ us,x.f=.z)->us.map (·.d)=ds'->Wf K Gc H' τ' τρ' (us ++ Rst) g'->Z (us.map (·.v)) H'):nQ J tg tc te Z τ H1:=by
 refine ⟨fun i m vs τ' H'=>i<=ds.length/\m=ds.length - i/\vs.length<=i/\∃ (us:List It3) (ρ2:Sto) (g2:Nat->Option It3) (r:List D),(∀ x ∈ us,x.f=.z)/\us.map (·.v)=vs/\Wf K Gc H' τ' ρ2 (us ++ Rst) g2/\bE bnd c elt (ds.drop i) ρ2=some (.ok r,τρ')/\us.map (·.d) ++ r=ds',⟨_,Nat.zero_le _,rfl,y8 _,[],τρ,gC,ds',fun _ h=>(by cases h),rfl,w,e,rfl⟩,?_⟩
 rintro i m vs τ1 H2 ⟨hi,rfl,hvl,us,ρ2,g2,r,huz,huv,w2,e2,hds⟩
 refine ⟨by omega,?_⟩
 obtain ⟨wgo,wstop⟩:=hgo H2 fun b o hb' hn=>w2.base b o (by rw [h0];exact hb') hn
 by_cases hlt:i < ds.length
 ·obtain ⟨d,hd⟩:∃ d,ds[i]?=some d:=⟨_,yS hlt⟩
  have hdrop:ds.drop i=d :: ds.drop (i+1):=by
   rw [List.drop_eq_getElem_cons hlt]
   rw [yS hlt] at hd
   cases hd;rfl
  rw [hdrop] at e2
  obtain ⟨go,yld⟩:=wgo i d hd
  refine .inr ⟨go,fun vs5 τ5 H5=>vs5.length<=i+1/\∃ (us:List It3) (ρ5:Sto) (g5:Nat->Option It3) (r:List D),(∀ x ∈ us,x.f=.z)/\us.map (·.v)=vs5/\Wf K Gc H5 τ5 ρ5 (us ++ Rst) g5/\bE bnd c elt (ds.drop (i+1)) ρ5=some (.ok r,τρ')/\us.map (·.d) ++ r=ds',
   fun vs5 τ5 H5 ⟨hl5,h5⟩=>⟨ds.length - (i+1),by omega,hlt,rfl,hl5,h5⟩,fun x H'' hy=>?_⟩
  obtain ⟨u,nu,ud,uf,uv⟩:=yld x H'' hy
  have w3:Wf K Gc H'' τ1 ρ2 (u :: (us ++ Rst)) g2:=w2.push nu fun c hc=>w2.alls (ys:=els) (fun y hy=>⟨.inr (yQ _ (hel y hy).1),(hel y hy).2⟩) hc
  have e3:(match bnd d ρ2 with
   | none=>none
   | some τ1=>ac c (fun b=>if b then ac elt (fun r=>ac (eA r) fun p=>ac (bE bnd c elt (ds.drop (i+1))) fun l=>bj (p.1 :: l)) else bE bnd c elt (ds.drop (i+1))) τ1)=some (.ok r,τρ'):=e2
  cases e4:bnd d ρ2 with
  | none=>rw [e4] at e3;exact nsE e3
  | some ρ3 =>
   rw [e4] at e3
   dsimp only at e3
   rw [<- uv]
   refine hb Gc H'' τ1 ρ2 ρ3 _ g2 u _ rfl uf w3 (by rw [ud];exact e4) fun τ4 g4 w4=>?_
   refine htc _ _ _ (tT.seq (Le.refl K Gc _) w4 e3 (fun x hx=>by cases hx) fun b ρ5 e5 H5 g5 w5=>?_)
   cases b with
   | false =>
    simp only [zp,if_false] at e5 ⊢
    exact ⟨by omega,us,ρ5,g5,r,huz,huv,w5,e5,hds⟩
   | true =>
    simp only [if_true] at e5 ⊢
    refine hte _ _ _ (tE.seq (Le.refl K Gc _) w5 e5 (fun x hx=>by cases hx) fun ra ρ6 e6 v H6 ⟨Ts,g6,w6,a6⟩=>?_)
    obtain ⟨p,ρ7,g7,x7,e7,w7,f1,f2,_,f3⟩:=a6.take w6 e6
    have w8:=Wf.lowT (Ts:=[x7]) w7
    unfold ac at e7
    cases e8:bE bnd c elt (ds.drop (i+1)) ρ7 with
    | none=>rw [e8] at e7;exact nsE e7
    | some pr =>
     obtain ⟨o,ρ8⟩:=pr
     rw [e8] at e7
     cases o with
     | error x=>cases e7
     | ok l =>
      cases e7
      refine ⟨by rw [zi];simp;omega,us ++ [de x7],ρ7,g7,l,fun y hy=>?_,by rw [List.map_append,huv,<- f3];rfl,?_,e8,?_⟩
      ·rcases yU.mp hy with h | h
       ·exact huz y h
       ·rw [zo.mp h];rfl
      ·exact w8.perm (by
        show ([de x7] ++ (us ++ Rst)).Perm (us ++ [de x7] ++ Rst)
        rw [<- List.append_assoc]
        exact (List.perm_append_comm).append_right Rst)
      ·rw [List.map_append,List.append_assoc]
       show us.map (·.d) ++ ((de x7).d :: l)=ds'
       rw [show (de x7).d=p.1 from f1]
       exact hds
 ·have ei:i=ds.length:=by omega
  subst ei
  rw [List.drop_length] at e2
  cases e2
  rw [List.append_nil] at hds
  subst huv
  exact .inl ⟨wstop,hZ us τ1 H2 g2 huz hds w2⟩
end
end L3
end
section
namespace L3
open PySem L2
section
variable {K:FG} {G G0:Gm} {W W0:D->Sto->Prop} {H H':Hp} {σ τ:St} {ρ ρ':Sto} {T T':List It3} {g:Nat->Option It3} {x y z:It3} {α β:Type} {ix:List (Option Nat)}
noncomputable def bK (ix:List (Option Nat)):Gm:=⟨fun _=>none,fun _=>False,fun j=>((ix[j]?).join).isSome,[],fun _=>none,fun _=>False,fun _=>none⟩
noncomputable abbrev noX:D->Sto->Prop:=fun _ _=>False
theorem pO {G1:Gm} (h:G1.pr=(bK ix).pr) (le:Le K G W G1 noX):Le K G W (bK ix) noX:=⟨le.pr.trans h,fun H σ ρ T g e w q=>by
 obtain ⟨_,_,_,_,f⟩:=le.ex H σ ρ T g e w q
 exact f.elim⟩
theorem uJ {G1:Gm} {m:EM} {Q:VK} (h:G1.pr=(bK ix).pr) (q:tE K G1 noX m σ H Q):tE K (bK ix) noX m σ H Q:=by
 obtain ⟨G,W,le,r⟩:=q
 exact ⟨G,W,pO h le,r⟩
theorem uF {G1:Gm} {m:M3 Bool} {Q:Bool->Hp->Prop} (h:G1.pr=(bK ix).pr) (q:tT K G1 noX m σ H Q):tT K (bK ix) noX m σ H Q:=by
 obtain ⟨G,W,le,r⟩:=q
 exact ⟨G,W,pO h le,r⟩
noncomputable def dB:M3 Bool:=bj true
theorem wL {Q:Bool->Hp->Prop} (h:tT K G0 W0 dB σ H Q):tYes σ H Q:=by
 refine h.use fun G W le ρ T g o ρ' w e q=>?_
 cases e
 exact q _ _ w
set_option tactic.hygienic true in
theorem iN {bnd:D->Sto->Option Sto} {c:M3 Bool} {elt:EM}:∀ {ds ds':List D} {τρ τρ':Sto},bE bnd c elt ds τρ=some (.ok ds',τρ')->ds'.length<=ds.length
 | [],ds',τρ,τρ',e=>by cases e;exact y8 _
 | d :: ds,ds',τρ,τρ',e=>by
  unfold bE at e
  split at e
  ·exact nsE e
  ·rename_i τ1 _
   unfold ac at e
   split at e
   ·exact nsE e
   ·cases e
   ·rename_i b τ2 _
    cases b with
    | false =>
     simp only [zp,if_false] at e
     have:=iN e
     simp;omega
    | true =>
     simp only [if_true] at e
     split at e
     ·exact nsE e
     ·cases e
     ·split at e
      ·exact nsE e
      ·cases e
      ·split at e
       ·exact nsE e
       ·cases e
       ·rename_i l τ5 h5
        cases e
        have:=iN h5
        simp;omega
set_option tactic.hygienic true in
theorem nC {im:IM} {bnd:D->Sto->Option Sto} {c:M3 Bool} {elt:EM} {tg:TG} {o:Except D R3} {Z:List V->Hp->Prop} (hz:(16777216:Nat)=sizeLine) (hij:Inj ix) (hb:Bnd K (bK ix).pr tg bnd) (le:Le K G W G0 W0) (w:Wf K G H σ ρ T g) (e:bR im bnd c elt ix ρ=some (o,ρ')) (he:∀ x,o=.error x->W x ρ')
  (hZ:∀ (us:List It3) (H':Hp) (g':Nat->Option It3) (Ts:List It3) (ds:List D),o=.ok (.val (.lst ds) .u)->(∀ x ∈ us,x.f=.z)->us.map (·.d)=ds->us.length<=16777216->Wf K G H' σ ρ' (us ++ T) g'->Z (us.map (·.v)) H') :
  tI K G0 W0 im σ H fun J H1=>nQ J tg (tT K (bK ix) noX c) (tE K (bK ix) noX elt) Z (cap ix σ) H1:=by
 refine tI.seq le w e he fun p ρ1 e1=>?_
 intro J H1 vs Ts g1 ys w1 a1 hys hw
 have his:=us_u (is:=pls p.1) w1
 have hus:∀ i y,i ∈ pls p.1->g1 i=some y->y.f=.u->i ∈ us ρ1 (pls p.1):=fun i y hi ey hf=>rJ w1 hi ey hf
 generalize us ρ1 (pls p.1)=is at e1 his hus
 have w2:=w1.enter is
 obtain ⟨els,hels,walk⟩:=hw
 have hM:∀ b,(∃ j y,j ∉ is/\g1 j=some y/\y.f=.u/\y.v=.ref b)->MutAt H1 b:=fun b ⟨j,y,_,ey,hf,hv⟩=>by
  obtain ⟨_,a,L',v1,v2,_⟩:=(w1.okS j y ey).own (by rw [hf];intro q;cases q)
  rw [hv] at v1;cases v1
  exact (w1.okS j y ey).rep.inH b (by rw [v2];exact yK)
 have hysM:∀ y ∈ ys,∀ b ∈ y.L,¬ ∃ j y,j ∉ is/\g1 j=some y/\y.f=.u/\y.v=.ref b:=fun y hy b hb ⟨j,y',nj,ey',hf,hv⟩=>by
  have hfz:y'.f ≠ .z:=by rw [hf];intro q;cases q
  rcases hys y hy with ⟨i,hi,ei⟩ | hy
  ·by_cases ij:i=j
   ·subst ij
    rw [ei] at ey';cases ey'
    exact nj (hus i y hi ei hf)
   ·exact w1.ss j i y' y (Ne.symm ij) ey' ei hfz b hv hb
  ·exact (w1.st j y' ey' y (yP _ hy)).1 hfz b hv hb
 have hitm:∀ y ∈ ys,Itm (Ts ++ T) g1 y:=fun y hy=>by
  rcases hys y hy with ⟨i,_,ei⟩ | h
  ·exact .inl ⟨i,ei⟩
  ·exact .inr (yP _ h)
 have kid:∀ x ∈ els,∀ c ∈ x.L,dC ((Ts ++ T).map bu) (fun j=>if j ∈ is then (g1 j).map bu else g1 j) c/\(H1 c=none\/(G.H0 c=none\/G.src c)):=fun x hx c hc=>by
  obtain ⟨nr,sr⟩:=w1.kids hitm ((hels x hx).2.2 c hc)
  refine ⟨⟨fun i z ez hf hv=>?_,fun z hz hf hv=>?_⟩,.inr sr⟩
  ·have ez:(if i ∈ is then (g1 i).map bu else g1 i)=some z:=ez
   by_cases q:i ∈ is
   ·rw [if_pos q] at ez
    obtain ⟨z0,e0,e1⟩:=yO.mp ez
    subst e1
    exact nr.1 i z0 e0 (fun q=>hf (lentF_z.mpr q)) hv
   ·rw [if_neg q] at ez
    exact nr.1 i z ez hf hv
  ·obtain ⟨z0,h0,rfl⟩:=y6.mp hz
   exact nr.2 z0 h0 (fun q=>hf (lentF_z.mpr q)) hv
 have w3:Wf K (dO G H1 g1 is) H1 σ (aJ cN is ρ1) (els ++ (Ts ++ T).map bu) (fun j=>if j ∈ is then (g1 j).map bu else g1 j):=w2.pushAll fun x hx=>⟨(hels x hx).1,(hels x hx).2.1,fun c hc=>kid x hx c hc⟩
 have w4:=w3.cap hij
 cases e2:bE bnd c elt p.2 (oU ix (aJ cN is ρ1)) with
 | none=>rw [e2] at e1;exact nsE e1
 | some rr =>
  obtain ⟨o2,τρ⟩:=rr
  rw [e2] at e1
  cases o2 with
  | error x=>exact nsE e1
  | ok ds =>
   dsimp only at e1
   split at e1
   ·rename_i hlen
    cases e3:uncap ix τρ (aJ cN is ρ1) with
    | none=>rw [e3] at e1;exact nsE e1
    | some ρ3 =>
     rw [e3] at e1
     have eo:o=.ok (.val (.lst ds) .u)/\ρ'=aJ fD is ρ3:=by cases e1;exact ⟨rfl,rfl⟩
     obtain ⟨eo,eρ⟩:=eo
     refine rh (K:=K) (Gc:=uc (dO G H1 g1 is) ix σ) (els:=els) (M:=fun _=>False) (ys:=ys) hz (fun x hx=>⟨yQ _ (yP _ hx),(hels x hx).1⟩) (fun H' hk=>walk _ H' hM hk hysM) rfl hb (fun σ' H Q q=>uF (G1:=uc (dO G H1 g1 is) ix σ) rfl q) (fun σ' H Q q=>uJ (G1:=uc (dO G H1 g1 is) ix σ) rfl q) hlen w4 e2 fun us τ' H' g' huz hud w5=>?_
     obtain ⟨g6,w6⟩:=Wf.uncap w3 (fun b o h=>h) hij e3 huz w5
     have w7:=Wf.leave (T:=Ts ++ T) (T':=T) (R:=us) w1 his (yZ Ts T) (w6.sub ((List.Sublist.refl us).append (by
      rw [List.map_append]
      exact (yZ (Ts.map bu) (T.map bu)).trans (yZ els _))))
     have hle:us.length<=16777216:=by
      have h1:us.length=ds.length:=by rw [<- hud,yW]
      have h2:=iN e2
      omega
     rw [<- eρ] at w7
     exact hZ us H' _ Ts ds eo huz hud hle w7
   ·exact nsE e1
theorem lg {us:List It3} {p:Addr} (w:Wf K G H σ ρ (us ++ T) g) (huz:∀ x ∈ us,x.f=.z) (hp:H p=none) :
  Wf K G (upd H p (.lst (us.map (·.v)))) σ ρ (⟨.lst (us.map (·.d)),.ref p,p :: (us.map (·.L)).flatten,.u⟩ :: T) g:=by
 have hi:∀ y ∈ us,Itm (us ++ T) g y/\y.f=.z:=fun y hy=>⟨.inr (yP _ hy),huz y hy⟩
 have np:p ∉ (us.map (·.L)).flatten:=fun hc=>by
  obtain ⟨y,hm,hc⟩:=eE hc
  obtain ⟨o,ho⟩:=((w.itm (hi y hm).1).rep.inH p hc).ex
  rw [hp] at ho;exact nsE ho
 have n:New K H (upd H p (.lst (us.map (·.v)))) (dj us) ⟨.lst (us.map (·.d)),.ref p,p :: (us.map (·.L)).flatten,.u⟩:=⟨b6 hp,.lst bm ((ju fun y hy=>(w.itm (hi y hy).1).rep).same (b6 hp)),fun c hc=>by
  rcases yR.mp hc with e | hc
  ·rw [e];exact .inl hp
  ·exact .inr (eE hc),fun _=>⟨rfl,p,_,rfl,rfl,np,hp⟩⟩
 exact (w.push n fun c h=>w.alls hi h).sub (List.Sublist.cons_cons _ (yZ us T))
theorem uO {im:IM} {bnd:D->Sto->Option Sto} {c:M3 Bool} {elt:EM} {tg:TG} {Q:VK} (hz:(16777216:Nat)=sizeLine) (hij:Inj ix) (hb:Bnd K (bK ix).pr tg bnd) (h:tE K G0 W0 (bR im bnd c elt ix) σ H Q) :
  wn (tI K G0 W0 im) tg (tT K (bK ix) noX c) (tE K (bK ix) noX elt) ix σ H Q:=by
 refine h.use fun G W le ρ T g o ρ' w e q=>?_
 refine nC hz hij hb le w e q.err fun us H' g' Ts ds eo huz hud hl w1=>?_
 subst eo hud
 intro p hp
 have w2:=lg w1 huz hp
 exact q (.ref p) _ ⟨[_],g',w2,Ar.val (⟨.lst (us.map (·.d)),.ref p,p :: (us.map (·.L)).flatten,.u⟩:It3)⟩
set_option tactic.hygienic true in
theorem nW {i:Nat} {im:IM} {bnd:D->Sto->Option Sto} {c:M3 Bool} {elt:EM} {tg:TG} {E:Ends} (hz:(16777216:Nat)=sizeLine) (hij:Inj ix) (hb:Bnd K (bK ix).pr tg bnd) (hp:G0.pr i=false) (h:tS K G0 W0 (bp i (bR im bnd c elt ix)) E σ H) :
  wr i (tI K G0 W0 im) tg (tT K (bK ix) noX c) (tE K (bK ix) noX elt) ix E σ H:=by
 refine h.use fun G W le ρ T g r ρ' w e q=>?_
 unfold bp ac at e
 cases e1:bR im bnd c elt ix ρ with
 | none=>rw [e1] at e;exact nsE e
 | some pr =>
  obtain ⟨o,ρ1⟩:=pr
  rw [e1] at e
  have herr:∀ x,o=.error x->W x ρ1:=fun x hx=>by subst hx;cases e;exact q
  refine nC hz hij hb le w e1 herr fun us H' g' Ts ds eo huz hud hl w1=>?_
  subst eo hud
  intro p hp'
  have w2:=lg w1 huz hp'
  have e:(if i < ρ1.length then some ((.ok .nx,ρ1.set i (some (D.lst (us.map (·.d)),Fl.u))):Except D Flw × Sto) else none)=some (r,ρ'):=e
  split at e
  ·rename_i hi
   cases e
   exact q _ _ _ (w2.store (f:=.u) hi (by rw [le.pr];exact hp) (.inl rfl) (by intro h;cases h))
  ·exact nsE e
end
end L3
end
section
namespace L3
open PySem L2
section
variable {K:FG} {G G0:Gm} {W W0:D->Sto->Prop} {H H':Hp} {σ:St} {ρ ρ':Sto} {T T':List It3} {g:Nat->Option It3} {x y z:It3} {α β:Type}
theorem Wf.mutate {i:Nat} {a:Addr} {o':HO} {d':D} {L0:List Addr} (w:Wf K G H σ ρ T g) (ey:g i=some y) (hu:y.f=.u) (ev:y.v=.ref a) (hm:ie d'=true) (rep:Rep K (upd H a o') d' (.ref a) (a :: L0)) (na:a ∉ L0)
  (hk:∀ c ∈ L0,dC T g c/\(G.H0 c=none\/G.src c)):Wf K G (upd H a o') σ (ρ.set i (some (d',.u))) T (fun j=>if j=i then some ⟨d',.ref a,a :: L0,.u⟩ else g j):=by
 have hfz:y.f ≠ .z:=by rw [hu];intro q;cases q
 have oy:=w.okS i y ey
 obtain ⟨_,a',L',v1,v2,v3,v4⟩:=oy.own hfz
 rw [ev] at v1;cases v1
 have hi:i < ρ.length:=by
  have:=w.sl i
  rw [ey] at this
  exact dA this.symm
 have ma:MutAt H a:=oy.rep.inH a (by rw [v2];exact yK)
 have val:∀ j u,(if j=i then some (⟨d',.ref a,a :: L0,.u⟩:It3) else g j)=some u->(j=i/\u=⟨d',.ref a,a :: L0,.u⟩)\/(j ≠ i/\g j=some u):=fun j u h=>by
  by_cases q:j=i
  ·rw [if_pos q] at h;cases h;exact .inl ⟨q,rfl⟩
  ·rw [if_neg q] at h;exact .inr ⟨q,h⟩
 have keep:∀ u,ItOk K G H u->a ∉ u.L->ItOk K G (upd H a o') u:=fun u ou hn=>ou.keep (M:=fun b=>b=a) (fun b o hb n=>by rw [aG n];exact hb) (fun b e=>by rw [e];exact ma) fun b hb e=>hn (by rw [<- e];exact hb)
 have nS:∀ j u,j ≠ i->g j=some u->a ∉ u.L:=fun j u n e=>w.ss i j y u (Ne.symm n) ey e hfz a ev
 have nT:∀ u ∈ T,a ∉ u.L:=fun u hu'=>(w.st i y ey u hu').1 hfz a ev
 have dom:∀ b o,H b=some o->∃ o'',upd H a o' b=some o'':=fun b o hb=>by
  by_cases q:b=a
  ·rw [q,bm];exact ⟨_,rfl⟩
  ·rw [aG q];exact ⟨o,hb⟩
 refine ⟨by rw [List.length_set];exact w.len,fun j=>?_,fun j u h=>?_,fun j u h=>?_,fun u hu'=>keep u (w.okT u hu') (nT u hu'),fun j k p q n hp hq=>?_,fun j u h t ht=>?_,w.tt,fun b o e n=>?_,w.pro,⟨w.fx.frT,fun j u h hp hf b eb=>?_,fun b hb=>?_,fun b o hb=>?_,fun j u h hl=>?_⟩⟩
 ·rw [bS hi]
  by_cases q:j=i
  ·rw [if_pos q,if_pos q];rfl
  ·rw [if_neg q,if_neg q];exact w.sl j
 ·rcases val j u h with ⟨rfl,rfl⟩ | ⟨n,h⟩
  ·rw [w.sv j y ey,ev]
  ·exact w.sv j u h
 ·rcases val j u h with ⟨rfl,rfl⟩ | ⟨n,h⟩
  ·refine ⟨rep,fun _=>⟨hm,a,L0,rfl,rfl,na,fun _=>v4 hu⟩,fun c hc=>?_⟩
   rcases yR.mp hc with e | hc
   ·rw [e];exact oy.src a (by rw [v2];exact yK)
   ·exact (hk c hc).2
  ·exact keep u (w.okS j u h) (nS j u n h)
 ·rcases val j p hp with ⟨ej,ep⟩ | ⟨n1,hp'⟩
  ·rcases val k q hq with ⟨ek,eq⟩ | ⟨n2,hq'⟩
   ·exact absurd (ej.trans ek.symm) n
   ·rw [ep]
    intro _ c ec
    cases ec
    exact nS k q n2 hq'
  ·rcases val k q hq with ⟨ek,eq⟩ | ⟨n2,hq'⟩
   ·rw [eq]
    intro hf c ec hc
    rcases yR.mp hc with e | hc
    ·obtain ⟨_,b,L2,u1,u2,_⟩:=(w.okS j p hp').own hf
     rw [ec] at u1;cases u1
     exact nS j p n1 hp' (by rw [<- e,u2];exact yK)
    ·exact (hk c hc).1.1 j p hp' hf ec
   ·exact w.ss j k p q n hp' hq'
 ·rcases val j u h with ⟨ej,eu⟩ | ⟨n,h'⟩
  ·rw [eu]
   refine ⟨fun _ c ec=>by cases ec;exact nT t ht,fun hf c ec hc=>?_⟩
   rcases yR.mp hc with e | hc
   ·obtain ⟨_,b,L2,u1,u2,_⟩:=(w.okT t ht).own hf
    rw [ec] at u1;cases u1
    exact nT t ht (by rw [<- e,u2];exact yK)
   ·exact (hk c hc).1.2 t ht hf ec
  ·exact w.st j u h' t ht
 ·have:b ≠ a:=fun z=>by
   subst z
   rcases v4 hu with h | h
   ·rw [e] at h;cases h
   ·exact n h
  rw [aG this];exact w.base b o e n
 ·rcases val j u h with ⟨ej,eu⟩ | ⟨n,h'⟩
  ·subst ej
   rw [eu] at eb
   cases eb
   exact w.fx.frS j y ey hp hfz a ev
  ·exact w.fx.frS j u h' hp hf b eb
 ·obtain ⟨o,ho⟩:=w.fx.bin b hb
  exact dom b o ho
 ·obtain ⟨o2,ho⟩:=w.fx.ob b o hb
  exact dom b o2 ho
 ·rcases val j u h with ⟨ej,eu⟩ | ⟨n,h'⟩
  ·rw [eu] at hl;cases hl
  ·exact w.fx.lvS j u h' hl
noncomputable def MutD (K:FG) (r:V->List V->Hp->VK->Prop) (f:D->List D->Option (D × D)):Prop:=∀ (a:Addr) (d:D) (L0:List Addr) (as:List It3) (H:Hp) (Q:VK) (p:D × D),Rep K H d (.ref a) (a :: L0)->ie d=true->a ∉ L0->(∀ x ∈ as,Rep K H x.d x.v x.L)->(∀ x ∈ as,a ∉ x.L)->f d (as.map (·.d))=some p ->
 (∀ (o':HO) (L1:List Addr) (w:It3),Rep K (upd H a o') p.1 (.ref a) (a :: L1)->ie p.1=true->(∀ c ∈ L1,c ∈ L0\/dj as c)->w.f=.z->w.d=p.2->Rep K (upd H a o') w.d w.v w.L->(∀ c ∈ w.L,c ∈ L0\/dj as c)->Q w.v (upd H a o'))->r (.ref a) (as.map (·.v)) H Q
noncomputable def chk (ok:D->Bool) (i:Nat):M3 Unit:=fun ρ=>match (ρ[i]?).join with
 | some (d,_)=>if ok d then some (.ok (),ρ) else none
 | none=>none
theorem mf {i:Nat} {k:R3->M3 β} {r:Except D β} (e:ac (ad i) k ρ=some (r,ρ')):∃ p,(ρ[i]?).join=some p/\k (.pl i) ρ=some (r,ρ'):=by
 unfold ac ad at e
 cases q:(ρ[i]?).join with
 | none=>rw [q] at e;exact nsE e
 | some p=>rw [q] at e;exact ⟨p,rfl,e⟩
theorem ua {ok:D->Bool} {i:Nat} {k:Unit->M3 β} {r:Except D β} (e:ac (chk ok i) k ρ=some (r,ρ')):(∀ p,(ρ[i]?).join=some p->ok p.1=true)/\k () ρ=some (r,ρ'):=by
 unfold ac chk at e
 cases q:(ρ[i]?).join with
 | none=>rw [q] at e;exact nsE e
 | some p =>
  rw [q] at e
  dsimp only at e
  cases h:ok p.1 with
  | false=>rw [h] at e;exact nsE e
  | true=>rw [h] at e;exact ⟨fun p' e'=>by cases e';exact h,e⟩
noncomputable def ic (ok:D->Bool) (f:D->List D->Option (D × D)) (i:Nat) (ms:M3 (List R3)):EM:=ac (ad i) fun _=>ac (chk ok i) fun _=>ac ms fun rs=>ac (gives rs) fun ds=>fun ρ=>match (ρ[i]?).join with
 | some (d,.u)=>match f d ds with
  | some p=>some (.ok (.val p.2 .z),ρ.set i (some (p.1,.u)))
  | none=>none
 | _=>none
theorem Wf.changed {i:Nat} {d:D} {as us:List It3} {r:V->List V->Hp->VK->Prop} {f:D->List D->Option (D × D)} {p:D × D} {v:V} {Q:VK} (hr:MutD K r f) (w:Wf K G H σ ρ (us ++ T) g) (e:(ρ[i]?).join=some (d,.u)) (hv:σ[i]?=some (some v)) (ha:∀ y ∈ as,Itm (us ++ T) g y/\y.f=.z)
  (ef:f d (as.map (·.d))=some p) (q:∀ v H',Got K G σ (ρ.set i (some (p.1,.u))) T (.val p.2 .z) v H'->Q v H'):r v (as.map (·.v)) H Q:=by
 obtain ⟨y,y1,y2,y3,y4⟩:=w.slot e
 rw [hv] at y4
 injection y4 with y4
 injection y4 with y4
 have hfz:y.f ≠ .z:=by rw [y3];intro q;cases q
 have oy:=w.okS i y y1
 obtain ⟨m,a,L0,v1,v2,v3,_⟩:=oy.own hfz
 have ra:=oy.rep
 rw [v1,v2,y2] at ra
 rw [y2] at m
 rw [y4,v1]
 have na:∀ x ∈ as,a ∉ x.L:=fun x hx hc=>by
  have:=(w.kid (ha x hx).1 hc fun hf=>absurd (ha x hx).2 hf).1 i y y1 hfz
  exact this v1
 refine hr a d L0 as H Q p ra m v3 (fun x hx=>(w.itm (ha x hx).1).rep) na ef fun o' L1 u r1 m1 s1 uf ud ur us1=>?_
 have hsrc:∀ c,(c ∈ L0\/dj as c)->dC (us ++ T) g c/\(G.H0 c=none\/G.src c):=fun c hc=>by
  rcases hc with hc | hc
  ·have hc':c ∈ y.L:=by rw [v2];exact yM _ hc
   exact ⟨w.kid (.inl ⟨i,y1⟩) hc' fun _ ez=>by rw [v1] at ez;cases ez;exact v3 hc,oy.src c hc'⟩
  ·exact w.alls ha hc
 have nL:∀ c,(c ∈ L0\/dj as c)->c ≠ a:=fun c hc z=>(hsrc c hc).1.1 i y y1 hfz (by rw [z];exact v1)
 have w1:=w.mutate (o':=o') y1 y3 v1 m1 r1 (fun h=>nL a (s1 a h) rfl) fun c hc=>hsrc c (s1 c hc)
 have w2:=w1.pushAll (ws:=[u]) fun x hx=>by
  rw [zo.mp hx]
  refine ⟨uf,ur,fun c hc=>?_⟩
  have s:=hsrc c (us1 c hc)
  refine ⟨⟨fun j z ez hf hz=>?_,s.1.2⟩,s.2⟩
  have ez:(if j=i then some (⟨p.1,.ref a,a :: L1,.u⟩:It3) else g j)=some z:=ez
  by_cases q:j=i
  ·rw [if_pos q] at ez
   cases ez
   cases hz
   exact nL a (us1 a hc) rfl
  ·rw [if_neg q] at ez
   exact s.1.1 j z ez hf hz
 rw [<- ud,<- uf] at q
 exact q u.v _ ⟨[u],_,w2.sub ((List.Sublist.refl [u]).append (yZ us T)),.val u⟩
theorem rP {i:Nat} {Ty:String} {ok:D->Bool} {ms:M3 (List R3)} {r:V->List V->Hp->VK->Prop} {f:D->List D->Option (D × D)} {Q:VK} (hr:MutD K r f) (hok:∀ d v L H,ok d=true->Rep K H d v L->tyV K Ty v H) (h:tE K G0 W0 (ic ok f i ms) σ H Q):tBM K Ty r (ml i) (tA K G0 W0 ms) σ H Q:=by
 refine h.use fun G W le ρ T g o ρ' w e q=>?_
 obtain ⟨p0,e0,e⟩:=mf e
 obtain ⟨hk,e⟩:=ua e
 obtain ⟨d0,f0⟩:=p0
 obtain ⟨y,y1,y2,y3,y4⟩:=w.slot e0
 refine ⟨y.v,y4,hok d0 y.v y.L H (hk _ e0) (by rw [<- y2];exact (w.okS i y y1).rep),?_⟩
 refine tA.seq le w e q.err fun rs ρ1 e1 vs H1 Ts g1 w1 a1=>?_
 obtain ⟨ds,ρ2,g2,e2,_,w2,_,ys,hy,f1,f2⟩:=a1.gives w1 e1
 subst f1 f2
 cases e3:(ρ2[i]?).join with
 | none=>rw [e3] at e2;exact nsE e2
 | some p3 =>
  obtain ⟨d3,f3⟩:=p3
  rw [e3] at e2
  cases f3 with
  | u =>
   dsimp only at e2
   cases e4:f d3 (ys.map (·.d)) with
   | none=>rw [e4] at e2;exact nsE e2
   | some p =>
    rw [e4] at e2
    cases e2
    exact w2.changed hr e3 y4 hy e4 q
  | l=>exact nsE e2
  | z=>exact nsE e2
theorem uK {i:Nat} {Ty:String} {ok:D->Bool} {r:V->List V->Hp->VK->Prop} {f:D->List D->Option (D × D)} {Q:VK} (hr:MutD K r f) (hok:∀ d v L H,ok d=true->Rep K H d v L->tyV K Ty v H) (h:tE K G0 W0 (ic ok f i ak) σ H Q):tBM0 K Ty r (ml i) σ H Q:=by
 obtain ⟨v,hv,ty,q⟩:=rP hr hok h
 refine ⟨v,hv,ty,?_⟩
 exact rT q
noncomputable def jR (t:V->V->V->Hp->(Hp->Prop)->Prop):V->List V->Hp->VK->Prop:=fun x vs H Q=>∃ k v,vs=[k,v]/\t x k v H fun H'=>Q .non H'
noncomputable def r6 (f:D->List D->Option (D × D)) (i:Nat) (mk mv:EM):SM:=ac mv fun rv=>ac (ad i) fun _=>ac mk fun rk=>ac (gives [rk,rv]) fun ds=>fun ρ=>match (ρ[i]?).join with
 | some (d,.u)=>match f d ds with
  | some p=>some (.ok .nx,ρ.set i (some (p.1,.u)))
  | none=>none
 | _=>none
theorem wO {i:Nat} {mk mv:EM} {t:rE} {f:D->List D->Option (D × D)} {E:Ends} (hr:MutD K (jR t) f) (h:tS K G0 W0 (r6 f i mk mv) E σ H):rS (tE K G0 W0 mv) (gSub (ml i) (tE K G0 W0 mk) t) E σ H:=by
 refine h.use fun G W le ρ T g r ρ' w e q=>?_
 refine tE.seq le w e q.err fun rv ρ1 e1 v H1 ⟨Ts,g1,w1,a1⟩=>?_
 obtain ⟨p0,e0,e1⟩:=mf e1
 obtain ⟨d0,f0⟩:=p0
 obtain ⟨y,y1,y2,y3,y4⟩:=w1.slot e0
 refine ⟨y.v,y4,?_⟩
 ·refine tE.seq le w1 e1 q.err fun rk ρ2 e2 vk H2 ⟨Us,g2,w2,a2⟩=>?_
  have a3:Ars σ [rk,rv] [vk,v] (([] ++ Ts) ++ Us):=.cons a2 (.cons a1 .nil)
  have w3:Wf K G H2 σ ρ2 ((([] ++ Ts) ++ Us) ++ T) g2:=w2.perm (by
   rw [List.nil_append,<- List.append_assoc]
   exact (List.perm_append_comm).append_right T)
  obtain ⟨ds,ρ3,g3,e3,_,w4,_,ys,hy,f1,f2⟩:=a3.gives w3 e2
  subst f1
  cases e4:(ρ3[i]?).join with
  | none=>rw [e4] at e3;exact nsE e3
  | some p3 =>
   obtain ⟨d3,f3⟩:=p3
   rw [e4] at e3
   cases f3 with
   | u =>
    dsimp only at e3
    cases e5:f d3 (ys.map (·.d)) with
    | none=>rw [e5] at e3;exact nsE e3
    | some p =>
     rw [e5] at e3
     cases e3
     have:=w4.changed (Q:=fun _ H'=>E.nx σ H') hr e4 y4 hy e5 fun v' H' ⟨Vs,g5,w5,a5⟩=>q _ _ _ (w5.sub (yZ Vs T))
     rw [f2] at this
     obtain ⟨k',v',ekv,ht⟩:=this
     cases ekv
     exact ht
   | l=>exact nsE e3
   | z=>exact nsE e3
end
end L3
end
section
namespace L3
open PySem L2
structure RE (X:Cx) (G0:Gm) (W0:D->Sto->Prop) (e:Expr) (m:EM):Prop where
 h:PE X e (tE X.K G0 W0 m)
structure RT (X:Cx) (G0:Gm) (W0:D->Sto->Prop) (e:Expr) (m:M3 Bool):Prop where
 h:PT X e (tT X.K G0 W0 m)
structure RW (X:Cx) (G0:Gm) (W0:D->Sto->Prop) (e:Expr) (m:M3 Bool):Prop where
 h:PW X e (tT X.K G0 W0 m)
structure RA (X:Cx) (G0:Gm) (W0:D->Sto->Prop) (es:List Expr) (m:M3 (List R3)):Prop where
 h:PA X es (tA X.K G0 W0 m)
structure RS (X:Cx) (G0:Gm) (W0:D->Sto->Prop) (s:Stmt) (m:SM):Prop where
 h:PS X s (tS X.K G0 W0 m)
structure RSs (X:Cx) (G0:Gm) (W0:D->Sto->Prop) (s:List Stmt) (m:SM):Prop where
 h:PSs X s (tS X.K G0 W0 m)
structure RI (X:Cx) (G0:Gm) (W0:D->Sto->Prop) (tg iter:Expr) (m:IM):Prop where
 h:PI X tg iter (tI X.K G0 W0 m)
structure RG (X:Cx) (pr:Nat->Bool) (target:Expr) (bnd:D->Sto->Option Sto):Prop where
 h:∃ tg,PG X target tg/\Bnd X.K pr tg bnd
structure RGs (X:Cx) (pr:Nat->Bool) (targets:List Expr) (bnd:List D->Sto->Option Sto):Prop where
 h:∃ tg,PGs X targets tg/\uB X.K pr tg bnd
theorem PE.imp {X:Cx} {e:Expr} {t t':TE} (h:PE X e t) (f:∀ σ H Q,t' σ H Q->t σ H Q):PE X e t':=fun pins s σ H Q I q=>h pins s σ H Q I (f σ H Q q)
theorem PT.imp {X:Cx} {e:Expr} {t t':TT} (h:PT X e t) (f:∀ σ H Q,t' σ H Q->t σ H Q):PT X e t':=fun pins s σ H Q I q=>h pins s σ H Q I (f σ H Q q)
theorem PW.imp {X:Cx} {e:Expr} {t t':TT} (h:PW X e t) (f:∀ σ H Q,t' σ H Q->t σ H Q):PW X e t':=fun wh pins s σ H Q I q=>h wh pins s σ H Q I (f σ H Q q)
theorem PA.imp {X:Cx} {e:List Expr} {t t':TA} (h:PA X e t) (f:∀ σ H Q,t' σ H Q->t σ H Q):PA X e t':=fun pos pins s σ H Q I q=>h pos pins s σ H Q I (f σ H Q q)
theorem PS.imp {X:Cx} {e:Stmt} {t t':TS} (h:PS X e t) (f:∀ D σ H,t' D σ H->t D σ H):PS X e t':=fun pins s σ H D I q=>h pins s σ H D I (f D σ H q)
theorem PSs.imp {X:Cx} {e:List Stmt} {t t':TS} (h:PSs X e t) (f:∀ D σ H,t' D σ H->t D σ H):PSs X e t':=fun pins s σ H D I q=>h pins s σ H D I (f D σ H q)
theorem PI.imp {X:Cx} {tg e:Expr} {t t':TI} (h:PI X tg e t) (f:∀ σ H R,t' σ H R->t σ H R):PI X tg e t':=fun pins s σ H R I q=>h pins s σ H R I (f σ H R q)
theorem szl:(16777216:Nat)=sizeLine:=by rw [sizeLine_eq]
section
variable {X:Cx} {G0:Gm} {W0:D->Sto->Prop} {a b c e:Expr} {es:List Expr} {pos:Pos} {ma mb mc m:EM} {ms:M3 (List R3)} {t u:M3 Bool} {cM:List Expr}
theorem sA (i:Nat) {x:Str} (hN:X.N[i]?=some x) (hv:Vis X.env.scope x) (hd:(x == ("__debug__":Str))=false) (hcd:(x == ("__classdict__":Str))=false):RE X G0 W0 (.Name x pos) (ad i):=⟨PE.imp (eX hN hv hd hcd) fun _ _ _ h=>wX h⟩
theorem af {i j}:RE X G0 W0 (.Constant (.int i) j pos) (mC (.int i)):=⟨PE.imp xH fun _ _ _ h=>gN (fun _=>.int i) h⟩
theorem fu {i j}:RE X G0 W0 (.Constant (.bool i) j pos) (mC (.bl i)):=⟨PE.imp pe_bl fun _ _ _ h=>gN (fun _=>.bl i) h⟩
theorem sD {j}:RE X G0 W0 (.Constant .none j pos) (mC .non):=⟨PE.imp xF fun _ _ _ h=>gN (fun _=>.non) h⟩
theorem fO {x:Str} {i:Int} {tk:Tok} (hg:Gl X x) (hm:X.mg x=some (.int i tk)) (hd:(x == ("__debug__":Str))=false):RE X G0 W0 (.Name x pos) (mC (.int i)):=⟨PE.imp (vv (v:=V.int i) hg hm ⟨_,rfl⟩ hd) fun _ _ _ h=>gN (fun _=>.int i) h⟩
theorem ao {op:Operator} {r:R2} {f:D->D->Option (D × Fl)} (ho:OpR X (binaryOp op) r) (hd:OpD X.K r f) (ha:RE X G0 W0 a ma) (hb:RE X G0 W0 b mb):RE X G0 W0 (.BinOp a op b pos) (ai f ma mb):=⟨PE.imp (pe_op ho ha.h hb.h) fun _ _ _ h=>lr hd h⟩
theorem pk {op:UnaryOp} {r:V->Hp->VK->Prop} {f:D->Option (D × Fl)} (ho:UnR X (unaryOp op) r) (hd:UnD X.K r f) (ha:RE X G0 W0 a ma):RE X G0 W0 (.UnaryOp op a pos) (mUn f ma):=⟨PE.imp (pe_un ho ha.h) fun _ _ _ h=>wk hd h⟩
theorem jQ {op:CmpOp} {r:R2} {f:D->D->Option (D × Fl)} (ho:OpR X (compareOp op) r) (hd:OpD X.K r f) (ha:RE X G0 W0 a ma) (hb:RE X G0 W0 b mb) (hm:behindInMarks op b=false):RE X G0 W0 (.Compare a [op] [b] pos) (ai f ma mb):=⟨PE.imp (vx ho ha.h hb.h hm) fun _ _ _ h=>lr hd h⟩
theorem aI {r:R2} {f:D->D->Option (D × Fl)} (ho:IxR X r) (hd:OpD X.K r f) (ha:RE X G0 W0 a ma) (hb:RE X G0 W0 b mb) (hs:qm b):RE X G0 W0 (.Subscript a b pos) (ai f ma mb):=⟨PE.imp (pe_ix ho ha.h hb.h hs) fun _ _ _ h=>lr hd h⟩
theorem fP (ha:RE X G0 W0 a ma) (hb:RE X G0 W0 (.BoolOp .And (b :: cM) pos) mb):RE X G0 W0 (.BoolOp .And (a :: b :: cM) pos) (jh ma mb):=⟨PE.imp (xJ ha.h hb.h) fun _ _ _ h=>xc h⟩
theorem iB {op} (h:RE X G0 W0 a ma):RE X G0 W0 (.BoolOp op [a] pos) ma:=⟨xD h.h⟩
theorem sC (ha:RE X G0 W0 a ma):RE X G0 W0 (.UnaryOp .Not a pos) (vK ma):=⟨PE.imp (xE ha.h) fun _ _ _ h=>wZ h⟩
theorem re_if (hc:RT X G0 W0 c t) (ha:RE X G0 W0 a ma) (hb:RE X G0 W0 b mb):RE X G0 W0 (.IfExp c a b pos) (mIf t ma mb):=⟨PE.imp (sS hc.h ha.h hb.h) fun _ _ _ h=>tE_if h⟩
noncomputable def iG (f f':D->D->Option (D × Fl)) (ma mb mc:EM):EM:=ac ma fun ra=>ac mb fun rb=>ac (der ra) fun da=>ac (der rb) fun db=>ac (bh ((f da db).bind fun p=>asB p.1)) fun k=>if k then ac mc fun rc=>ac (der rb) fun db=>ac (der rc) fun dc=>bh ((f' db dc).map fun p=>R3.val p.1 p.2) else bj (.val (.bl false) .z)
theorem eU (ha:RE X G0 W0 a ma) (he:∀ whole,isTrue a X.env whole=(do let v <- whole;standAt a.pos;holding [v] (truthy v))):RT X G0 W0 a (cB ma):=⟨PT.imp (xu ha.h he) fun _ _ _ h=>tT_b h⟩
theorem sk (h:RW X G0 W0 a t):RT X G0 W0 a t:=⟨h.h.pt⟩
theorem uV (ha:RT X G0 W0 a t):RW X G0 W0 (.BoolOp .And [a] pos) t:=⟨vf ha.h⟩
theorem ly (ha:RT X G0 W0 a t):RW X G0 W0 (.BoolOp .Or [a] pos) t:=⟨xr ha.h⟩
theorem xk (ha:RT X G0 W0 a t) (hb:RW X G0 W0 (.BoolOp .And (b :: cM) pos) u):RW X G0 W0 (.BoolOp .And (a :: b :: cM) pos) (oZ t u):=⟨PW.imp (xt ha.h hb.h) fun _ _ _ h=>wN h⟩
theorem mz (ha:RT X G0 W0 a t) (hb:RW X G0 W0 (.BoolOp .Or (b :: cM) pos) u):RW X G0 W0 (.BoolOp .Or (a :: b :: cM) pos) (cOr t u):=⟨PW.imp (pw_or ha.h hb.h) fun _ _ _ h=>tT_or h⟩
theorem fL (ha:RT X G0 W0 a t):RT X G0 W0 (.UnaryOp .Not a pos) (jp t):=⟨PT.imp (xv ha.h) fun _ _ _ h=>wM h⟩
theorem ae:RA X G0 W0 [] ak:=⟨PA.imp sT fun _ _ _ h=>rT h⟩
theorem aa (ha:RE X G0 W0 e m) (hr:RA X G0 W0 es ms) (hs:starEach (e :: es) X.env=(false,eval e X.env) :: starEach es X.env):RA X G0 W0 (e :: es) (ab m ms):=⟨PA.imp (lF ha.h hr.h hs) fun _ _ _ h=>uP h⟩
theorem jP {x1} (h:RA X G0 W0 es ms):RE X G0 W0 (.Tuple es x1 pos) (oN ms):=⟨PE.imp (xC h.h) fun _ _ _ h=>wY szl h⟩
theorem c8 (h:RA X G0 W0 es ms):RE X G0 W0 (.List es pos) (fG ms):=⟨PE.imp (xG h.h) fun _ _ _ h=>xa szl h⟩
theorem aF {x:Str} {p:Pos} {id:String} {r:List V->Hp->VK->Prop} {f:List D->Option (D × Fl)} (hc:di X (.builtin id) r) (hd:eM X.K r f) (hg:Gl X x) (hm:X.mg x=none) (hv:bootBuiltins x=some (.builtin id)) (ha:RA X G0 W0 (e :: es) ms) (hn:x ≠ "__name__") (hdb:(x == ("__debug__":Str))=false)
  (he:starEach (e :: es) X.env=(false,eval e X.env) :: starEach es X.env) (hpl:(backTo pos (starEach es X.env)).any (·.1)=false):RE X G0 W0 (.Call (.Name x p) (e :: es) [] pos) (aC f ms):=⟨PE.imp (mL hc hg hm hv ha.h hn hdb he hpl) fun _ _ _ h=>jF hd h⟩
theorem cj {x:Str} {p:Pos} {T:String} {r:List V->Hp->VK->Prop} {f:List D->Option (D × Fl)} (hc:di X (.type T) r) (hd:eM X.K r f) (hg:Gl X x) (hm:X.mg x=none) (hv:bootBuiltins x=some (.type T)) (ha:RA X G0 W0 (e :: es) ms) (hn:x ≠ "__name__") (hdb:(x == ("__debug__":Str))=false)
  (he:starEach (e :: es) X.env=(false,eval e X.env) :: starEach es X.env) (hpl:(backTo pos (starEach es X.env)).any (·.1)=false):RE X G0 W0 (.Call (.Name x p) (e :: es) [] pos) (aC f ms):=⟨PE.imp (qH hc hg hm hv ha.h hn hdb he hpl) fun _ _ _ h=>jF hd h⟩
variable {st:Stmt} {sts:List Stmt} {sm sn:SM}
theorem bL:RSs X G0 W0 [] fE:=⟨PSs.imp vm fun _ _ _ h=>wS h⟩
theorem ag (h1:RS X G0 W0 st sm) (h2:RSs X G0 W0 sts sn):RSs X G0 W0 (st :: sts) (aK sm sn):=⟨PSs.imp (sK h1.h h2.h) fun _ _ _ h=>wQ h⟩
theorem aj (h1:RS X G0 W0 st sm):RSs X G0 W0 [st] sm:=⟨vj h1.h⟩
theorem cx (he:RE X G0 W0 e m) (hs:swapsWith e none pos.line X.env=pure false):RS X G0 W0 (.Expr e pos) (dg m):=⟨PS.imp (vn he.h hs) fun _ _ _ h=>uG h⟩
theorem aL (np:Nat) (hnp:∀ i,np<=i->G0.pr i=false) (he:RE X G0 W0 e m):RS X G0 W0 (.Return (some e) pos) (bD np m):=⟨PS.imp (xx he.h) fun _ _ _ h=>wR hnp h⟩
theorem dU {x y:List Stmt} (hc:RT X G0 W0 c t) (ha:RSs X G0 W0 x sm) (hb:RSs X G0 W0 y sn):RS X G0 W0 (.If c x y pos) (sIf t sm sn):=⟨PS.imp (ps_if hc.h ha.h hb.h) fun _ _ _ h=>tS_if h⟩
theorem aO (i:Nat) {x:Str} {pos':Pos} (hN:X.N.Nodup) (hi:X.N[i]?=some x) (hx:Loc X.env.scope x) (he:RE X G0 W0 e m) (hs:swapsWith e (some (.Name x pos')) pos.line X.env=pure false) (hf:X.fn x=true\/X.env.scope.names.lookup x=some .local) (hp:G0.pr i=false):RS X G0 W0 (.Assign [.Name x pos'] e pos) (bp i m):=⟨PS.imp (xw hN hi hx he.h hs hf) fun _ _ _ h=>wP hp h⟩
theorem gU {body:List Stmt} (hp:PassesOwn (model X.prog X.w) X.A X.env X.xe) (hc:RT X G0 W0 c t) (hb:RSs X G0 W0 body sm):RS X G0 W0 (.While c body [] pos) (cw t sm):=⟨PS.imp (sL hp hc.h hb.h) fun _ _ _ h=>rO h⟩
theorem cP {tg iter:Expr} {body:List Stmt} {im:IM} {bnd:D->Sto->Option Sto} (hp:PassesOwn (model X.prog X.w) X.A X.env X.xe) (hc:X.calm=true) (hi:RI X G0 W0 tg iter im) (hg:RG X G0.pr tg bnd) (hb:RSs X G0 W0 body sm) (hs:∀ x,foldedSetIterable iter X.env x=pure x):RS X G0 W0 (.For tg iter body [] pos) (du im bnd sm):=by
 obtain ⟨g,h1,h2⟩:=hg.h
 exact ⟨PS.imp (xy hp hc hi.h h1 hb.h hs) fun _ _ _ h=>wT h2 h⟩
theorem bF (i:Nat) {x:Str} {pr:Nat->Bool} (hN:X.N.Nodup) (hi:X.N[i]?=some x) (hx:Loc X.env.scope x) (hf:X.fn x=true\/X.env.scope.names.lookup x=some .local) (hp:pr i=false):RG X pr (.Name x pos) (am i):=⟨_,bB hN hi hx hf,a7 hp⟩
theorem u7 {pr:Nat->Bool}:RGs X pr [] uo:=⟨_,pE,nK⟩
theorem mG {pr:Nat->Bool} {bn:D->Sto->Option Sto} {bs:List D->Sto->Option Sto} (h1:RG X pr e bn) (h2:RGs X pr es bs) (hs:(assignEach (e :: es) X.env).map (·.2)=assign e X.env :: (assignEach es X.env).map (·.2)):RGs X pr (e :: es) (jc bn bs):=by
 obtain ⟨g,a1,a2⟩:=h1.h
 obtain ⟨gs,b1,b2⟩:=h2.h
 exact ⟨_,jT a1 b1 hs,iR a2 b2⟩
theorem xo {pr:Nat->Bool} {k n:Nat} {bs:List D->Sto->Option Sto} (hc:X.calm=true) (h:RGs X pr es bs) (hn:(assignEach es X.env).length=n) (hst:(assignEach es X.env).findIdx? (·.1)=none):RG X pr (.Tuple es k pos) (um n bs):=by
 obtain ⟨gs,b1,b2⟩:=h.h
 exact ⟨_,sQ hc b1 hn hst,qh b2⟩
theorem cW {elt tg iter:Expr} {ifs:List Expr} {scope:Scope} {im:IM} {bnd:D->Sto->Option Sto} {cm:M3 Bool} {em:EM} (NY:List Str) (ix:List (Option Nat)) (hc:X.calm=true) (hi:RI X G0 W0 tg iter im)
  (ht:∀ s H C fp,PTs (aX X NY scope s H C fp) ifs (tT X.K (bK ix) noX cm)) (he:∀ s H C fp,RE (aX X NY scope s H C fp) (bK ix) noX elt em)
  (ck:iM scope X.N X.env.scope NY ix=true) (hij:Inj ix) (hs:∀ x,foldedSetIterable iter X.env x=pure x) (hgu:∃ tg',Bnd X.K (bK ix).pr tg' bnd/\∀ s H C fp,PG (aX X NY scope s H C fp) tg tg'):RE X G0 W0 (.ListComp elt [⟨tg,iter,ifs,0⟩] scope pos) (bR im bnd cm em ix):=by
 obtain ⟨tg',b1,b2⟩:=hgu
 exact ⟨PE.imp (vw NY ix hc hi.h b2 ht (fun s H C fp=>(he s H C fp).h) ck hs) fun _ _ _ h=>uO szl hij b1 h⟩
end
end L3
end
section
namespace L3
open PySem L2
noncomputable def aA (F:Fn) (ms:M3 (List R3)):EM:=ac ms fun rs=>fun ρ=>match prs (frz (nq rs) ρ) rs with
 | none=>none
 | some ps=>match F ps with
  | none=>none
  | some (.ok p,qs)=>if qs.length=ps.length then some (.ok (.val p.1 p.2),back rs ps qs (frz (nq rs) ρ)) else none
  | some (.error _,_)=>none
noncomputable def qr (K:FG) (F:Fn):Sp:=fun vs H Q _=>∃ (ps:List It3) (p:D × Fl) (fs:List (D × Fl)),vs=ps.map (·.v)/\(∀ p ∈ ps,Arg K H p)/\ps.Pairwise Apart3/\F (ps.map fun p=>(p.d,p.f))=some (.ok p,fs) /\
 ∀ x qs H',Behind K H H' ps qs x->x.d=p.1->x.f=p.2->qs.map (fun q=>(q.d,q.f))=fs->Q x.v H'
section
variable {K:FG} {G G0:Gm} {W W0:D->Sto->Prop} {H H':Hp} {σ:St} {ρ ρ':Sto} {T T':List It3} {g:Nat->Option It3} {x y z:It3} {α β:Type}
theorem rR {F:Fn} {ms:M3 (List R3)} {Q:VK} (h:tE K G0 W0 (aA F ms) σ H Q):tA K G0 W0 ms σ H fun vs H1=>qr K F vs H1 Q E0:=by
 refine h.use fun G W le ρ T g o ρ' w e q=>?_
 refine tA.seq le w e q.err fun rs ρ1 e1 vs H1 Ts g1 w1 a1=>?_
 obtain ⟨g2,w2,z2⟩:=Wf.frz (is:=nq rs) w1
 cases e2:prs (L3.frz (nq rs) ρ1) rs with
 | none=>rw [e2] at e1;exact nsE e1
 | some pfs =>
  rw [e2] at e1
  dsimp only at e1
  have hd:∀ i,2<=(pls rs).count i->∀ y,g2 i=some y->y.f=.z:=fun i hc y ey=>by
   have hm:i ∈ nq rs:=zq.mpr ⟨List.count_pos_iff.mp (by omega),by simpa using hc⟩
   have s1:=w2.sl i
   rw [ey] at s1
   have hy:∃ y0,g1 i=some y0:=by
    cases q1:g1 i with
    | some y0=>exact ⟨y0,rfl⟩
    | none =>
     exfalso
     have s2:=w1.sl i
     rw [q1] at s2
     have:=ni (is:=nq rs) s2.symm
     rw [this] at s1
     cases s1
   obtain ⟨y0,ey0⟩:=hy
   obtain ⟨y',e3,_,e5⟩:=z2 i y0 ey0
   rw [ey] at e3
   cases e3
   exact e5 hm
  obtain ⟨ps,f1,f2,f3,f4,f5⟩:=Ars.args a1 w2 hd e2
  have hit:∀ p ∈ ps,Itm (Ts ++ T) g2 p:=fun p hp=>by
   rcases f4 p hp with ⟨i,_,ei⟩ | h
   ·exact .inl ⟨i,ei⟩
   ·exact .inr (yP _ h)
  have harg:∀ p ∈ ps,Arg K H1 p:=fun p hp=>⟨(w2.itm (hit p hp)).rep,fun hf=>by
   obtain ⟨m,a,L',v1,v2,v3,_⟩:=(w2.itm (hit p hp)).own hf
   exact ⟨m,a,L',v1,v2,v3⟩⟩
  subst f2
  cases e3:F pfs with
  | none=>rw [e3] at e1;exact nsE e1
  | some r =>
   obtain ⟨out,fs⟩:=r
   rw [e3] at e1
   cases out with
   | ok p =>
    dsimp only at e1
    split at e1
    ·cases e1
     refine ⟨ps,p,fs,rfl,harg,f3,by rw [f1];exact e3,?_⟩
     intro x qs H' B x1 x2 hq
     obtain ⟨g',w3,px⟩:=Wf.after w2 e2 f1 f4 f5 B.toBehindX
     have w4:=px x B.rep B.own B.src B.apx
     rw [hq] at w4
     rw [<- x1,<- x2] at q
     exact q x.v H' ⟨[x],g',w4,.val x⟩
    ·exact nsE e1
   | error er=>exact nsE e1
noncomputable def dN (b:Bool) (p:It3):It3:=if b then de p else p
theorem k7:∀ {mask:List Bool} {ps:List It3},(List.zipWith dN mask ps).map (fun p=>(p.d,p.f))=List.zipWith qR mask (ps.map fun p=>(p.d,p.f))
 | [],_=>rfl
 | _ :: _,[]=>rfl
 | b :: mask,p :: ps=>by
  simp only [List.zipWith_cons_cons,zc,k7]
  cases b <;> rfl
theorem qQ {mask:List Bool} {ps:List It3} {i:Nat} {q:It3} (h:(List.zipWith dN mask ps)[i]?=some q):∃ b p,mask[i]?=some b/\ps[i]?=some p/\q=dN b p:=by
 rw [List.getElem?_zipWith] at h
 cases e1:mask[i]? with
 | none=>rw [e1] at h;exact nsE h
 | some b =>
  cases e2:ps[i]? with
  | none=>rw [e1,e2] at h;exact nsE h
  | some p=>rw [e1,e2] at h;cases h;exact ⟨b,p,rfl,rfl,rfl⟩
theorem m8 {mask:List Bool} {ps:List It3} {i:Nat} {p:It3} (hl:ps.length=mask.length) (h:ps[i]?=some p):∃ b,mask[i]?=some b/\(List.zipWith dN mask ps)[i]?=some (dN b p):=by
 have hi:i < mask.length:=by have:=(yX.mp h).1;omega
 refine ⟨mask[i],yS hi,?_⟩
 rw [List.getElem?_zipWith,yS hi,h]
theorem dM (b:Bool) (p:It3):(dN b p).d=p.d/\(dN b p).v=p.v/\(dN b p).L=p.L/\((dN b p).f=p.f\/(dN b p).f=.z):=by
 cases b
 ·exact ⟨rfl,rfl,rfl,.inl rfl⟩
 ·exact ⟨rfl,rfl,rfl,.inr rfl⟩
theorem NoRoot.low {a b a' b':It3} (h:NoRoot a b) (hv:a'.v=a.v) (hf:a'.f=a.f\/a'.f=.z) (hL:b'.L=b.L):NoRoot a' b':=fun q c e=>by
 rw [hL]
 rcases hf with f | f
 ·exact h (by rw [<- f];exact q) c (by rw [<- hv];exact e)
 ·exact absurd f q
noncomputable def prM (mask:List Bool) (i:Nat):Bool:=match mask[i]? with
 | some b=>!b
 | none=>false
theorem vH {α β:Type} {f:α->β} {l:List α} {i:Nat} {a:α} (h:l[i]?=some a):(l.map f)[i]?=some (f a):=by rw [y7,h];rfl
set_option tactic.hygienic true in
theorem pZ {mask:List Bool} {m:SM} {n:Nat} {vs:List V} {Q:VK} {E:XK} (hn:mask.length<=n) (h:qr K (fnM mask n m) vs H Q E) :
  ∃ G:Gm,G.pr=prM mask/\tS K G noX m { nx:=fun _ H'=>Q .non H',rt:=Q } (vs.map some ++ List.replicate (n - vs.length) none) H:=by
 obtain ⟨ps,p,fs,rfl,ha,hp,hF,q⟩:=h
 unfold fnM at hF
 rw [yW] at hF
 split at hF
 ·rename_i hl
  rw [<- k7] at hF
  generalize hps:List.zipWith dN mask ps=ps' at hF
  have hl':ps'.length=ps.length:=by rw [<- hps,List.length_zipWith];omega
  have hv:ps'.map (·.v)=ps.map (·.v):=by
   refine List.ext_getElem? fun i=>?_
   rw [y7,y7]
   cases e:ps[i]? with
   | none=>rw [List.getElem?_eq_none (by have:=List.getElem?_eq_none_iff.mp e;omega)]
   | some u =>
    obtain ⟨b,_,e2⟩:=m8 (mask:=mask) hl e
    rw [hps] at e2
    rw [e2]
    show some (dN b u).v=some u.v
    rw [(dM b u).2.1]
  have up:∀ (i:Nat) (u:It3),ps'[i]?=some u->∃ b u0,mask[i]?=some b/\ps[i]?=some u0/\u=dN b u0:=fun i u e=>by rw [<- hps] at e;exact qQ e
  have upm:∀ u ∈ ps',∃ b u0,u0 ∈ ps/\u=dN b u0:=fun u hu=>by
   obtain ⟨i,hi,e⟩:=List.mem_iff_getElem.mp hu
   obtain ⟨b,u0,_,e2,e3⟩:=up i u (by rw [yS hi,e])
   exact ⟨b,u0,yY e2,e3⟩
  have ha':∀ u ∈ ps',Arg K H u:=fun u hu=>by
   obtain ⟨b,u0,h0,rfl⟩:=upm u hu
   obtain ⟨e1,e2,e3,e4⟩:=dM b u0
   refine ⟨by rw [e1,e2,e3];exact (ha u0 h0).rep,fun hf=>?_⟩
   rw [e1,e2,e3]
   refine (ha u0 h0).own fun z=>hf ?_
   rcases e4 with f | f
   ·rw [f];exact z
   ·exact f
  have hp':ps'.Pairwise Apart3:=by
   rw [List.pairwise_iff_getElem]
   intro i j hi hj lt
   obtain ⟨b,u0,_,e2,e3⟩:=up i _ (yS hi)
   obtain ⟨b',u0',_,e2',e3'⟩:=up j _ (yS hj)
   have ap:=c6 hp (fun _ _=>Apart3.symm) (za lt) e2 e2'
   rw [e3,e3']
   obtain ⟨_,a2,a3,a4⟩:=dM b u0
   obtain ⟨_,b2,b3,b4⟩:=dM b' u0'
   exact ⟨ap.1.low a2 a4 b3,ap.2.low b2 b4 a3⟩
  have hpr:∀ (i:Nat) (u:It3),ps'[i]?=some u->u.f ≠ .z->prM mask i=true:=fun i u e hf=>by
   obtain ⟨b,u0,e1,e2,e3⟩:=up i u e
   unfold prM
   rw [e1]
   cases b with
   | false=>rfl
   | true=>rw [e3] at hf;exact absurd rfl hf
  have alls:∀ c,dj ps' c->dj ps c:=fun c ⟨u,hu,hc⟩=>by
   obtain ⟨b,u0,h0,rfl⟩:=upm u hu
   exact ⟨u0,h0,by rw [<- (dM b u0).2.2.1];exact hc⟩
  have lift:∀ {H':Hp} {qs:List It3},BehindX K H H' ps' qs->BehindX K H H' ps qs:=fun {H' qs} B=>by
   refine ⟨fun b o hb hn=>B.frame b o hb fun u hu hf hv=>?_,Paired.ofGet ?_ fun k u v eu ev=>?_,B.apart⟩
   ·obtain ⟨b',u0,h0,rfl⟩:=upm u hu
    obtain ⟨_,e2,_,e4⟩:=dM b' u0
    rcases e4 with f | f
    ·exact hn u0 h0 (by rw [<- f];exact hf) (by rw [<- e2];exact hv)
    ·rw [f] at hf;cases hf
   ·rw [<- hl'];exact Paired.length B.back
   ·obtain ⟨b,_,e2⟩:=m8 (mask:=mask) hl eu
    rw [hps] at e2
    have b1:=Paired.at B.back e2 ev
    obtain ⟨a1,a2,a3,a4⟩:=dM b u
    refine ⟨fun hz=>?_,by rw [b1.v,a2],?_,b1.arg,fun c hc=>(b1.src c hc).imp id (alls c),fun hf b' hb'=>?_⟩
    ·have:dN b u=u:=by
      cases b
      ·rfl
      ·obtain ⟨d,v,L,f⟩:=u
       have hz:f=.z:=hz
       subst hz;rfl
     rw [<- this]
     exact b1.z (by rw [this];exact hz)
    ·rcases b1.f with h | h
     ·rcases a4 with f | f
      ·exact .inl (h.trans f)
      ·exact .inr (h.trans f)
     ·exact .inr h
    ·rcases a4 with f | f
     ·exact b1.there (by rw [f];exact hf) b' (by rw [a2];exact hb')
     ·-- lowered: as it was
      obtain ⟨_,a,L',v1,v2,_⟩:=(ha u (yY eu)).own (by rw [hf];intro q;cases q)
      rw [hb'] at v1;cases v1
      have hq:=b1.z f
      have r:=b1.arg.rep
      rw [hq,a1,a2,a3] at r
      exact (r.inH b' (by rw [v2];exact yK)).ex
  have hnn:ps'.length<=n:=by omega
  have wf:=rH (K:=K) (H:=H) (n:=n) (pr:=prM mask) hnn ha' hp' hpr
  rw [hv] at wf
  refine ⟨gOf H (prM mask) ((ps.map (·.v)).map some ++ List.replicate (n - (ps.map (·.v)).length) none) ps',rfl,?_⟩
  have h0:∀ (i:Nat) (u:It3),ps'[i]?=some u->((ps.map (·.v)).map some ++ List.replicate (n - (ps.map (·.v)).length) none)[i]?=some (some u.v):=fun i u e=>kO (by rw [<- hv];exact vH e)
  unfold fn0 at hF
  cases e:m (ja n (ps'.map fun p=>(p.d,p.f))) with
  | none=>rw [e] at hF;exact nsE hF
  | some rr =>
   obtain ⟨r,ρ2⟩:=rr
   rw [e] at hF
   refine tS.mk (r:=r) (Le.refl K _ _) wf e ?_
   have fin:∀ {x:It3} {σ':St} {H':Hp} {g':Nat->Option It3} {d:D} {f:Fl},Wf K (gOf H (prM mask) ((ps.map (·.v)).map some ++ List.replicate (n - (ps.map (·.v)).length) none) ps') H' σ' ρ2 [x] g'->x.d=d->x.f=f ->
     ((gu ρ2 0 (ps'.map fun p=>(p.d,p.f))).map fun fs=>((.ok (d,f),fs):Except D (D × Fl) × List (D × Fl)))=some (.ok p,fs)->Q x.v H':=fun {x σ' H' g' d f} w1 xd xf hF=>by
    cases e5:gu ρ2 0 (ps'.map fun p=>(p.d,p.f)) with
    | none=>rw [e5] at hF;exact nsE hF
    | some fs' =>
     rw [e5] at hF
     cases hF
     obtain ⟨qs,B,hq⟩:=o0 (n:=n) ha' hp' hpr h0 w1 e5
     have BX:=lift B.toBehindX
     exact q x qs H' ⟨BX,B.rep,B.own,fun c hc=>(B.src c hc).imp id (alls c),B.apx⟩ xd xf hq
   cases r with
   | error er=>
    dsimp only at hF
    cases e5:gu ρ2 0 (ps'.map fun p=>(p.d,p.f)) with
    | none=>rw [e5] at hF;exact nsE hF
    | some fs'=>rw [e5] at hF;cases hF
   | ok fl =>
    cases fl with
    | nx =>
     intro σ' H' g' w1
     obtain ⟨Ts,g2,w2,a2⟩:=w1.const .non
     obtain ⟨x,rfl,x1,x2,x3⟩:=a2.val_inv
     have:=fin w2 x1 x2 hF
     rw [x3] at this
     exact this
    | br=>exact nsE hF
    | ct=>exact nsE hF
    | rt d f =>
     intro x σ' H' g' w1 x1 x2
     exact fin w1 x1 x2 hF
 ·exact nsE hF
end
noncomputable abbrev aQ (P:Program) (w:World) (K:FG) (mg:Str->Option Value) (base:Heap) (x:Str) (k:Nat) (ps:List Str) (F:Fn):Prop:=Callee P w K mg base x k ps (qr K F)
set_option tactic.hygienic true in
theorem aZ {P:Program} {w:World} {K:FG} {mg:Str->Option Value} {base:Heap} {x:Str} {st:Stmt} {k:Nat} {N ps:List Str} {mask:List Bool} {m:SM} {nn:Nat} (D:Def K mg x st) (S:FnScope N ps (ah st)) (hml:mask.length=ps.length) (hnn:N.length=nn)
  (hb:∀ (kV doc pm:Value) (an:Option Addr) (cdv ct:Value) (us:List Value),us.length=ps.length->bindArgs (PySem.W.fnOf x x (bg st) (aU st) (ah st) .none kV doc pm an cdv ct) ⟨us,[]⟩=pure (ps.zip us))
  (body:∀ (cdv:Value) (A:Around) (outer:List Env) (s:Shared) (H:Hp) (E:XK) (f:Addr) (G:Gm),Room k (A.deeper (PyProof.Rows.envOfC x (ah st) s.heap.objs.size f cdv))->G.pr=prM mask->RSs (nv CX0 P w K mg base N x (ah st) f cdv A outer s H E).nox G noX (aU st) m) :
  aQ P w K mg base x (k+1) ps (fnM mask nn m):=by
 refine D.callee hb fun f fd F=>F.ok S (fun vs H Q E h=>?_) fun cdv A outer s H vs Q E hr h=>?_
 ·obtain ⟨ps',p,fs,rfl,_,_,hF,_⟩:=h
  unfold fnM at hF
  rw [yW] at hF ⊢
  split at hF
  ·rename_i e;rw [e,hml]
  ·exact nsE hF
 ·have hle:mask.length<=nn:=by
   rw [hml,<- hnn]
   have:=congrArg List.length S.pre
   rw [zk] at this
   omega
  obtain ⟨G,hG,ht⟩:=pZ hle h
  subst hnn
  exact ⟨_,(body cdv A outer s H E f G hr hG).h,ht⟩
theorem au {X:Cx} {G0:Gm} {W0:D->Sto->Prop} {x:Str} {p pos:Pos} {e:Expr} {es:List Expr} {ms:M3 (List R3)} {k:Nat} {ps:List Str} {F:Fn} (c:aQ X.prog X.w X.K X.mg X.base x k ps F) (hr:Room k X.A) (ha:RA X G0 W0 (e :: es) ms) (hg:Gl X x) (hdb:(x == ("__debug__":Str))=false)
  (he:starEach (e :: es) X.env=(false,eval e X.env) :: starEach es X.env) (hpl:(backTo pos (starEach es X.env)).any (·.1)=false):RE X G0 W0 (.Call (.Name x p) (e :: es) [] pos) (aA F ms) :=
 ⟨PE.imp (pe_fn c hr ha.h hg hdb he hpl) fun _ _ _ h=>rR h⟩
end L3
end
section
namespace L3
open PySem L2
noncomputable def orD (f g:D->D->Option (D × Fl)) (a b:D):Option (D × Fl):=match f a b with
 | some p=>some p
 | none=>g a b
section
variable {K:FG} {H:Hp} {Ks:Addr->Prop} {d:D} {v:V} {L:List Addr} {X:Cx}
theorem fF (r:Rep K H d v []):New K H H Ks ⟨d,v,[],.z⟩:=⟨Same.refl _,r,fun _ h=>(by cases h),fun h=>absurd rfl h⟩
theorem mQ (r:Rep K H d v L) (h:∀ c ∈ L,Ks c):New K H H Ks ⟨d,v,L,.z⟩:=⟨Same.refl _,r,fun c hc=>.inr (h c hc),fun h=>absurd rfl h⟩
theorem qL {p:Addr} {ds:List D} {vs:List V} (hp:H p=none) (r:Reps (Rep K H) ds vs L) (h:∀ c ∈ L,Ks c):New K H (upd H p (.lst vs)) Ks ⟨.lst ds,.ref p,p :: L,.u⟩:=by
 have np:p ∉ L:=fun hc=>by obtain ⟨o,ho⟩:=(r.inH p hc).ex;rw [hp] at ho;exact nsE ho
 refine ⟨b6 hp,.lst bm (r.same (b6 hp)),fun c hc=>?_,fun _=>⟨rfl,p,L,rfl,rfl,np,hp⟩⟩
 rcases yR.mp hc with e | hc
 ·rw [e];exact .inl hp
 ·exact .inr (h c hc)
theorem vE {p:Addr} {ds:List D} {vs:List V} (hp:H p=none) (r:Reps (Rep K H) ds vs L) (h:∀ c ∈ L,Ks c):New K H (upd H p (.tup vs)) Ks ⟨.tup ds,.ref p,L,.z⟩ :=
 ⟨b6 hp,.tup bm (r.same (b6 hp)),fun c hc=>.inr (h c hc),fun h=>absurd rfl h⟩
theorem ji {y:It3} {ys:List It3} (hy:y ∈ ys) (h:Arg K H y) (hm:ie y.d=false):∀ c ∈ y.L,dQ ys c:=fun c hc=>⟨y,hy,hc,fun hf=>by
 have:=(h.own hf).1
 rw [hm] at this;cases this⟩
theorem m9 {y:It3} {ys:List It3} {a:Addr} {L:List Addr} (hy:y ∈ ys) (h:Arg K H y) (hv:y.v=.ref a) (hL:y.L=a :: L):∀ c ∈ L,dQ ys c:=fun c hc=>⟨y,hy,by rw [hL];exact yM _ hc,fun hf e=>by
 obtain ⟨_,a',L',v1,v2,v3⟩:=h.own hf
 rw [hv] at v1;cases v1
 rw [hL] at v2;cases v2
 rw [hv] at e;cases e
 exact v3 hc⟩
theorem OpD.or {r r':R2} {f g:D->D->Option (D × Fl)} (h:OpD K r f) (h':OpD K r' g):OpD K (fun x y H Q=>r x y H Q\/r' x y H Q) (orD f g):=fun a b H Q p ra rb e q=>by
 unfold orD at e
 cases ef:f a.d b.d with
 | some p'=>rw [ef] at e;cases e;exact .inl (h a b H Q _ ra rb ef q)
 | none=>rw [ef] at e;exact .inr (h' a b H Q p ra rb e q)
noncomputable def eG (C:Int->Int->Bool) (g:Int->Int->D):D->D->Option (D × Fl)
 | .int i,.int j=>if C i j then some (g i j,.z) else none
 | _,_=>none
set_option tactic.hygienic true in
theorem ig {C:Int->Int->Prop} {Cb:Int->Int->Bool} {g:Int->Int->V} {gd:Int->Int->D} (hC:∀ i j,Cb i j=true->C i j) (hg:∀ i j H,Rep K H (gd i j) (g i j) []):OpD K (rI C g) (eG Cb gd):=fun a b H Q p ra rb e q=>by
 obtain ⟨da,va,La,fa⟩:=a
 obtain ⟨db,vb,Lb,fb⟩:=b
 obtain ⟨ra,oa⟩:=ra
 obtain ⟨rb,ob⟩:=rb
 dsimp only at ra rb
 cases da <;> try (exact nsE e)
 rename_i i
 obtain ⟨rfl,rfl⟩:=ra.view
 cases db <;> try (exact nsE e)
 rename_i j
 obtain ⟨rfl,rfl⟩:=rb.view
 have e:(if Cb i j then some (gd i j,Fl.z) else none)=some p:=e
 split at e
 ·rename_i hc
  cases e
  exact ⟨i,j,rfl,rfl,hC i j hc,q ⟨gd i j,g i j,[],.z⟩ H (fF (hg i j H)) rfl rfl⟩
 ·exact nsE e
theorem rI_of {g:Int->Int->V}:rI0 g=rI (fun _ _=>True) g:=by
 funext x y H Q
 unfold rI0 rI
 apply propext
 constructor
 ·rintro ⟨i,j,a,b,c⟩;exact ⟨i,j,a,b,trivial,c⟩
 ·rintro ⟨i,j,a,b,_,c⟩;exact ⟨i,j,a,b,c⟩
theorem f9 {g:Int->Int->V} {gd:Int->Int->D} (hg:∀ i j H,Rep K H (gd i j) (g i j) []):OpD K (rI0 g) (eG (fun _ _=>true) gd):=by
 rw [rI_of]
 exact ig (fun _ _ _=>trivial) hg
noncomputable abbrev nR:Int->Int->Bool:=fun _ _=>true
noncomputable abbrev addI:=eG nR fun i j=>.int (i+j)
noncomputable abbrev gD:=eG nR fun i j=>.int (i - j)
noncomputable abbrev eY:=eG (fun i j=>decide ((-(2 ^ 64) < i/\i < 2 ^ 64)\/(-(2 ^ 64) < j/\j < 2 ^ 64))) fun i j=>.int (i * j)
noncomputable abbrev mR:=eG (fun _ j=>decide (0 < j)) fun i j=>.int (i % j)
noncomputable abbrev sO:=eG (fun i j=>decide (0<=j/\j<=1000000/\i.natAbs < 2 ^ 64)) fun i j=>.int (i ^ j.toNat)
noncomputable abbrev ltI:=eG nR fun i j=>.bl (decide (i < j))
noncomputable abbrev leI:=eG nR fun i j=>.bl (decide (i<=j))
noncomputable abbrev gtI:=eG nR fun i j=>.bl (decide (j < i))
theorem od_addI:OpD K (rI0 fun i j=>.int (i+j)) addI:=f9 fun i j _=>.int _
theorem bN:OpD K (rI0 fun i j=>.int (i - j)) gD:=f9 fun i j _=>.int _
theorem bC:OpD K (rI CMul fun i j=>.int (i * j)) eY:=ig (fun i j h=>by simpa [CMul,rG,uz] using h) fun i j _=>.int _
theorem gk:OpD K (rI (fun _ j=>0 < j) fun i j=>.int (i % j)) mR:=ig (fun i j h=>by simpa [CMul,rG,uz] using h) fun i j _=>.int _
theorem pG:OpD K (rI uz fun i j=>.int (i ^ j.toNat)) sO:=ig (fun i j h=>by simpa [CMul,rG,uz] using h) fun i j _=>.int _
theorem k4:OpD K (rI0 fun i j=>.bl (decide (i < j))) ltI:=f9 fun i j _=>.bl _
theorem s9:OpD K (rI0 fun i j=>.bl (decide (i<=j))) leI:=f9 fun i j _=>.bl _
theorem pH:OpD K (rI0 fun i j=>.bl (decide (j < i))) gtI:=f9 fun i j _=>.bl _
noncomputable def yz:D->D->Option (D × Fl)
 | .tup xs,.tup ys=>if xs.length+ys.length<=16777216 then some (.tup (xs ++ ys),.z) else none
 | _,_=>none
noncomputable def yB:D->D->Option (D × Fl)
 | .lst xs,.lst ys=>if xs.length+ys.length<=16777216 then some (.lst (xs ++ ys),.u) else none
 | _,_=>none
noncomputable def yA:D->D->Option (D × Fl)
 | .str xs,.str ys=>if xs.length+ys.length<=16777216 then some (.str (xs ++ ys),.z) else none
 | _,_=>none
theorem Reps.len {ds:List D} {vs:List V} (r:Reps (Rep K H) ds vs L):ds.length=vs.length:=by
 induction r with
 | nil=>rfl
 | cons _ _ ih=>simp [ih]
theorem Reps.append {ds ds':List D} {vs vs':List V} {L L':List Addr} (r:Reps (Rep K H) ds vs L) (r':Reps (Rep K H) ds' vs' L'):Reps (Rep K H) (ds ++ ds') (vs ++ vs') (L ++ L'):=by
 induction r with
 | nil=>exact r'
 | cons a _ ih=>rw [List.append_assoc];exact .cons a ih
theorem Reps.nil_iff {ds:List D} {vs:List V} (r:Reps (Rep K H) ds vs L):ds=[] ↔ vs=[]:=by cases r <;> simp
noncomputable def lB (K:FG):R2:=fun x y H Q=>∃ a b ys,x=.ref a/\y=.ref b/\SqT K H a []/\SqT K H b ys/\Q (.ref b) H
theorem sZ:OpR X (binaryOp .Add) (lB X.K):=by
 intro pins s σ H x y v u Q I rx ry h
 obtain ⟨a,b,ys,rfl,rfl,ha,hb,q⟩:=h
 cases rx
 cases ry
 obtain ⟨its,r1,p1,_⟩:=I.tuple ha
 obtain ⟨its2,r2,p2,_⟩:=I.tuple hb
 have e:its=[]:=r1.nil_iff.mpr rfl
 subst e
 obtain ⟨⟨cls,dd,data,sl⟩,ho,hc,n,hd⟩:=id p1
 obtain ⟨⟨cls2,dd2,data2,sl2⟩,ho2,hc2,n2,hd2⟩:=id p2
 simp only at hc hd hc2 hd2
 subst hc hd hc2 hd2
 exact concat_meets ⟨_,ho,rfl⟩ ⟨_,ho2,rfl⟩ noFill_tuple_add seq_tuple_add PySem.F.slot_tuple_add PySem.F.entry_tuple_add (PySem.F.args_tuple_add_2 _ _)
   (PyProof.Rows.tuple_addW0 a b _ _ n n2 dd dd2 sl sl2 (by simp)) ⟨ho,ho2,⟨.ref b,H,I,rfl,q⟩⟩
set_option tactic.hygienic true in
theorem od_catT:OpD K (fun x y H Q=>pz K x y H Q\/lB K x y H Q) yz:=fun a b H Q p ra rb e q=>by
 obtain ⟨da,va,La,fa⟩:=a
 obtain ⟨db,vb,Lb,fb⟩:=b
 obtain ⟨ra,oa⟩:=ra
 obtain ⟨rb,ob⟩:=rb
 dsimp only at ra rb
 cases da <;> try (exact nsE e)
 rename_i xs
 obtain ⟨pa,vs,rfl,ha,rs⟩:=ra.view
 cases db <;> try (exact nsE e)
 rename_i ys
 obtain ⟨pb,ws,rfl,hb,rs'⟩:=rb.view
 have e:(if xs.length+ys.length<=16777216 then some (D.tup (xs ++ ys),Fl.z) else none)=some p:=e
 split at e
 ·rename_i hl
  cases e
  by_cases hx:vs=[]
  ·have hx0:=rs.nil_iff.mpr hx
   subst hx hx0
   refine .inr ⟨pa,pb,ws,rfl,rfl,SqT.of ha,SqT.of hb,?_⟩
   exact q ⟨.tup ys,.ref pb,Lb,.z⟩ H (mQ (.tup hb rs') (ji (y:=⟨.tup ys,.ref pb,Lb,fb⟩) (yM _ (zo.mpr rfl)) ⟨.tup hb rs',ob⟩ rfl)) rfl rfl
  ·refine .inl ⟨pa,pb,vs,ws,rfl,rfl,SqT.of ha,SqT.of hb,hx,by rw [<- rs.len,<- rs'.len,<- szl];exact hl,fun hw=>?_,fun hw p hp=>?_⟩
   ·have hy0:=rs'.nil_iff.mpr hw
    subst hy0
    refine q ⟨.tup (xs ++ []),.ref pa,La,.z⟩ H (mQ (by rw [List.append_nil];exact .tup ha rs) (ji (y:=⟨.tup xs,.ref pa,La,fa⟩) yK ⟨.tup ha rs,oa⟩ rfl)) rfl rfl
   ·refine q ⟨.tup (xs ++ ys),.ref p,La ++ Lb,.z⟩ _ (vE hp (rs.append rs') fun c hc=>?_) rfl rfl
    rcases yU.mp hc with h | h
    ·exact ji (y:=⟨.tup xs,.ref pa,La,fa⟩) yK ⟨.tup ha rs,oa⟩ rfl c h
    ·exact ji (y:=⟨.tup ys,.ref pb,Lb,fb⟩) (yM _ (zo.mpr rfl)) ⟨.tup hb rs',ob⟩ rfl c h
 ·exact nsE e
set_option tactic.hygienic true in
theorem vC:OpD K ve yB:=fun a b H Q p ra rb e q=>by
 obtain ⟨da,va,La,fa⟩:=a
 obtain ⟨db,vb,Lb,fb⟩:=b
 obtain ⟨ra,oa⟩:=ra
 obtain ⟨rb,ob⟩:=rb
 dsimp only at ra rb
 cases da <;> try (exact nsE e)
 rename_i xs
 obtain ⟨pa,vs,La,rfl,rfl,ha,rs⟩:=ra.view
 cases db <;> try (exact nsE e)
 rename_i ys
 obtain ⟨pb,ws,Lb,rfl,rfl,hb,rs'⟩:=rb.view
 have e:(if xs.length+ys.length<=16777216 then some (D.lst (xs ++ ys),Fl.u) else none)=some p:=e
 split at e
 ·rename_i hl
  cases e
  refine ⟨pa,pb,vs,ws,rfl,rfl,ha,hb,by rw [<- rs.len,<- rs'.len,<- szl];exact hl,fun p hp=>?_⟩
  refine q ⟨.lst (xs ++ ys),.ref p,p :: (La ++ Lb),.u⟩ _ (qL hp (rs.append rs') fun c hc=>?_) rfl rfl
  rcases yU.mp hc with h | h
  ·exact m9 (y:=⟨.lst xs,.ref pa,pa :: La,fa⟩) yK ⟨.lst ha rs,oa⟩ rfl rfl c h
  ·exact m9 (y:=⟨.lst ys,.ref pb,pb :: Lb,fb⟩) (yM _ (zo.mpr rfl)) ⟨.lst hb rs',ob⟩ rfl rfl c h
 ·exact nsE e
set_option tactic.hygienic true in
theorem od_catS:OpD K (fun x y H Q=>∃ i j,x=.str i/\y=.str j/\i.length+j.length<=sizeLine/\Q (.str (i ++ j)) H) yA:=fun a b H Q p ra rb e q=>by
 obtain ⟨da,va,La,fa⟩:=a
 obtain ⟨db,vb,Lb,fb⟩:=b
 obtain ⟨ra,oa⟩:=ra
 obtain ⟨rb,ob⟩:=rb
 dsimp only at ra rb
 cases da <;> try (exact nsE e)
 rename_i i
 obtain ⟨rfl,rfl⟩:=ra.view
 cases db <;> try (exact nsE e)
 rename_i j
 obtain ⟨rfl,rfl⟩:=rb.view
 have e:(if i.length+j.length<=16777216 then some (D.str (i ++ j),Fl.z) else none)=some p:=e
 split at e
 ·rename_i hl
  cases e
  exact ⟨i,j,rfl,rfl,by rw [<- szl];exact hl,q ⟨.str (i ++ j),.str (i ++ j),[],.z⟩ H (fF (.str _)) rfl rfl⟩
 ·exact nsE e
noncomputable abbrev fj:=orD addI (orD yA (orD yz yB))
theorem cC:OpD K (fun x y H Q=>rI0 (fun i j=>.int (i+j)) x y H Q\/((∃ i j,x=.str i/\y=.str j/\i.length+j.length<=sizeLine/\Q (.str (i ++ j)) H)\/((pz K x y H Q\/lB K x y H Q)\/ve x y H Q))) fj:=od_addI.or (od_catS.or (od_catT.or vC))
theorem bM:OpR X (binaryOp .Add) (fun x y H Q=>rI0 (fun i j=>.int (i+j)) x y H Q\/((∃ i j,x=.str i/\y=.str j/\i.length+j.length<=sizeLine/\Q (.str (i ++ j)) H)\/((pz X.K x y H Q\/lB X.K x y H Q)\/ve x y H Q))):=op_add.or (op_add_str.or ((op_catT.or sZ).or xM))
noncomputable def eqS:D->D->Option Bool
 | .non,.non=>some true | .non,.int _=>some false | .int _,.non=>some false | .non,.bl _=>some false | .bl _,.non=>some false | .non,.str _=>some false | .str _,.non=>some false
 | .int i,.int j=>some (decide (i=j)) | .bl i,.bl j=>some (decide (i=j)) | .str i,.str j=>some (decide (i=j))
 | .int _,.str _=>some false | .str _,.int _=>some false | .bl _,.str _=>some false | .str _,.bl _=>some false
 | _,_=>none
theorem tZ {a b:D} {u v:V} {L L':List Addr} {k:Bool} (ra:Rep K H a u L) (rb:Rep K H b v L') (e:eqS a b=some k):xi u v=true/\k=decide (u=v):=by
 cases a <;> cases b <;> first | exact nsE e | (obtain ⟨rfl,rfl⟩:=ra.view;obtain ⟨rfl,rfl⟩:=rb.view;cases e;exact ⟨rfl,by simp⟩)
noncomputable def tM:D->Bool
 | .non=>true
 | _=>false
noncomputable def isN:D->D->Option (D × Fl)
 | a,.non=>some (.bl (tM a),.z)
 | _,_=>none
theorem Rep.non_iff {a:D} {u:V} (ra:Rep K H a u L):tM a=decide (u=.non):=by cases ra <;> simp [tM]
theorem xO:OpD K (fun x y H Q=>y=.non/\Q (.bl (decide (x=.non))) H) isN:=fun a b H Q p ra rb e q=>by
 obtain ⟨db,vb,Lb,fb⟩:=b
 obtain ⟨rb,ob⟩:=rb
 dsimp only at rb
 cases db <;> try (exact nsE e)
 obtain ⟨rfl,rfl⟩:=rb.view
 unfold isN at e
 cases e
 refine ⟨rfl,?_⟩
 rw [<- ra.rep.non_iff]
 exact q ⟨_,_,[],.z⟩ H (fF (.bl _)) rfl rfl
noncomputable def tf:D->Option (D × Fl)
 | .int i=>some (.int (-i),.z)
 | _=>none
theorem lq:UnD K (rU fun i=>.int (-i)) tf:=fun a H Q p ra e q=>by
 obtain ⟨da,va,La,fa⟩:=a
 obtain ⟨ra,oa⟩:=ra
 dsimp only at ra
 cases da <;> try (exact nsE e)
 obtain ⟨rfl,rfl⟩:=ra.view
 cases e
 exact ⟨_,rfl,q ⟨_,_,[],.z⟩ H (fF (.int _)) rfl rfl⟩
theorem Reps.at:∀ {ds:List D} {vs:List V} {L:List Addr} {i:Nat} {d:D},Reps (Rep K H) ds vs L->ds[i]?=some d->∃ v L',vs[i]?=some v/\Rep K H d v L'/\∀ c ∈ L',c ∈ L
 | _,_,_,_,_,.nil,h=>by simp at h
 | _,_,_,0,_,.cons r _,h=>by simp at h;subst h;exact ⟨_,_,rfl,r,fun c hc=>yP _ hc⟩
 | _,_,_,i+1,_,.cons _ t,h=>by
  obtain ⟨v,L',h1,h2,h3⟩:=Reps.at (i:=i) t (by simpa using h)
  exact ⟨v,L',by simpa using h1,h2,fun c hc=>yQ _ (h3 c hc)⟩
theorem Reps.atI {ds:List D} {vs:List V} {i:Int} {d:D} (r:Reps (Rep K H) ds vs L) (h:atI ds i=some d):∃ v L',atI vs i=some v/\Rep K H d v L'/\∀ c ∈ L',c ∈ L:=by
 unfold L2.atI at h ⊢
 rw [<- r.len]
 cases e:ixN ds.length i with
 | none=>rw [e] at h;exact nsE h
 | some j=>rw [e] at h;exact r.at h
noncomputable def ixD:D->D->Option (D × Fl)
 | .lst xs,.int i=>(atI xs i).map fun d=>(d,.z)
 | .fls xs,.int i=>(atI xs i).map fun d=>(d,.z)
 | .tup xs,.int i=>(atI xs i).map fun d=>(d,.z)
 | _,_=>none
set_option tactic.hygienic true in
theorem od_ix:OpD K (fun x y H Q=>sH K x y H Q\/sG K x y H Q) ixD:=fun a b H Q p ra rb e q=>by
 obtain ⟨da,va,La,fa⟩:=a
 obtain ⟨db,vb,Lb,fb⟩:=b
 obtain ⟨rb,ob⟩:=rb
 have ra0:=ra
 obtain ⟨ra,oa⟩:=ra
 dsimp only at ra rb
 cases da <;> try (exact nsE e)
 all_goals (cases db <;> try (exact nsE e))
 all_goals (rename_i xs i;obtain ⟨rfl,rfl⟩:=rb.view)
 ·obtain ⟨pa,vs,rfl,ha,rs⟩:=ra.view
  obtain ⟨d,h1,h2⟩:=yO.mp (show (atI xs i).map (fun d=>(d,Fl.z))=some p from e)
  subst h2
  obtain ⟨v,L',g1,g2,g3⟩:=rs.atI h1
  refine .inr ⟨pa,vs,i,v,rfl,rfl,SqT.of ha,g1,q ⟨d,v,L',.z⟩ H (mQ g2 fun c hc=>?_) rfl rfl⟩
  exact ji (y:=⟨.tup xs,.ref pa,La,fa⟩) yK ra0 rfl c (g3 c hc)
 ·obtain ⟨pa,vs,La,rfl,rfl,ha,rs⟩:=ra.view
  obtain ⟨d,h1,h2⟩:=yO.mp (show (atI xs i).map (fun d=>(d,Fl.z))=some p from e)
  subst h2
  obtain ⟨v,L',g1,g2,g3⟩:=rs.atI h1
  refine .inl ⟨pa,vs,i,v,rfl,rfl,SqL.of ha,g1,q ⟨d,v,L',.z⟩ H (mQ g2 fun c hc=>?_) rfl rfl⟩
  exact m9 (y:=⟨.lst xs,.ref pa,pa :: La,fa⟩) yK ra0 rfl rfl c (g3 c hc)
 ·obtain ⟨pa,vs,rfl,ha,rs⟩:=ra.view
  obtain ⟨d,h1,h2⟩:=yO.mp (show (atI xs i).map (fun d=>(d,Fl.z))=some p from e)
  subst h2
  obtain ⟨v,L',g1,g2,g3⟩:=rs.atI h1
  refine .inl ⟨pa,vs,i,v,rfl,rfl,ha.sq,g1,q ⟨d,v,L',.z⟩ H (mQ g2 fun c hc=>?_) rfl rfl⟩
  exact ji (y:=⟨.fls xs,.ref pa,La,fa⟩) yK ra0 rfl c (g3 c hc)
theorem ix_ok:IxR X (fun x y H Q=>sH X.K x y H Q\/sG X.K x y H Q):=ix_list.or ye
end
end L3
end
section
namespace L3
open PySem L2
section
variable {K:FG} {H:Hp} {Ks:Addr->Prop} {d:D} {v:V} {L:List Addr} {X:Cx}
noncomputable def c1 (f:D->Option (D × Fl)):List D->Option (D × Fl)
 | [d]=>f d
 | _=>none
noncomputable def c2 (f:D->D->Option (D × Fl)):List D->Option (D × Fl)
 | [d,d']=>f d d'
 | _=>none
theorem km {ys:List It3} {f:D->Option (D × Fl)} {p:D × Fl} (e:c1 f (ys.map (·.d))=some p):∃ y,ys=[y]/\f y.d=some p:=by
 match ys,e with
 | [],e=>exact nsE e
 | [y],e=>exact ⟨y,rfl,e⟩
 | _ :: _ :: _,e=>exact nsE e
theorem l6 {ys:List It3} {f:D->D->Option (D × Fl)} {p:D × Fl} (e:c2 f (ys.map (·.d))=some p):∃ y z,ys=[y,z]/\f y.d z.d=some p:=by
 match ys,e with
 | [],e=>exact nsE e
 | [_],e=>exact nsE e
 | [y,z],e=>exact ⟨y,z,rfl,e⟩
 | _ :: _ :: _ :: _,e=>exact nsE e
noncomputable def xY:D->Option (D × Fl)
 | .lst xs=>some (.int xs.length,.z)
 | .fls xs=>some (.int xs.length,.z)
 | .tup xs=>some (.int xs.length,.z)
 | _=>none
noncomputable abbrev df:=c1 xY
set_option tactic.hygienic true in
theorem bH:eM K (fun xs H Q=>∃ p ys,xs=[.ref p]/\(SqL K H p ys\/SqT K H p ys)/\Q (.int ys.length) H) df:=fun ys H Q p ra e q=>by
 obtain ⟨y,rfl,e2⟩:=km e
 clear e
 have e:=e2
 clear e2
 have rr:=(ra y yK).rep
 obtain ⟨da,va,La,fa⟩:=y
 dsimp only at rr e
 cases da <;> try (exact nsE e)
 ·rename_i xs
  obtain ⟨pa,vs,rfl,ha,rs⟩:=rr.view
  cases e
  exact ⟨pa,vs,rfl,.inr (SqT.of ha),by rw [<- rs.len];exact q ⟨_,_,[],.z⟩ H (fF (.int _)) rfl rfl⟩
 ·rename_i xs
  obtain ⟨pa,vs,La,rfl,rfl,ha,rs⟩:=rr.view
  cases e
  exact ⟨pa,vs,rfl,.inl (SqL.of ha),by rw [<- rs.len];exact q ⟨_,_,[],.z⟩ H (fF (.int _)) rfl rfl⟩
 ·rename_i xs
  obtain ⟨pa,vs,rfl,ha,rs⟩:=rr.view
  cases e
  exact ⟨pa,vs,rfl,.inl ha.sq,by rw [<- rs.len];exact q ⟨_,_,[],.z⟩ H (fF (.int _)) rfl rfl⟩
noncomputable def tupQ:D->Option (D × Fl)
 | .lst xs=>some (.tup xs,.z)
 | .tup xs=>some (.tup xs,.z)
 | _=>none
noncomputable abbrev kr:=c1 tupQ
set_option tactic.hygienic true in
theorem gf:eM K (fun xs H Q=>∃ p ys,xs=[.ref p]/\((SqL K H p ys/\∀ l,H l=none->Q (.ref l) (upd H l (.tup ys)))\/(SqT K H p ys/\Q (.ref p) H))) kr:=fun ys H Q p ra e q=>by
 obtain ⟨y,rfl,e2⟩:=km e
 clear e
 have e:=e2
 clear e2
 have ry:=ra y yK
 have rr:=ry.rep
 obtain ⟨da,va,La,fa⟩:=y
 dsimp only at rr e
 cases da <;> try (exact nsE e)
 ·rename_i xs
  obtain ⟨pa,vs,rfl,ha,rs⟩:=rr.view
  cases e
  exact ⟨pa,vs,rfl,.inr ⟨SqT.of ha,q ⟨.tup xs,.ref pa,La,.z⟩ H (mQ (.tup ha rs) (ji (y:=⟨.tup xs,.ref pa,La,fa⟩) yK ry rfl)) rfl rfl⟩⟩
 ·rename_i xs
  obtain ⟨pa,vs,La,rfl,rfl,ha,rs⟩:=rr.view
  cases e
  exact ⟨pa,vs,rfl,.inl ⟨SqL.of ha,fun l hl=>q ⟨.tup xs,.ref l,La,.z⟩ _ (vE hl rs (m9 (y:=⟨.lst xs,.ref pa,pa :: La,fa⟩) yK ry rfl rfl)) rfl rfl⟩⟩
noncomputable def absQ:D->Option (D × Fl)
 | .int i=>some (.int (if i < 0 then -i else i),.z)
 | _=>none
theorem Rep.int_inv {i:Int} (r:Rep K H (.int i) v L):v=.int i:=by cases r;rfl
noncomputable def nb (C:Int->Int->Bool) (g:Int->Int->D):D->D->Option (D × Fl)
 | .int i,.int j=>if C i j then some (g i j,.z) else none
 | _,_=>none
set_option tactic.hygienic true in
theorem iK {a b:D} {C:Int->Int->Bool} {g:Int->Int->D} {p:D × Fl} (e:nb C g a b=some p):∃ i j,a=.int i/\b=.int j/\C i j=true/\p=(g i j,.z):=by
 cases a <;> cases b <;> try (exact nsE e)
 rename_i i j
 have e:(if C i j then some (g i j,Fl.z) else none)=some p:=e
 split at e
 ·rename_i h;cases e;exact ⟨i,j,rfl,rfl,h,rfl⟩
 ·exact nsE e
noncomputable abbrev wz:=c2 (nb nR fun i j=>.int (if j > i then j else i))
noncomputable abbrev wx:=c2 (nb nR fun i j=>.int (if j < i then j else i))
noncomputable abbrev t5:=c2 (nb (fun _ j=>decide (0 < j/\j < 1073741824)) fun i j=>.tup [.int (i / j),.int (i % j)])
theorem vW:eM K (fun xs H Q=>∃ i j,xs=[.int i,.int j]/\Q (.int (if j > i then j else i)) H) wz:=fun ys H Q p ra e q=>by
 obtain ⟨y,z,rfl,e2⟩:=l6 e
 clear e
 have e:=e2
 clear e2
 obtain ⟨i,j,ei,ej,_,rfl⟩:=iK e
 have r1:=(ra y yK).rep
 have r2:=(ra z (yM _ yK)).rep
 rw [ei] at r1
 rw [ej] at r2
 refine ⟨i,j,?_,q ⟨_,_,[],.z⟩ H (fF (.int _)) rfl rfl⟩
 show [y.v,z.v]=_
 rw [r1.int_inv,r2.int_inv]
theorem vV:eM K (fun xs H Q=>∃ i j,xs=[.int i,.int j]/\Q (.int (if j < i then j else i)) H) wx:=fun ys H Q p ra e q=>by
 obtain ⟨y,z,rfl,e2⟩:=l6 e
 clear e
 have e:=e2
 clear e2
 obtain ⟨i,j,ei,ej,_,rfl⟩:=iK e
 have r1:=(ra y yK).rep
 have r2:=(ra z (yM _ yK)).rep
 rw [ei] at r1
 rw [ej] at r2
 refine ⟨i,j,?_,q ⟨_,_,[],.z⟩ H (fF (.int _)) rfl rfl⟩
 show [y.v,z.v]=_
 rw [r1.int_inv,r2.int_inv]
theorem rl:eM K (fun xs H Q=>∃ i j,xs=[.int i,.int j]/\rG i j/\∀ p,H p=none->Q (.ref p) (upd H p (.tup [.int (i / j),.int (i % j)]))) t5:=fun ys H Q p ra e q=>by
 obtain ⟨y,z,rfl,e2⟩:=l6 e
 clear e
 have e:=e2
 clear e2
 obtain ⟨i,j,ei,ej,hc,rfl⟩:=iK e
 have r1:=(ra y yK).rep
 have r2:=(ra z (yM _ yK)).rep
 rw [ei] at r1
 rw [ej] at r2
 refine ⟨i,j,?_,by simpa [rG] using hc,fun p hp=>q ⟨_,.ref p,[],.z⟩ _ (vE hp (L:=[]) (.cons (L:=[]) (.int _) (.cons (L:=[]) (.int _) .nil)) fun c hc=>by cases hc) rfl rfl⟩
 show [y.v,z.v]=_
 rw [r1.int_inv,r2.int_inv]
noncomputable def fB:List D->Option (List Bool)
 | []=>some []
 | .bl b :: ds=>(fB ds).map (b :: ·)
 | _=>none
set_option tactic.hygienic true in
theorem kn:∀ {ds:List D} {bs:List Bool},fB ds=some bs->ds=bs.map D.bl
 | [],bs,e=>by cases e;rfl
 | d :: ds,bs,e=>by
  cases d <;> try (exact nsE e)
  rename_i b
  obtain ⟨r,h1,h2⟩:=yO.mp (show (fB ds).map (b :: ·)=some bs from e)
  subst h2
  rw [kn h1];rfl
theorem Reps.bls:∀ {bs:List Bool} {vs:List V} {L:List Addr},Reps (Rep K H) (bs.map D.bl) vs L->vs=bs.map V.bl
 | [],_,_,.nil=>rfl
 | b :: bs,_,_,.cons r rs=>by
  rw [Reps.bls rs]
  cases r;rfl
noncomputable def yF:D->Option (D × Fl)
 | .lst xs=>(fB xs).map fun bs=>(.bl (bs.all id),.z)
 | _=>none
noncomputable abbrev wb:=c1 yF
set_option tactic.hygienic true in
theorem oT:eM K (fun xs H Q=>∃ (a:Addr) (bs:List Bool),xs=[.ref a]/\SqL K H a (bs.map V.bl)/\Q (.bl (bs.all id)) H) wb:=fun ys H Q p ra e q=>by
 obtain ⟨y,rfl,e2⟩:=km e
 clear e
 have e:=e2
 clear e2
 have rr:=(ra y yK).rep
 obtain ⟨da,va,La,fa⟩:=y
 dsimp only at rr e
 cases da <;> try (exact nsE e)
 rename_i xs
 obtain ⟨pa,vs,La,rfl,rfl,ha,rs⟩:=rr.view
 obtain ⟨bs,h1,h2⟩:=yO.mp (show (fB xs).map (fun bs=>(D.bl (bs.all id),Fl.z))=some p from e)
 subst h2
 have:=kn h1
 subst this
 have:=rs.bls
 subst this
 exact ⟨pa,bs,rfl,SqL.of ha,q ⟨_,_,[],.z⟩ H (fF (.bl _)) rfl rfl⟩
noncomputable def kG (xs:List D) (lo hi:Option Int):List D:=(xs.drop (HT.sIx xs.length 0 lo)).take (HT.sIx xs.length xs.length hi - HT.sIx xs.length 0 lo)
end
end L3
end
section
namespace L3
open PySem L2
noncomputable def wq:D->Option (List D)
 | .lst xs=>some xs
 | .fls xs=>some xs
 | .tup xs=>some xs
 | _=>none
noncomputable def cq (m:EM):IM:=ac m fun r=>ac (der r) fun d=>bh ((wq d).map fun ds=>([r],ds))
noncomputable def iSeq (K:FG) (tl:TE):TI:=fun σ H R=>tl σ H fun x H1=>(∃ a,x=.ref a/\(∃ xs,SqL K H1 a xs)/\R (Itl K a) H1)\/∃ a,x=.ref a/\(∃ xs,SqT K H1 a xs)/\R (Itt K a) H1
theorem xA {X:Cx} {tg l:Expr} {tl:TE} (hl:PE X l tl):PI X tg l (iSeq X.K tl):=by
 intro pins s σ H R I h
 exact thn (hl pins s σ H _ I h) fun v s1 ⟨x,H1,I1,r1,q1⟩=>by
   rcases q1 with ⟨a,e,⟨xs,hq⟩,q⟩ | ⟨a,e,⟨xs,hq⟩,q⟩
   ·subst e
    cases r1
    obtain ⟨its,rv,p,hz⟩:=I1.list hq
    refine wpAny_pyIter_list p.isList ?_
    refine ⟨s1.heap.objs.size,[s1.heap.objs.size],_,_,H1,rfl,I1.kept (t':=s1.toks) fun b o e=>yN _ e,qo a _,⟨_,yV _ rfl,rfl,rfl⟩,fun b hb=>?_,q⟩
    have e:b=s1.heap.objs.size:=by simpa using hb
    subst e
    exact I1.fpOk (y8 _) (I1.hok.fresh (y8 _))
   ·subst e
    cases r1
    obtain ⟨its,rv,p,hz⟩:=I1.tuple hq
    refine wpAny_pyIter_tuple (show s1.heap.IsTuple a its.toArray from p) ?_
    refine ⟨s1.heap.objs.size,[s1.heap.objs.size],_,_,H1,rfl,I1.kept (t':=s1.toks) fun b o e=>yN _ e,nU a _,⟨_,yV _ rfl,rfl,rfl⟩,fun b hb=>?_,q⟩
    have e:b=s1.heap.objs.size:=by simpa using hb
    subst e
    exact I1.fpOk (y8 _) (I1.hok.fresh (y8 _))
section
variable {K:FG} {G G0:Gm} {W W0:D->Sto->Prop} {H H':Hp} {σ:St} {ρ ρ':Sto} {T T':List It3} {g:Nat->Option It3} {x y z:It3} {α β:Type} {X:Cx}
theorem Ar.item2 {r:R3} {v:V} {Ts:List It3} {d:D} (w:Wf K G H σ ρ (Ts ++ T) g) (a:Ar σ r v Ts) (e:der r ρ=some (.ok d,ρ)):∃ y,y.d=d/\y.v=v/\((∃ i,i ∈ pls [r]/\g i=some y)\/y ∈ Ts):=by
 cases a with
 | @pl i v h =>
  have er:der (.pl i) ρ=((ρ[i]?).join).map fun p=>(.ok p.1,ρ):=rfl
  rw [er] at e
  cases q:(ρ[i]?).join with
  | none=>rw [q] at e;exact nsE e
  | some p =>
   rw [q] at e
   obtain ⟨y,e1,e2,e3,e4⟩:=w.slot (d:=p.1) (f:=p.2) q
   have e5:p.1=d:=by cases e;rfl
   rw [h] at e4
   injection e4 with e4
   injection e4 with e4
   exact ⟨y,e2.trans e5,e4.symm,.inl ⟨i,yK,e1⟩⟩
 | val x=>cases e;exact ⟨x,rfl,rfl,.inr (by simp)⟩
theorem ln {J:It} {H1:Hp} {y:It3} {ds:List D} {vs:List V} {L0:List Addr} (hr:Reps (Rep K H1) ds vs L0) (hk:∀ c ∈ L0,dQ [y] c) (hL:∀ c ∈ L0,c ∈ y.L)
  (hgo:∀ (M:Addr->Prop) (H':Hp),(∀ b,M b->MutAt H1 b)->(∀ b o,H1 b=some o->¬ M b->H' b=some o)->(∀ b ∈ y.L,¬ M b)->(∀ (i:Nat) (v:V),vs[i]?=some v->J.go i H'/\∀ x H'',J.yld i H' x H''->H''=H'/\x=v)/\J.stop vs.length H'):Walk K J H1 [y] ds:=by
 obtain ⟨ws,h1,h2,h3⟩:=Reps.split hr
 refine ⟨ws,fun x hx=>⟨(h3 x hx).1,(h3 x hx).2.1,fun c hc=>hk c ((h3 x hx).2.2 c hc)⟩,fun M H' hm hkp hM=>?_⟩
 obtain ⟨go,stop⟩:=hgo M H' hm hkp (hM y yK)
 refine ⟨fun i d hd=>?_,by rw [hr.len];exact stop⟩
 have hi:∃ u,ws[i]?=some u/\u.d=d:=by
  rw [<- h1,y7] at hd
  obtain ⟨u,a,b⟩:=yO.mp hd
  exact ⟨u,a,b⟩
 obtain ⟨u,eu,ud⟩:=hi
 have hv:vs[i]?=some u.v:=by rw [<- h2,y7,eu];rfl
 obtain ⟨g1,g2⟩:=go i u.v hv
 refine ⟨g1,fun x H'' hy=>?_⟩
 obtain ⟨e1,e2⟩:=g2 x H'' hy
 subst e1 e2
 have hu:=yY eu
 refine ⟨u,⟨Same.refl _,(h3 u hu).2.1.keep hkp hm fun b hb=>hM y yK b (hL b ((h3 u hu).2.2 b hb)),fun c hc=>.inr ⟨u,hu,hc⟩,fun hf=>absurd (h3 u hu).1 hf⟩,ud,(h3 u hu).1,rfl⟩
theorem kJ {y:It3} {a:Addr} {ds:List D} {vs:List V} (hq:∀ H',SqL K H' a vs->True) (hs:∀ (M:Addr->Prop) (H':Hp),(∀ b,M b->MutAt H b)->(∀ b o,H b=some o->¬ M b->H' b=some o)->(∀ b ∈ y.L,¬ M b)->SqL K H' a vs) :
  ∀ (M:Addr->Prop) (H':Hp),(∀ b,M b->MutAt H b)->(∀ b o,H b=some o->¬ M b->H' b=some o)->(∀ b ∈ y.L,¬ M b)->(∀ (i:Nat) (v:V),vs[i]?=some v->(Itl K a).go i H'/\∀ x H'',(Itl K a).yld i H' x H''->H''=H'/\x=v)/\(Itl K a).stop vs.length H':=fun M H' hm hk hM=>by
 have sq:SqL K H' a vs:=hs M H' hm hk hM
 refine ⟨fun i v hv=>⟨⟨vs,v,sq,hv⟩,fun x H'' ⟨e1,e2⟩=>⟨e1,?_⟩⟩,⟨vs,sq,y8 _⟩⟩
 have:=e2 vs sq
 rw [hv] at this
 injection this with this
 exact this.symm
theorem wW {m:EM} {R:It->Hp->Prop} (h:tI K G0 W0 (cq m) σ H R):iSeq K (tE K G0 W0 m) σ H R:=by
 obtain ⟨G,W,le,ρ,T,g,o,ρ',w,e,q⟩:=h
 have herr:∀ x,o=.error x->W x ρ':=fun x hx=>by subst hx;exact q
 refine tE.seq le w e herr fun ra ρ1 e1 v H1 ⟨Ts,g1,w1,a1⟩=>?_
 obtain ⟨d,d1,e2⟩:=aV e1
 obtain ⟨p,e3,rfl,rfl⟩:=bW e2
 obtain ⟨ds,e4,e5⟩:=yO.mp e3
 subst e5
 obtain ⟨y,y1,y2,y3⟩:=a1.item2 w1 d1
 have hy:Itm (Ts ++ T) g1 y:=by
  rcases y3 with ⟨i,_,ei⟩ | h
  ·exact .inl ⟨i,ei⟩
  ·exact .inr (yP _ h)
 have ar:=(w1.itm hy).arg
 have qq:∀ J,Walk K J H1 [y] ds->R J H1:=fun J hw=>q J H1 [v] Ts g1 [y] w1 (by simpa using Ars.cons a1 .nil) (fun z hz=>by rw [zo.mp hz];exact y3) hw
 clear e1 e2 e3 q
 subst y1 y2
 have ar0:=ar
 obtain ⟨da,va,La,fa⟩:=y
 obtain ⟨rr,oo⟩:=ar
 dsimp only at rr e4
 cases da with
 | tup xs =>
  obtain ⟨pa,vs,rfl,ha,rs⟩:=rr.view
  cases e4
  refine .inr ⟨pa,rfl,⟨_,SqT.of ha⟩,qq _ (ln rs (ji (y:=⟨.tup ds,.ref pa,La,fa⟩) yK ar0 rfl) (fun c hc=>hc) fun M H' hm hk hM=>?_)⟩
  have sq:SqT K H' pa vs:=SqT.of (hk pa _ ha fun z=>(hm pa z).notup ha)
  refine ⟨fun i v hv=>⟨⟨vs,v,sq,hv⟩,fun x H'' ⟨e1,e2⟩=>⟨e1,?_⟩⟩,⟨vs,sq,y8 _⟩⟩
  have:=e2 vs sq
  rw [hv] at this
  injection this with this
  exact this.symm
 | lst xs =>
  obtain ⟨pa,vs,La,rfl,rfl,ha,rs⟩:=rr.view
  cases e4
  refine .inl ⟨pa,rfl,⟨_,SqL.of ha⟩,qq _ (ln rs (m9 (y:=⟨.lst ds,.ref pa,pa :: La,fa⟩) yK ar0 rfl rfl) (fun c hc=>yM _ hc) (kJ (ds:=ds) (fun _ _=>trivial) fun M H' hm hk hM=>SqL.of (hk pa _ ha (hM pa yK))))⟩
 | fls xs =>
  obtain ⟨pa,vs,rfl,ha,rs⟩:=rr.view
  cases e4
  refine .inl ⟨pa,rfl,⟨_,ha.sq⟩,qq _ (ln rs (ji (y:=⟨.fls ds,.ref pa,La,fa⟩) yK ar0 rfl) (fun c hc=>hc) (kJ (ds:=ds) (fun _ _=>trivial) fun M H' hm hk hM=>(ha.keep hk hm).sq))⟩
 | _=>exact nsE e4
theorem cf {tg l:Expr} {m:EM} (h:RE X G0 W0 l m):RI X G0 W0 tg l (cq m):=⟨PI.imp (xA h.h) fun _ _ _ h=>wW h⟩
noncomputable def aY (lo:Int) (n:Nat):List D:=(List.range n).map fun (k:Nat)=>D.int (lo+(k:Int))
theorem me {H1:Hp} {ys:List It3} {lo:Int} {n:Nat}:Walk K (Itr lo n) H1 ys (aY lo n):=by
 refine ⟨[],fun x hx=>(by cases hx),fun M H' _ _ _=>⟨fun i d hd=>?_,?_⟩⟩
 ·unfold aY at hd
  rw [y7] at hd
  obtain ⟨k,a,b⟩:=yO.mp hd
  obtain ⟨hk,e⟩:=yX.mp a
  rw [List.getElem_range] at e
  subst e
  rw [List.length_range] at hk
  refine ⟨hk,fun x H'' ⟨e1,e2⟩=>?_⟩
  subst e1
  exact ⟨⟨d,x,[],.z⟩,fF (by rw [<- b,e2];exact .int _),rfl,rfl,rfl⟩
 ·show n<=(aY lo n).length
  unfold aY
  simp
noncomputable def fw (j:Int):Bool:=decide (-(2 ^ 62)<=j/\j < 2 ^ 62)
noncomputable def c5:List D->Option (List D)
 | [.int j]=>if fw j then some (aY 0 j.toNat) else none
 | _=>none
noncomputable def jN:List D->Option (List D)
 | [.int i,.int j]=>if fw i && fw j then some (aY i (j - i).toNat) else none
 | _=>none
noncomputable def bI (f:List D->Option (List D)) (ms:M3 (List R3)):IM:=ac ms fun rs=>ac (eh rs) fun ds=>bh ((f ds).map fun xs=>([],xs))
set_option tactic.hygienic true in
theorem uI {ms:M3 (List R3)} {R:It->Hp->Prop} (h:tI K G0 W0 (bI c5 ms) σ H R):wD (tA K G0 W0 ms) σ H R:=by
 obtain ⟨G,W,le,ρ,T,g,o,ρ',w,e,q⟩:=h
 have herr:∀ x,o=.error x->W x ρ':=fun x hx=>by subst hx;exact q
 refine tA.seq le w e herr fun rs ρ1 e1 vs H1 Ts g1 w1 a1=>?_
 obtain ⟨ds,d1,e2⟩:=cR e1
 obtain ⟨p,e3,rfl,rfl⟩:=bW e2
 obtain ⟨xs,e4,e5⟩:=yO.mp e3
 subst e5
 obtain ⟨ys,i1,f1,f2⟩:=a1.items w1 (fun x hx=>yP _ hx) d1
 subst f1 f2
 match ys,e4,i1,a1 with
 | [],e4,_,_=>exact nsE e4
 | y :: z :: r,e4,_,_=>cases hd:y.d <;> (rw [zc,zc,hd] at e4;exact nsE e4)
 | [y],e4,i1,a1 =>
  have rr:=(w1.itm (i1 y yK)).rep
  cases hd:y.d <;> (rw [zc,hd] at e4;try (exact nsE e4))
  rename_i j
  rw [hd] at rr
  have e4:(if fw j then some (aY 0 j.toNat) else none)=some xs:=e4
  split at e4
  ·rename_i hj
   cases e4
   have hj:=of_decide_eq_true hj
   refine ⟨j,by show [y.v]=_;rw [rr.int_inv],hj.1,hj.2,?_⟩
   exact q _ H1 [] [] g1 [] (w1.sub (yZ Ts T)) .nil (fun _ h=>by cases h) me
  ·exact nsE e4
set_option tactic.hygienic true in
theorem uH {ms:M3 (List R3)} {R:It->Hp->Prop} (h:tI K G0 W0 (bI jN ms) σ H R):wC (tA K G0 W0 ms) σ H R:=by
 obtain ⟨G,W,le,ρ,T,g,o,ρ',w,e,q⟩:=h
 have herr:∀ x,o=.error x->W x ρ':=fun x hx=>by subst hx;exact q
 refine tA.seq le w e herr fun rs ρ1 e1 vs H1 Ts g1 w1 a1=>?_
 obtain ⟨ds,d1,e2⟩:=cR e1
 obtain ⟨p,e3,rfl,rfl⟩:=bW e2
 obtain ⟨xs,e4,e5⟩:=yO.mp e3
 subst e5
 obtain ⟨ys,i1,f1,f2⟩:=a1.items w1 (fun x hx=>yP _ hx) d1
 subst f1 f2
 have inv:∀ {ds:List D},jN ds=some xs->∃ i j,ds=[.int i,.int j]/\fw i=true/\fw j=true/\xs=aY i (j - i).toNat:=fun {ds} h=>by
  unfold jN at h
  split at h
  ·rename_i i j
   split at h
   ·rename_i hh
    cases h
    simp only [Bool.and_eq_true] at hh
    exact ⟨i,j,rfl,hh.1,hh.2,rfl⟩
   ·exact nsE h
  ·exact nsE h
 obtain ⟨i,j,eds,hi,hj,rfl⟩:=inv e4
 match ys,eds,i1,a1 with
 | [],eds,_,_=>cases eds
 | [y],eds,_,_=>exact absurd (congrArg List.length eds) (by simp)
 | y :: z :: u :: r,eds,_,_=>exact absurd (congrArg List.length eds) (by simp)
 | [y,z],eds,i1,a1 =>
  have r1:=(w1.itm (i1 y yK)).rep
  have r2:=(w1.itm (i1 z (yM _ yK))).rep
  have h1:y.d=.int i:=by injection eds
  have h2:z.d=.int j:=by injection eds with _ h;injection h
  rw [h1] at r1
  rw [h2] at r2
  have hi:=of_decide_eq_true hi
  have hj:=of_decide_eq_true hj
  refine ⟨i,j,by show [y.v,z.v]=_;rw [r1.int_inv,r2.int_inv],⟨hi.1,hi.2,hj.1,hj.2⟩,?_⟩
  exact q _ H1 [] [] g1 [] (w1.sub (yZ Ts T)) .nil (fun _ h=>by cases h) me
theorem cV {tg a:Expr} {p pos:Pos} {ms:M3 (List R3)} (hg:Gl X "range") (hm:X.mg "range"=none) (ha:RA X G0 W0 [a] ms) (hs:starEach [a] X.env=[(false,eval a X.env)]):RI X G0 W0 tg (.Call (.Name "range" p) [a] [] pos) (bI c5 ms):=⟨PI.imp (qE hg hm ha.h hs) fun _ _ _ h=>uI h⟩
theorem pi {tg a b:Expr} {p pos:Pos} {ms:M3 (List R3)} (hg:Gl X "range") (hm:X.mg "range"=none) (ha:RA X G0 W0 [a,b] ms) (hs:starEach [a,b] X.env=[(false,eval a X.env),(false,eval b X.env)]) (hs2:starEach [b] X.env=[(false,eval b X.env)]):RI X G0 W0 tg (.Call (.Name "range" p) [a,b] [] pos) (bI jN ms):=⟨PI.imp (qD hg hm ha.h hs hs2) fun _ _ _ h=>uH h⟩
end
end L3
end
section
namespace L3
open PySem L2
section
variable {K:FG} {G G0:Gm} {W W0:D->Sto->Prop} {H H':Hp} {σ:St} {ρ ρ':Sto} {T T':List It3} {g:Nat->Option It3} {x y z:It3} {α β:Type} {X:Cx} {L:List Addr}
noncomputable def r9 (bnd:D->Sto->Option Sto) (m:EM):SM:=ac m fun r=>ac (eA r) fun p=>fun ρ=>(bnd p.1 ρ).map fun ρ1=>(.ok .nx,ρ1)
theorem wU {bnd:D->Sto->Option Sto} {tg:TG} {m:EM} {E:Ends} (hb:Bnd K G0.pr tg bnd) (h:tS K G0 W0 (r9 bnd m) E σ H):rS (tE K G0 W0 m) tg E σ H:=by
 refine h.use fun G W le ρ T g r ρ' w e q=>?_
 refine tE.seq le w e q.err fun ra ρ1 e1 v H1 ⟨Ts,g1,w1,a1⟩=>?_
 obtain ⟨p,ρ2,g2,x,e2,w2,f1,_,_,f3⟩:=a1.take w1 e1
 have w3:=Wf.lowT (Ts:=[x]) w2
 obtain ⟨ρ3,e3,e4⟩:=yO.mp e2
 cases e4
 rw [<- f3]
 exact hb G H1 σ ρ2 _ T g2 (de x) _ le.pr rfl w3 (by show bnd x.d ρ2=_;rw [f1];exact e3) fun σ2 g3 w4=>q _ _ _ w4
theorem xn {tg e:Expr} {pos:Pos} {bnd:D->Sto->Option Sto} {m:EM} (hg:RG X G0.pr tg bnd) (he:RE X G0 W0 e m) (hs:swapsWithSole [tg] e pos.line X.env=pure false) (hw:swappedStores [tg] e X.env=pure none) (h1:(assignEach [tg] X.env).map (·.2)=[assign tg X.env]):RS X G0 W0 (.Assign [tg] e pos) (r9 bnd m):=by
 obtain ⟨g,a,b⟩:=hg.h
 exact ⟨PS.imp (sN he.h a hs hw h1) fun _ _ _ h=>wU b h⟩
theorem eV {i:Nat} {y:Str} {py spos:Pos} {elt tg iter:Expr} {ifs:List Expr} {scope:Scope} {pos:Pos} {im:IM} {bnd:D->Sto->Option Sto} {cm:M3 Bool} {em:EM} (hN:X.N.Nodup) (hy:X.N[i]?=some y) (hx:Loc X.env.scope y) (NY:List Str) (ix:List (Option Nat)) (hc:X.calm=true) (hi:RI X G0 W0 tg iter im)
  (ht:∀ s H C fp,PTs (aX X NY scope s H C fp) ifs (tT X.K (bK ix) noX cm)) (he:∀ s H C fp,RE (aX X NY scope s H C fp) (bK ix) noX elt em)
  (ck:iM scope X.N X.env.scope NY ix=true) (hij:Inj ix) (hsw:swapsWith (.ListComp elt [⟨tg,iter,ifs,0⟩] scope pos) (some (.Name y py)) spos.line X.env=pure true) (hf:X.fn y=true\/X.env.scope.names.lookup y=some .local)
  (hs:∀ x,foldedSetIterable iter X.env x=pure x) (hp:G0.pr i=false) (hgu:∃ tg',Bnd X.K (bK ix).pr tg' bnd/\∀ s H C fp,PG (aX X NY scope s H C fp) tg tg'):RS X G0 W0 (.Assign [.Name y py] (.ListComp elt [⟨tg,iter,ifs,0⟩] scope pos) spos) (bp i (bR im bnd cm em ix)):=by
 obtain ⟨tg',b1,b2⟩:=hgu
 exact ⟨PS.imp (oq hN hy hx NY ix hc hi.h b2 ht (fun s H C fp=>(he s H C fp).h) ck hsw hf hs) fun _ _ _ h=>nW szl hij b1 hp h⟩
noncomputable def isL:D->Bool
 | .lst _=>true
 | _=>false
theorem fZ:∀ d v L H,isL d=true->Rep K H d v L->tyV K "list" v H:=fun d v L H h r=>by
 cases r with
 | lst ha _=>exact .inl ⟨rfl,_,SqL.of ha⟩
 | _=>cases h
noncomputable def jq:D->List D->Option (D × D)
 | .lst xs,[d]=>if xs.length < 16777216 then some (.lst (xs ++ [d]),.non) else none
 | _,_=>none
set_option tactic.hygienic true in
theorem jX:MutD K pA jq:=fun a d L0 as H Q p r m na ra nA e q=>by
 cases d with
 | lst xs =>
  obtain ⟨_,vs,_,e1,e2,ha,rs⟩:=r.view
  cases e1
  cases e2
  match as,e,ra,nA with
  | [],e,_,_=>exact nsE e
  | _ :: _ :: _,e,_,_=>exact nsE e
  | [y],e,ra,nA =>
   have e:(if xs.length < 16777216 then some (D.lst (xs ++ [y.d]),D.non) else none)=some p:=e
   split at e
   ·rename_i hl
    cases e
    refine ⟨a,vs,y.v,rfl,rfl,ha,by rw [<- rs.len,<- szl];exact hl,?_⟩
    have ry:=ra y yK
    have ny:=nA y yK
    have ma:MutAt H a:=.inl ⟨_,ha⟩
    have keep:∀ {d v L},Rep K H d v L->a ∉ L->Rep K (upd H a (.lst (vs ++ [y.v]))) d v L:=fun {d v L} r n=>r.keep (M:=fun b=>b=a) (fun b o hb h=>by rw [aG h];exact hb) (fun b e=>by rw [e];exact ma) fun b hb e=>n (by rw [<- e];exact hb)
    have keeps:Reps (Rep K (upd H a (.lst (vs ++ [y.v])))) xs vs L0:=rs.keep (M:=fun b=>b=a) (fun b o hb h=>by rw [aG h];exact hb) (fun b e=>by rw [e];exact ma) fun b hb e=>na (by rw [<- e];exact hb)
    exact q (.lst (vs ++ [y.v])) (L0 ++ (y.L ++ [])) ⟨.non,.non,[],.z⟩ (.lst bm (keeps.append (.cons (keep ry ny) .nil))) rfl (fun c hc=>by
     rcases yU.mp hc with h | h
     ·exact .inl h
     ·rw [List.append_nil] at h;exact .inr ⟨y,yK,h⟩) rfl rfl .non fun c hc=>by cases hc
   ·exact nsE e
 | _=>exact nsE e
noncomputable def tX:D->List D->Option (D × D)
 | .lst xs,[.lst ys]=>if xs.length+ys.length<=16777216 then some (.lst (xs ++ ys),.non) else none
 | _,_=>none
theorem ext2 {xs:List D} (a:D) {b:D} {r:List D}:tX (.lst xs) (a :: b :: r)=none:=by cases a <;> rfl
set_option tactic.hygienic true in
theorem xW:MutD K pv tX:=fun a d L0 as H Q p r m na ra nA e q=>by
 cases d with
 | lst xs =>
  obtain ⟨_,vs,_,e1,e2,ha,rs⟩:=r.view
  cases e1
  cases e2
  match as,e,ra,nA with
  | [],e,_,_=>exact nsE e
  | y :: _ :: _,e,_,_=>exact nsE ((ext2 y.d).symm.trans e)
  | [y],e,ra,nA =>
   have ry:=ra y yK
   have ny:=nA y yK
   obtain ⟨yd,yv,yL,yf⟩:=y
   dsimp only at ry ny e
   cases yd with
   | lst ys =>
    obtain ⟨b,ws,L1,rfl,rfl,hb,rs'⟩:=ry.view
    have e:(if xs.length+ys.length<=16777216 then some (D.lst (xs ++ ys),D.non) else none)=some p:=e
    split at e
    ·rename_i hl
     cases e
     refine ⟨a,b,vs,ws,rfl,rfl,ha,hb,by rw [<- rs.len,<- rs'.len,<- szl];exact hl,?_⟩
     have ma:MutAt H a:=.inl ⟨_,ha⟩
     have keeps:∀ {ds vs' L},Reps (Rep K H) ds vs' L->a ∉ L->Reps (Rep K (upd H a (.lst (vs ++ ws)))) ds vs' L:=fun {ds vs' L} r n=>r.keep (M:=fun b=>b=a) (fun b o hb h=>by rw [aG h];exact hb) (fun b e=>by rw [e];exact ma) fun b hb e=>n (by rw [<- e];exact hb)
     exact q (.lst (vs ++ ws)) (L0 ++ L1) ⟨.non,.non,[],.z⟩ (.lst bm ((keeps rs na).append (keeps rs' fun h=>ny (yM _ h)))) rfl (fun c hc=>by
      rcases yU.mp hc with h | h
      ·exact .inl h
      ·exact .inr ⟨_,yK,yM _ h⟩) rfl rfl .non fun c hc=>by cases hc
    ·exact nsE e
   | _=>exact nsE e
 | _=>exact nsE e
noncomputable def uT:D->List D->Option (D × D)
 | .lst xs,[.int i,d]=>(ixN xs.length i).map fun j=>(.lst (xs.set j d),.non)
 | _,_=>none
theorem Reps.set:∀ {ds:List D} {vs:List V} {L L':List Addr} {d:D} {v:V} (j:Nat),Reps (Rep K H) ds vs L->Rep K H d v L'->∃ L2,Reps (Rep K H) (ds.set j d) (vs.set j v) L2/\∀ c ∈ L2,c ∈ L\/c ∈ L'
 | _,_,_,_,_,_,j,.nil,_=>⟨[],.nil,fun c hc=>by cases hc⟩
 | _,_,_,L',_,_,0,.cons (L:=L1) (L':=L1') r rs,r'=>⟨L' ++ L1',.cons r' rs,fun c hc=>by
  rcases yU.mp hc with h | h
  ·exact .inr h
  ·exact .inl (yQ _ h)⟩
 | _,_,_,L',_,_,j+1,.cons (L:=L1) (L':=L1') r rs,r'=>by
  obtain ⟨L2,h1,h2⟩:=Reps.set j rs r'
  refine ⟨L1 ++ L2,.cons r h1,fun c hc=>?_⟩
  rcases yU.mp hc with h | h
  ·exact .inl (yP _ h)
  ·rcases h2 c h with h | h
   ·exact .inl (yQ _ h)
   ·exact .inr h
theorem set1 {xs:List D} (a:D):uT (.lst xs) [a]=none:=by cases a <;> rfl
theorem set3' {xs:List D} (a:D) {b c:D} {r:List D}:uT (.lst xs) (a :: b :: c :: r)=none:=by cases a <;> rfl
theorem vF:MutD K (jR pp) uT:=fun a d L0 as H Q p r m na ra nA e q=>by
 cases d with
 | lst xs =>
  obtain ⟨_,vs,_,e1,e2,ha,rs⟩:=r.view
  cases e1
  cases e2
  match as,e,ra,nA with
  | [],e,_,_=>exact nsE e
  | [y],e,_,_=>exact nsE ((set1 y.d).symm.trans e)
  | y :: _ :: _ :: _,e,_,_=>exact nsE ((set3' y.d).symm.trans e)
  | [k,y],e,ra,nA =>
   have rk:=ra k yK
   have ry:=ra y (yM _ yK)
   have ny:=nA y (yM _ yK)
   obtain ⟨kd,kv,kL,kf⟩:=k
   dsimp only at rk
   cases kd with
   | int i =>
    obtain ⟨rfl,rfl⟩:=rk.view
    obtain ⟨j,h1,h2⟩:=yO.mp (show (ixN xs.length i).map (fun j=>(D.lst (xs.set j y.d),D.non))=some p from e)
    subst h2
    refine ⟨.int i,y.v,rfl,a,vs,i,j,rfl,rfl,ha,by rw [<- rs.len];exact h1,?_⟩
    have ma:MutAt H a:=.inl ⟨_,ha⟩
    have ry':Rep K (upd H a (.lst (vs.set j y.v))) y.d y.v y.L:=ry.keep (M:=fun b=>b=a) (fun b o hb h=>by rw [aG h];exact hb) (fun b e=>by rw [e];exact ma) fun b hb e=>ny (by rw [<- e];exact hb)
    have keeps:Reps (Rep K (upd H a (.lst (vs.set j y.v)))) xs vs L0:=rs.keep (M:=fun b=>b=a) (fun b o hb h=>by rw [aG h];exact hb) (fun b e=>by rw [e];exact ma) fun b hb e=>na (by rw [<- e];exact hb)
    obtain ⟨L2,h3,h4⟩:=keeps.set j ry'
    exact q (.lst (vs.set j y.v)) L2 ⟨.non,.non,[],.z⟩ (.lst bm h3) rfl (fun c hc=>(h4 c hc).imp id fun h=>⟨y,yM _ yK,h⟩) rfl rfl .non fun c hc=>by cases hc
   | _=>exact nsE e
 | _=>exact nsE e
theorem gj {i:Nat} {x:Str} {pn apos cpos:Pos} {id:String} {nm:Str} {Ty:String} {e:Expr} {es:List Expr} {ok:D->Bool} {r:V->List V->Hp->VK->Prop} {f:D->List D->Option (D × D)} {ms:M3 (List R3)} (pa:PlainAttrs Ty) (slot:Slot Ty nm id) (hty:typeOf (.builtin id)=pure (.type "method_descriptor")) (hm:MtR X id r) (hr:MutD X.K r f) (hok:∀ d v L H,ok d=true->Rep X.K H d v L->tyV X.K Ty v H)
  (ho:PE X (.Name x pn) (ml i)) (ha:RA X G0 W0 (e :: es) ms) (hbase:attributeBase (.Name x pn) nm X.env (eval (.Name x pn) X.env)=eval (.Name x pn) X.env)
  (hfew:((backTo cpos (starEach (e :: es) X.env)).all (fun x=>!x.1) && (backToKw cpos (keywordEach [] X.env)).all (fun x=>x.1.isSome) && decide ((e :: es).length+([]:List Keyword).length+(if ([]:List Keyword).isEmpty then 0 else 1) < 30))=true)
  (hline:(apos.endLine == cpos.line)=true) (hs:starEach (e :: es) X.env=(false,eval e X.env) :: starEach es X.env) (hplain:(backTo cpos (starEach es X.env)).any (·.1)=false):RE X G0 W0 (.Call (.Attribute (.Name x pn) nm apos) (e :: es) [] cpos) (ic ok f i ms) :=
 ⟨PE.imp (ww pa slot hty hm ho ha.h hbase hfew hline hs hplain) fun _ _ _ h=>rP hr hok h⟩
theorem u9 {i:Nat} {x:Str} {pn apos cpos:Pos} {id:String} {nm:Str} {Ty:String} {ok:D->Bool} {r:V->List V->Hp->VK->Prop} {f:D->List D->Option (D × D)} (pa:PlainAttrs Ty) (slot:Slot Ty nm id) (hty:typeOf (.builtin id)=pure (.type "method_descriptor")) (hm:MtR X id r) (hr:MutD X.K r f) (hok:∀ d v L H,ok d=true->Rep X.K H d v L->tyV X.K Ty v H)
  (ho:PE X (.Name x pn) (ml i)) (hbase:attributeBase (.Name x pn) nm X.env (eval (.Name x pn) X.env)=eval (.Name x pn) X.env) (hline:(apos.endLine == cpos.line)=true):RE X G0 W0 (.Call (.Attribute (.Name x pn) nm apos) [] [] cpos) (ic ok f i ak) :=
 ⟨PE.imp (xI pa slot hty hm ho hbase hline) fun _ _ _ h=>uK hr hok h⟩
theorem xm {i:Nat} {x:Str} {pn p2 pos:Pos} {k e:Expr} {mk mv:EM} {t:rE} {f:D->List D->Option (D × D)} (hs:uy X t) (hr:MutD X.K (jR t) f) (ho:PE X (.Name x pn) (ml i)) (hk:RE X G0 W0 k mk) (hv:RE X G0 W0 e mv)
  (ha:∀ v,assign (.Subscript (.Name x pn) k p2) X.env v=(do
   let ov <- holding [v] (eval (.Name x pn) X.env)
   let iv <- holding [v,ov] (eval k X.env)
   standAt p2
   holding [v,ov,iv] (setItem ov iv v)
   release [v,ov,iv] []))
  (h1:swapsWithSole [.Subscript (.Name x pn) k p2] e pos.line X.env=pure false) (h2:swappedStores [.Subscript (.Name x pn) k p2] e X.env=pure none) (h3:(assignEach [.Subscript (.Name x pn) k p2] X.env).map (·.2)=[assign (.Subscript (.Name x pn) k p2) X.env]):RS X G0 W0 (.Assign [.Subscript (.Name x pn) k p2] e pos) (r6 f i mk mv) :=
 ⟨PS.imp (sN hv.h (xB ho hk.h hs ha) h1 h2 h3) fun _ _ _ h=>wO hr h⟩
end
end L3
end
section
namespace L3
open PySem L2
section
variable {K:FG} {G G0:Gm} {W W0:D->Sto->Prop} {H H':Hp} {σ:St} {ρ ρ':Sto} {T T':List It3} {g:Nat->Option It3} {x y z:It3} {α β:Type} {X:Cx} {L:List Addr}
theorem cy {Y:Cx} {ix:List (Option Nat)}:PTs Y [] (tT K (bK ix) noX dB):=fun pins s σ H Q I h=>vh pins s σ H Q I (wL h)
theorem fM {Y:Cx} {c:Expr} {ix:List (Option Nat)} {m:M3 Bool} (h:RT Y (bK ix) noX c m):PTs Y [c] (tT Y.K (bK ix) noX m):=vg h.h
theorem cG {ix:List (Option Nat)} (h:(ix.filterMap id).Nodup):Inj ix:=by
 intro j k i hj hk
 induction ix generalizing j k with
 | nil=>simp at hj
 | cons o ix ih =>
  cases o with
  | none =>
   have h':(ix.filterMap id).Nodup:=by simpa using h
   cases j with
   | zero=>simp at hj
   | succ j =>
    cases k with
    | zero=>simp at hk
    | succ k=>rw [ih h' j k (by simpa using hj) (by simpa using hk)]
  | some i0 =>
   have h':(i0 :: ix.filterMap id).Nodup:=by simpa using h
   obtain ⟨n,h''⟩:=List.nodup_cons.mp h'
   have mem:∀ m:Nat,ix[m]?=some (some i0)->False:=fun m e=>n (List.mem_filterMap.mpr ⟨some i0,yY e,rfl⟩)
   cases j with
   | zero =>
    simp at hj
    cases k with
    | zero=>rfl
    | succ k=>subst hj;exact (mem k (by simpa using hk)).elim
   | succ j =>
    cases k with
    | zero=>simp at hk;subst hk;exact (mem j (by simpa using hj)).elim
    | succ k=>rw [ih h'' j k (by simpa using hj) (by simpa using hk)]
noncomputable def lx:SM:=fun _=>none
theorem jM {st:Stmt}:RS X G0 W0 st lx:=⟨PS.imp sM fun _ _ _ h=>by
 refine h.use fun G W le ρ T g r ρ' w e q=>?_
 cases e⟩
theorem rQ {r r':R2} {f f':D->D->Option (D × Fl)} {ma mb mc:EM} {Q:VK} (ho:OpD K r f) (ho':OpD K r' f') (h:tE K G0 W0 (iG f f' ma mb mc) σ H Q):nX r r' (tE K G0 W0 ma) (tE K G0 W0 mb) (tE K G0 W0 mc) σ H Q:=by
 refine h.use fun G W le ρ T g o ρ' w e q=>?_
 refine tE.seq le w e q.err fun ra ρ1 e1 va H1 ⟨Ts,g1,w1,a1⟩=>?_
 refine tE.seq le w1 e1 q.err fun rb ρ2 e2 vb H2 ⟨Us,g2,w2,a2⟩=>?_
 obtain ⟨da,d1,e3⟩:=aV e2
 obtain ⟨db,d2,e4⟩:=aV e3
 obtain ⟨k,e5,e6⟩:=iI e4
 obtain ⟨ya,i1,f1,f2⟩:=a1.item w2 (fun x hx=>yQ _ (yP _ hx)) d1
 obtain ⟨yb,i2,f3,f4⟩:=a2.item w2 (fun x hx=>yP _ hx) d2
 obtain ⟨p,e7,e8⟩:=zn.mp e5
 have hp:=uq e8
 subst f1 f2 f4
 rw [<- f3] at e7
 refine ho ya yb H2 _ p (w2.itm i1).arg (w2.itm i2).arg e7 fun u H3 nu ud uf=>?_
 have w3:=w2.push nu fun c h=>w2.kids (ys:=[ya,yb]) (fun y hy=>by
  rcases yR.mp hy with h | hy
  ·rw [h];exact i1
  ·rw [zo.mp hy];exact i2) h
 have ru:=nu.rep
 rw [ud,hp] at ru
 refine ⟨k,ru.bl_eq.1,?_⟩
 have w4:=w3.sub (List.sublist_cons_self u _)
 cases k with
 | false =>
  cases e6
  have w5:=w4.sub (T':=T) ((yZ Ts T).trans (yZ Us _))
  exact q _ _ (w5.const (.bl false))
 | true =>
  simp only [if_true] at e6 ⊢
  refine tE.seq le w4 e6 q.err fun rc ρ5 e9 vc H5 ⟨Vs,g5,w5,a5⟩=>?_
  obtain ⟨db',d3,e10⟩:=aV e9
  obtain ⟨dc,d4,e11⟩:=aV e10
  obtain ⟨p',e12,rfl,rfl⟩:=bW e11
  obtain ⟨yb',i3,f5,f6⟩:=a2.item w5 (fun x hx=>yQ _ (yP _ hx)) d3
  obtain ⟨yc,i4,f7,f8⟩:=a5.item w5 (fun x hx=>yP _ hx) d4
  cases ef:f' db' dc with
  | none=>rw [ef] at e12;exact nsE e12
  | some s =>
   rw [ef] at e12
   cases e12
   have w6:=w5
   rw [show Vs ++ (Us ++ (Ts ++ T))=(Vs ++ (Us ++ Ts)) ++ T by simp] at w6
   have i3':Itm ((Vs ++ (Us ++ Ts)) ++ T) g5 yb':=by simpa using i3
   have i4':Itm ((Vs ++ (Us ++ Ts)) ++ T) g5 yc:=by simpa using i4
   rw [<- f6,<- f8]
   refine ho' yb' yc H5 Q s (w5.itm i3).arg (w5.itm i4).arg (by rw [f5,f7];exact ef) (lf w6 (fun y hy=>?_) q)
   rcases yR.mp hy with h | hy
   ·rw [h];exact i3'
   ·rw [zo.mp hy];exact i4'
theorem mH {op op':CmpOp} {r r':R2} {f f':D->D->Option (D × Fl)} {a b c:Expr} {pos:Pos} {ma mb mc:EM} (ho:OpR X (compareOp op) r) (hd:OpD X.K r f) (ho':OpR X (compareOp op') r') (hd':OpD X.K r' f') (ha:RE X G0 W0 a ma) (hb:RE X G0 W0 b mb) (hc:RE X G0 W0 c mc)
  (h:PE X a (tE X.K G0 W0 ma)->PE X b (tE X.K G0 W0 mb)->PE X c (tE X.K G0 W0 mc)->PE X (.Compare a [op,op'] [b,c] pos) (nX r r' (tE X.K G0 W0 ma) (tE X.K G0 W0 mb) (tE X.K G0 W0 mc))):RE X G0 W0 (.Compare a [op,op'] [b,c] pos) (iG f f' ma mb mc):=⟨PE.imp (h ha.h hb.h hc.h) fun _ _ _ h=>rQ hd hd' h⟩
theorem bA {op:CmpOp} {r:R2} {f:D->D->Option (D × Fl)} {a b:Expr} {pos:Pos} {ma mb:EM} (ho:OpR X (compareOp op) r) (hd:OpD X.K r f) (ha:RE X G0 W0 a ma) (hb:RE X G0 W0 b mb) (hm:behindInMarks op b=false):RT X G0 W0 (.Compare a [op] [b] pos) (cB (ai f ma mb)):=⟨PT.imp (vi ho ha.h hb.h hm) fun _ _ _ h=>lr hd (tT_b h)⟩
end
end L3
namespace L3
theorem aD {mask:List Bool} {i:Nat} (h:mask.length<=i):prM mask i=false:=by
 unfold prM
 rw [List.getElem?_eq_none h]
end L3
end
section
namespace L3
open PySem L2
structure Bl (mg:Str->Option Value):Prop where
 len:mg "len"=none
 range:mg "range"=none
 abs:mg "abs"=none
 divmod:mg "divmod"=none
 enumerate:mg "enumerate"=none
 tuple:mg "tuple"=none
 isinstance:mg "isinstance"=none
 int:mg "int"=none
 bool:mg "bool"=none
 all:mg "all"=none
 str:mg "str"=none
 max:mg "max"=none
 min:mg "min"=none
 list:mg "list"=none
 dict:mg "dict"=none
 repr:mg "repr"=none
 sorted:mg "sorted"=none
 set:mg "set"=none
 zip:mg "zip"=none
 reversed:mg "reversed"=none
theorem cI:bootBuiltins "len"=some (.builtin "len"):=by decide +kernel
theorem uj:bootBuiltins "divmod"=some (.builtin "divmod"):=by decide +kernel
theorem cH:bootBuiltins "tuple"=some (.type "tuple"):=by decide +kernel
theorem l7:bootBuiltins "isinstance"=some (.builtin "isinstance"):=by decide +kernel
theorem wH:bootBuiltins "int"=some (.type "int"):=by decide +kernel
theorem uk:bootBuiltins "bool"=some (.type "bool"):=by decide +kernel
theorem ul:bootBuiltins "all"=some (.builtin "all"):=by decide +kernel
theorem b_max:bootBuiltins "max"=some (.builtin "max"):=by decide +kernel
theorem b_min:bootBuiltins "min"=some (.builtin "min"):=by decide +kernel
theorem ui:bootBuiltins "list"=some (.type "list"):=by decide +kernel
theorem uh:bootBuiltins "sorted"=some (.builtin "sorted"):=by decide +kernel
end L3
end
section
namespace L3
open PySem L2
section
variable {K:FG} {G G0:Gm} {W W0:D->Sto->Prop} {H H':Hp} {σ:St} {ρ ρ':Sto} {T T':List It3} {g:Nat->Option It3} {x y z:It3} {α β:Type} {X:Cx} {L:List Addr}
theorem uL {m:EM} {Q Q':VK} (h:tE K G0 W0 m σ H Q) (f:∀ v H,Q v H->Q' v H):tE K G0 W0 m σ H Q':=by
 refine h.use fun G W le ρ T g o ρ' w e q=>?_
 refine tE.mk le w e ?_
 cases o with
 | ok r=>exact fun v H' g=>f v H' (q v H' g)
 | error x=>exact q
noncomputable def wB:D->Option String
 | .non=>some "NoneType" | .bl _=>some "bool" | .int _=>some "int" | .str _=>some "str"
 | .tup _=>some "tuple" | .lst _=>some "list" | .fls _=>some "list" | .dk _=>some "dict" | .dt _=>some "dict" | .exc _ _=>none
noncomputable def lL (t:String) (d:D):Option (D × Fl):=(wB d).map fun k=>(.bl (lM k t),.z)
theorem Rep.kind {d:D} {v:V} {k:String} (r:Rep K H d v L) (e:wB d=some k):KindOf K H v k:=by
 cases r with
 | non=>cases e;exact .non
 | bl b=>cases e;exact .bool b
 | int i=>cases e;exact .int i
 | str s=>cases e;exact .str s
 | tup h _=>cases e;exact .tuple (SqT.of h)
 | lst h _=>cases e;exact .list (SqL.of h)
 | lstF h _=>cases e;exact .list h.sq
 | dK h _ _=>cases e;exact .dK h
 | dT h _ _=>cases e;exact .dT h
 | exc _ _=>cases e
theorem fN {t:String} {tn:Str} {a:Expr} {p pT pos:Pos} {ma:EM} (hc:di X (.builtin "isinstance") (fun xs H Q=>∃ x k,xs=[x,.ty t]/\KindOf X.K H x k/\Q (.bl (lM k t)) H)) (hg:Gl X "isinstance") (hm:X.mg "isinstance"=none) (ht:PE X (.Name tn pT) (tC (.ty t))) (ha:RE X G0 W0 a ma)
  (he1:starEach [a,.Name tn pT] X.env=(false,eval a X.env) :: starEach [.Name tn pT] X.env) (he2:starEach [.Name tn pT] X.env=(false,eval (.Name tn pT) X.env) :: starEach [] X.env) (hpl:(backTo pos (starEach [.Name tn pT] X.env)).any (·.1)=false):RE X G0 W0 (.Call (.Name "isinstance" p) [a,.Name tn pT] [] pos) (mUn (lL t) ma) :=
 ⟨PE.imp (mL hc hg hm l7 (lF ha.h (lF ht sT he2) he1) (by decide) (by decide) he1 hpl) fun σ H Q h=>by
  have h:=wk (r:=fun x H Q=>∃ k,KindOf X.K H x k/\Q (.bl (lM k t)) H) (fun a H Q p ra e q=>by
   obtain ⟨k,h1,h2⟩:=yO.mp e
   subst h2
   exact ⟨k,ra.rep.kind h1,q ⟨.bl (lM k t),.bl (lM k t),[],.z⟩ H (fF (.bl _)) rfl rfl⟩) h
  refine uL h fun x H1 ⟨k,hk,q⟩=>?_
  exact ⟨x,k,rfl,hk,q⟩⟩
noncomputable def tK:D->Option Key
 | .int i=>some (.inl i)
 | .str s=>some (.inr s)
 | _=>none
noncomputable def ee:List D->Option (List Key)
 | []=>some []
 | d :: ds=>match tK d,ee ds with
  | some k,some ks=>some (k :: ks)
  | _,_=>none
theorem qV {d:D} {v:V} {k:Key} (r:Rep K H d v L) (e:tK d=some k):v=kV k:=by
 cases r <;> cases e <;> rfl
theorem fY:∀ {ds:List D} {vs:List V} {L:List Addr} {ks:List Key},Reps (Rep K H) ds vs L->ee ds=some ks->vs=ks.map kV
 | _,_,_,ks,.nil,e=>by cases e;rfl
 | _,_,_,ks,.cons (d:=d) (ds:=ds) r rs,e=>by
  unfold ee at e
  cases h1:tK d with
  | none=>rw [h1] at e;exact nsE e
  | some k =>
   cases h2:ee ds with
   | none=>rw [h1,h2] at e;exact nsE e
   | some ks' =>
    rw [h1,h2] at e
    cases e
    rw [qV r h1,fY rs h2];rfl
noncomputable def tU (kvs:List (List Key × D)) (k:List Key):Option D:=(kvs.find? fun kv=>decide (kv.1=k)).map (·.2)
noncomputable def sJ (kvs:List (List Key × D)) (k:List Key) (v:D):List (List Key × D) :=
 if (kvs.any fun kv=>decide (kv.1=k))=true then kvs.map (fun kv=>if kv.1=k then (kv.1,v) else kv) else kvs ++ [(k,v)]
theorem nh:∀ {kvs:List (List Key × D)} {ps:List (List Key × V)} {L:List Addr} {k:List Key} {d:D},kvs.map (·.1)=ps.map (·.1)->Reps (Rep K H) (kvs.map (·.2)) (ps.map (·.2)) L->tU kvs k=some d->∃ v L',jd ps k=some v/\Rep K H d v L'/\∀ c ∈ L',c ∈ L
 | [],ps,L,k,d,hk,r,e=>by cases e
 | kv :: kvs,[],L,k,d,hk,r,e=>by cases hk
 | kv :: kvs,p :: ps,L,k,d,hk,r,e=>by
  have hk':kv.1=p.1/\kvs.map (·.1)=ps.map (·.1):=by simpa using hk
  generalize hr:(kv :: kvs).map (·.2)=xs at r
  generalize hp:(p :: ps).map (·.2)=ys at r
  cases r with
  | nil=>cases hr
  | cons a as =>
   cases hr
   cases hp
   unfold tU at e
   rw [List.find?_cons] at e
   by_cases h:kv.1=k
   ·rw [zd h] at e
    cases e
    exact ⟨_,_,gL (hk'.1.symm.trans h),a,fun c hc=>yP _ hc⟩
   ·rw [ze h] at e
    obtain ⟨v,L',h1,h2,h3⟩:=nh hk'.2 as e
    exact ⟨v,L',by rw [gM (fun z=>h (hk'.1.trans z))];exact h1,h2,fun c hc=>yQ _ (h3 c hc)⟩
noncomputable def pX:D->D->Option (D × Fl)
 | .dt kvs,.tup ks=>match ee ks with
  | some k=>(tU kvs k).map fun d=>(d,.z)
  | none=>none
 | _,_=>none
noncomputable def pw:R2:=fun x y H Q=>∃ a v,x=.ref a/\DGet H a y (some v)/\Q v H
theorem vA:OpD K pw pX:=fun a b H Q p ra rb e q=>by
 obtain ⟨da,va,La,fa⟩:=a
 obtain ⟨db,vb,Lb,fb⟩:=b
 have ra0:=ra
 obtain ⟨ra,oa⟩:=ra
 obtain ⟨rb,ob⟩:=rb
 dsimp only at ra rb e
 cases da with
 | dt kvs =>
  obtain ⟨pa,ps,L0,rfl,rfl,ha,hk,rs⟩:=ra.view
  cases db with
  | tup ks =>
   obtain ⟨pb,ws,rfl,hb,rs'⟩:=rb.view
   have e:(match ee ks with | some k=>(tU kvs k).map fun d=>(d,Fl.z) | none=>none)=some p:=e
   cases h1:ee ks with
   | none=>rw [h1] at e;exact nsE e
   | some k =>
    rw [h1] at e
    obtain ⟨d,h2,h3⟩:=yO.mp (show (tU kvs k).map (fun d=>(d,Fl.z))=some p from e)
    subst h3
    have hw:=fY rs' h1
    subst hw
    obtain ⟨v,L',g1,g2,g3⟩:=nh hk rs h2
    refine ⟨pa,v,rfl,by rw [<- g1];exact DGet.t ha hb,q ⟨d,v,L',.z⟩ H (mQ g2 fun c hc=>?_) rfl rfl⟩
    exact m9 (y:=⟨.dt kvs,.ref pa,pa :: L0,fa⟩) yK ra0 rfl rfl c (g3 c hc)
  | _=>exact nsE e
 | _=>exact nsE e
open PySem.Spec PyProof.Rows in
theorem vP (hu:X.A.units+1 < cLine):IxR X pw:=by
 intro value slice pins s σ H x y v u Q I rx ry h hs
 obtain ⟨a,w,rfl,g,q⟩:=h
 cases rx
 have hT:=nt I g
 unfold subscriptTail
 refine yH ?_
 rw [getitemInPython_of_ne hT.not_modules]
 refine yH (wpAny_specialOf hT PySem.F.slot_dict_getitem.lookup ?_)
 have fin:wpAny (model X.prog X.w) X.A (subscripted slice false (.ref a) u) (fun r s₃=>wpAny (model X.prog X.w) X.A (letTemporaryGo value (.ref a) r >>= fun _=>pure r) (EP X pins σ Q) X.xe s₃) X.xe s:=by
  rw [hs]
  exact wpAny_operating (rg hu I g ry fun w' s3 I3 rw'=>yH (wpAny_letTemporaryGo (yI ⟨w,H,I3,rw',q⟩)))
 first
  | exact yI (yH fin)
  | exact yH (yI (yH fin))
  | exact yH fin
noncomputable abbrev aH:=orD ixD pX
theorem ay:OpD K (fun x y H Q=>(sH K x y H Q\/sG K x y H Q)\/pw x y H Q) aH:=od_ix.or vA
theorem aB (hu:X.A.units+1 < cLine):IxR X (fun x y H Q=>(sH X.K x y H Q\/sG X.K x y H Q)\/pw x y H Q):=ix_ok.or (vP hu)
noncomputable def pB:D->List D->Option (D × D)
 | .dt kvs,[.tup ks,v]=>match ee ks with
  | some k=>if kvs.length < 16777216 then some (.dt (sJ kvs k v),.non) else none
  | none=>none
 | _,_=>none
noncomputable def pq:rE:=fun o i v H Q=>∃ a H',o=.ref a/\DPut H a i v H'/\Q H'
theorem rZ (hu:X.A.units+1 < cLine):uy X pq:=by
 intro pins s σ H o i v ov iv u Q I ro ri rv h
 obtain ⟨a,H',rfl,g,q⟩:=h
 cases ro
 exact rf hu I g ri rv fun s' I'=>⟨H',I',q⟩
theorem mJ:∀ {kvs:List (List Key × D)} {ps:List (List Key × V)} {L L':List Addr} {k:List Key} {d:D} {v:V},kvs.map (·.1)=ps.map (·.1)->Reps (Rep K H) (kvs.map (·.2)) (ps.map (·.2)) L->Rep K H d v L' ->
  ∃ L2,Reps (Rep K H) ((kvs.map fun kv=>if kv.1=k then (kv.1,d) else kv).map (·.2)) ((ps.map fun kv=>if kv.1=k then (kv.1,v) else kv).map (·.2)) L2/\(∀ c ∈ L2,c ∈ L\/c ∈ L')
 | [],[],L,L',k,d,v,hk,r,rd=>⟨[],.nil,fun c hc=>by cases hc⟩
 | [],_ :: _,_,_,_,_,_,hk,_,_=>by cases hk
 | _ :: _,[],_,_,_,_,_,hk,_,_=>by cases hk
 | kv :: kvs,p :: ps,L,L',k,d,v,hk,r,rd=>by
  have hk':kv.1=p.1/\kvs.map (·.1)=ps.map (·.1):=by simpa using hk
  generalize hr:(kv :: kvs).map (·.2)=xs at r
  generalize hp:(p :: ps).map (·.2)=ys at r
  cases r with
  | nil=>cases hr
  | @cons _ _ L1 _ _ L1' a as =>
   cases hr
   cases hp
   obtain ⟨L2,h1,h2⟩:=mJ (k:=k) hk'.2 as rd
   by_cases h:kv.1=k
   ·refine ⟨L' ++ L2,?_,fun c hc=>?_⟩
    ·simp only [zc,if_pos h,if_pos (hk'.1.symm.trans h)]
     exact .cons rd h1
    ·rcases yU.mp hc with z | z
     ·exact .inr z
     ·rcases h2 c z with y | y
      ·exact .inl (yQ _ y)
      ·exact .inr y
   ·refine ⟨L1 ++ L2,?_,fun c hc=>?_⟩
    ·simp only [zc,if_neg h,if_neg (fun z=>h (hk'.1.trans z))]
     exact .cons a h1
    ·rcases yU.mp hc with z | z
     ·exact .inl (yP _ z)
     ·rcases h2 c z with y | y
      ·exact .inl (yQ _ y)
      ·exact .inr y
theorem uu {kvs:List (List Key × D)} {ps:List (List Key × V)} {k:List Key} (hk:kvs.map (·.1)=ps.map (·.1)):(kvs.any fun kv=>decide (kv.1=k))=ps.any fun kv=>decide (kv.1=k):=by
 have h1:(kvs.any fun kv=>decide (kv.1=k))=(kvs.map (·.1)).any fun x=>decide (x=k):=by rw [List.any_map];rfl
 have h2:(ps.any fun kv=>decide (kv.1=k))=(ps.map (·.1)).any fun x=>decide (x=k):=by rw [List.any_map];rfl
 rw [h1,h2,hk]
theorem mV {α:Type} {kvs:List (List Key × α)} {k:List Key} {d:α}:(kvs.map fun kv=>if kv.1=k then (kv.1,d) else kv).map (·.1)=kvs.map (·.1):=by
 rw [List.map_map]
 refine List.map_congr_left fun kv _=>?_
 show (if kv.1=k then (kv.1,d) else kv).1=kv.1
 split <;> rfl
theorem put1 {kvs:List (List Key × D)} (a:D):pB (.dt kvs) [a]=none:=by cases a <;> rfl
theorem put3' {kvs:List (List Key × D)} (a:D) {b c:D} {r:List D}:pB (.dt kvs) (a :: b :: c :: r)=none:=by cases a <;> rfl
set_option tactic.hygienic true in
theorem vG:MutD K (jR pq) pB:=fun a d L0 as H Q p r m na ra nA e q=>by
 cases d with
 | dt kvs =>
  obtain ⟨_,ps,_,e1,e2,ha,hk,rs⟩:=r.view
  cases e1
  cases e2
  match as,e,ra,nA with
  | [],e,_,_=>exact nsE e
  | [y],e,_,_=>exact nsE ((put1 y.d).symm.trans e)
  | y :: _ :: _ :: _,e,_,_=>exact nsE ((put3' y.d).symm.trans e)
  | [k,y],e,ra,nA =>
   have rk:=ra k yK
   have ry:=ra y (yM _ yK)
   have ny:=nA y (yM _ yK)
   obtain ⟨kd,kv,kL,kf⟩:=k
   dsimp only at rk
   cases kd with
   | tup ks =>
    obtain ⟨pb,ws,rfl,hb,rs'⟩:=rk.view
    have e:(match ee ks with | some k=>if kvs.length < 16777216 then some (D.dt (sJ kvs k y.d),D.non) else none | none=>none)=some p:=e
    cases h1:ee ks with
    | none=>rw [h1] at e;exact nsE e
    | some key =>
     rw [h1] at e
     dsimp only at e
     split at e
     ·rename_i hl
      cases e
      have hw:=fY rs' h1
      subst hw
      have hlen:kvs.length=ps.length:=by have:=congrArg List.length hk;simpa using this
      refine ⟨.ref pb,y.v,rfl,a,_,rfl,DPut.t ha hb (by rw [<- hlen,<- szl];exact hl),?_⟩
      have ma:MutAt H a:=.inr (.inr ⟨_,ha⟩)
      have ry':Rep K (upd H a (.dT (eW ps key y.v))) y.d y.v y.L:=ry.keep (M:=fun b=>b=a) (fun b o hb h=>by rw [aG h];exact hb) (fun b e=>by rw [e];exact ma) fun b hb e=>ny (by rw [<- e];exact hb)
      have keeps:Reps (Rep K (upd H a (.dT (eW ps key y.v)))) (kvs.map (·.2)) (ps.map (·.2)) L0:=rs.keep (M:=fun b=>b=a) (fun b o hb h=>by rw [aG h];exact hb) (fun b e=>by rw [e];exact ma) fun b hb e=>na (by rw [<- e];exact hb)
      have fin:∃ L1,Reps (Rep K (upd H a (.dT (eW ps key y.v)))) ((sJ kvs key y.d).map (·.2)) ((eW ps key y.v).map (·.2)) L1/\(∀ c ∈ L1,c ∈ L0\/c ∈ y.L)/\(sJ kvs key y.d).map (·.1)=(eW ps key y.v).map (·.1):=by
       generalize upd H a (HO.dT (eW ps key y.v))=H2 at keeps ry' ⊢
       unfold sJ eW
       rw [uu hk]
       split
       ·obtain ⟨L2,g1,g2⟩:=mJ (k:=key) hk keeps ry'
        exact ⟨L2,g1,g2,by rw [mV,mV];exact hk⟩
       ·refine ⟨L0 ++ (y.L ++ []),?_,fun c hc=>?_,by rw [List.map_append,List.map_append,hk];rfl⟩
        ·rw [List.map_append,List.map_append]
         exact keeps.append (.cons ry' .nil)
        ·rcases yU.mp hc with z | z
         ·exact .inl z
         ·rw [List.append_nil] at z;exact .inr z
      obtain ⟨L1,g1,g2,g3⟩:=fin
      exact q (.dT (eW ps key y.v)) L1 ⟨.non,.non,[],.z⟩ (.dT bm g3 g1) rfl (fun c hc=>(g2 c hc).imp id fun h=>⟨y,yM _ yK,h⟩) rfl rfl .non fun c hc=>by cases hc
     ·exact nsE e
   | _=>exact nsE e
 | _=>exact nsE e
noncomputable def xK (f g:D->List D->Option (D × D)) (a:D) (b:List D):Option (D × D):=match f a b with
 | some p=>some p
 | none=>g a b
theorem MutD.or {r r':V->List V->Hp->VK->Prop} {f g:D->List D->Option (D × D)} (h:MutD K r f) (h':MutD K r' g):MutD K (fun x y H Q=>r x y H Q\/r' x y H Q) (xK f g):=fun a d L0 as H Q p r m na ra nA e q=>by
 unfold xK at e
 cases ef:f d (as.map (·.d)) with
 | some p'=>rw [ef] at e;cases e;exact .inl (h a d L0 as H Q _ r m na ra nA ef q)
 | none=>rw [ef] at e;exact .inr (h' a d L0 as H Q p r m na ra nA e q)
noncomputable abbrev setD:=xK uT pB
theorem xU:MutD K (jR fun o i v H Q=>pp o i v H Q\/pq o i v H Q) setD:=fun a d L0 as H Q p r m na ra nA e q=>by
 rcases MutD.or vF vG a d L0 as H Q p r m na ra nA e q with ⟨k,v,h1,h2⟩ | ⟨k,v,h1,h2⟩
 ·exact ⟨k,v,h1,.inl h2⟩
 ·exact ⟨k,v,h1,.inr h2⟩
theorem uS (hu:X.A.units+1 < cLine):uy X (fun o i v H Q=>pp o i v H Q\/pq o i v H Q):=by
 intro pins s σ H o i v ov iv u Q I ro ri rv h
 rcases h with h | h
 ·exact rY pins s σ H o i v ov iv u Q I ro ri rv h
 ·exact rZ hu pins s σ H o i v ov iv u Q I ro ri rv h
end
end L3
end
section
namespace L3
open PySem L2
section
open PySem.Spec PyProof.Rows HT
variable {prog:Program} {w:World} {A:Around} {E:Value->Shared->Prop} {s:Shared}
theorem gr {t sl:Addr} {items:Array Value} {vl vu:Value} {lo hi:Option Int} {Q:Value->Shared->Prop} (ht:IsTup s.heap t items) (hs:s.heap.IsSliceOf sl vl vu .none) (pl:IsPart vl lo) (pu:IsPart vu hi)
  (hw:sIx items.size 0 lo=0/\sIx items.size items.size hi=items.size) (h:Q (.ref t) s) (hsz:items.size<=sizeLine):wpAny (model prog w) A (getItem (.ref t) (.ref sl)) Q E s:=by
 obtain ⟨os,hos,hcs,hds⟩:=id hs
 have hTs:s.TypeIs (.ref sl) "slice":=⟨os,hos,hcs⟩
 unfold getItem
 try with_reducible refine yJ ?_
 first | refine yH (yI ?_) | skip
 refine yH (wpAny_sequenceKey ht.typeIs (by decide) ?_)
 refine yH (wpAny_callSpecial?_slot (name:=Str.ofString "__getitem__") ht.typeIs PyProof.Rows.slot_tuple_getitem
  (wpAny_call_entry PyProof.Rows.slot_tuple_getitem ht.typeIs entry_tuple_getitem ?_ (args_tuple_getitem _ _)))
 show wpAny _ _ (Builtin.Tuple.tupleItemsOf (.ref t) >>= _) _ _ s
 refine yH (tupleItemsOf_ ht ?_)
 refine yH (wpAny_typeOf hTs ?_)
 rw [if_pos (by decide)]
 refine yH (eC hs pl pu ?_)
 show wpAny _ _ (if (((sIx items.size 0 lo:Nat):Int) == 0 && (1:Int) == 1 && (sIx items.size items.size hi - sIx items.size 0 lo) == items.size)=true then _ else _) _ _ s
 rw [if_pos (by simp [hw.1,hw.2])]
 refine yH ?_
 unfold Builtin.Tuple.tupleIsExact
 refine yH (wpAny_typeOf ht.typeIs ?_)
 refine yI ?_
 rw [if_pos (by decide)]
 exact yH (wpAny_rule (yI ⟨_,rfl,yI h⟩))
end
section
variable {K:FG} {G G0:Gm} {W W0:D->Sto->Prop} {H H':Hp} {σ:St} {ρ ρ':Sto} {T T':List It3} {g:Nat->Option It3} {x y z:It3} {α β:Type} {X:Cx} {L:List Addr}
noncomputable def sF (K:FG):V->Option Int->Option Int->Hp->VK->Prop:=fun x lo hi H Q=>∃ a xs,x=.ref a/\SqT K H a xs/\(HT.sIx xs.length 0 lo=0/\HT.sIx xs.length xs.length hi=xs.length)/\Q (.ref a) H
theorem uR:SlR X (sF X.K):=by
 intro pins s σ H x v vl vu lo hi sl Q I rx hs pl pu h
 obtain ⟨a,xs,rfl,hx,hw,q⟩:=h
 cases rx
 obtain ⟨its,r,ht,hz⟩:=I.tuple hx
 have hlen:its.toArray.size=xs.length:=by rw [zb];exact r.length.symm
 refine ⟨"tuple",_,PyProof.Rows.slot_tuple_getitem.lookup,ht.typeIs,?_⟩
 exact gr ht hs pl pu (by rw [hlen];exact hw) ⟨.ref a,H,I,rfl,q⟩ (by rw [hlen];exact hz)
noncomputable def asI:D->Option Int
 | .int i=>some i
 | _=>none
noncomputable def mM (m:EM):M3 (Option Int):=ac m fun r=>ac (der r) fun d=>bh ((asI d).map some)
noncomputable def EndP (K:FG) (G:Gm) (W:D->Sto->Prop) (σ:St) (T:List It3) (ρ':Sto) (Q:Option Int->Hp->Prop):Except D (Option Int)->Prop
 | .ok b=>∀ H' g',Wf K G H' σ ρ' T g'->Q b H'
 | .error e=>W e ρ'
noncomputable def tP (K:FG) (G0:Gm) (W0:D->Sto->Prop) (m:M3 (Option Int)):TO:=fun σ H Q=>∃ G W,Le K G W G0 W0/\∃ ρ T g r ρ',Wf K G H σ ρ T g/\m ρ=some (r,ρ')/\EndP K G W σ T ρ' Q r
structure RP (X:Cx) (G0:Gm) (W0:D->Sto->Prop) (e:Option Expr) (m:M3 (Option Int)):Prop where
 h:PO X e (tP X.K G0 W0 m)
theorem PO.imp {e:Option Expr} {t t':TO} (h:PO X e t) (f:∀ σ H Q,t' σ H Q->t σ H Q):PO X e t':=fun pins s σ H Q I q=>h pins s σ H Q I (f σ H Q q)
theorem pc {e:Expr} {m:EM} (h:RE X G0 W0 e m):RP X G0 W0 (some e) (mM m):=⟨PO.imp (vq h.h) fun σ H Q h=>by
 obtain ⟨G,W,le,ρ,T,g,r,ρ',w,e,q⟩:=h
 have herr:∀ x,r=.error x->W x ρ':=fun x hx=>by subst hx;exact q
 refine tE.seq le w e herr fun ra ρ1 e1 v H1 ⟨Ts,g1,w1,a1⟩=>?_
 obtain ⟨d,d1,e2⟩:=aV e1
 obtain ⟨o,e3,rfl,rfl⟩:=bW e2
 obtain ⟨i,e4,e5⟩:=yO.mp e3
 subst e5
 obtain ⟨y,i1,f1,f2⟩:=a1.item w1 (fun x hx=>yP _ hx) d1
 have rr:=(w1.itm i1).rep
 rw [f1] at rr
 have hd:d=.int i:=by cases d <;> cases e4;rfl
 rw [hd] at rr
 refine ⟨i,by rw [<- f2];exact rr.int_inv,q _ _ (w1.sub (yZ Ts T))⟩⟩
noncomputable def mSl (f:D->Option Int->Option Int->Option (D × Fl)) (ma:EM) (pl pu:M3 (Option Int)):EM:=ac ma fun ra=>ac pl fun lo=>ac pu fun hi=>ac (der ra) fun d=>bh ((f d lo hi).map fun p=>R3.val p.1 p.2)
noncomputable def SlD (K:FG) (r:V->Option Int->Option Int->Hp->VK->Prop) (f:D->Option Int->Option Int->Option (D × Fl)):Prop:=∀ (a:It3) (lo hi:Option Int) (H:Hp) (Q:VK) (p:D × Fl),Arg K H a->f a.d lo hi=some p ->
 (∀ w H',New K H H' (dQ [a]) w->w.d=p.1->w.f=p.2->Q w.v H')->r a.v lo hi H Q
theorem tP.seq {ma:M3 (Option Int)} {k:Option Int->M3 β} {r:Except D β} {P:Option Int->Hp->Prop} (le:Le K G W G0 W0) (w:Wf K G H σ ρ T g) (e:ac ma k ρ=some (r,ρ')) (he:∀ x,r=.error x->W x ρ')
  (h:∀ b ρ1,k b ρ1=some (r,ρ')->∀ H1 g1,Wf K G H1 σ ρ1 T g1->P b H1):tP K G0 W0 ma σ H P:=by
 unfold ac at e
 cases q:ma ρ with
 | none=>rw [q] at e;exact nsE e
 | some p =>
  obtain ⟨o,ρ1⟩:=p
  rw [q] at e
  cases o with
  | error x=>cases e;exact ⟨G,W,le,ρ,T,g,.error x,ρ',w,q,he x rfl⟩
  | ok ra=>exact ⟨G,W,le,ρ,T,g,.ok ra,ρ1,w,q,h ra ρ1 e⟩
theorem tE_sl {r:V->Option Int->Option Int->Hp->VK->Prop} {f:D->Option Int->Option Int->Option (D × Fl)} {ma:EM} {pl pu:M3 (Option Int)} {Q:VK} (hd:SlD K r f) (h:tE K G0 W0 (mSl f ma pl pu) σ H Q):tSl r (tE K G0 W0 ma) (tP K G0 W0 pl) (tP K G0 W0 pu) σ H Q:=by
 refine h.use fun G W le ρ T g o ρ' w e q=>?_
 refine tE.seq le w e q.err fun ra ρ1 e1 va H1 ⟨Ts,g1,w1,a1⟩=>?_
 refine tP.seq le w1 e1 q.err fun lo ρ2 e2 H2 g2 w2=>?_
 refine tP.seq le w2 e2 q.err fun hi ρ3 e3 H3 g3 w3=>?_
 obtain ⟨d,d1,e4⟩:=aV e3
 obtain ⟨p,e5,rfl,rfl⟩:=bW e4
 obtain ⟨y,i1,f1,f2⟩:=a1.item w3 (fun x hx=>yP _ hx) d1
 subst f1 f2
 cases ef:f y.d lo hi with
 | none=>rw [ef] at e5;exact nsE e5
 | some s =>
  rw [ef] at e5
  cases e5
  exact hd y lo hi H3 Q s (w3.itm i1).arg ef (lf w3 (fun z hz=>by rw [zo.mp hz];exact i1) q)
theorem Reps.take:∀ {ds:List D} {vs:List V} {L:List Addr} (n:Nat),Reps (Rep K H) ds vs L->∃ L',Reps (Rep K H) (ds.take n) (vs.take n) L'/\∀ c ∈ L',c ∈ L
 | _,_,_,0,_=>⟨[],by simpa using Reps.nil,fun c hc=>by cases hc⟩
 | _,_,_,n+1,.nil=>⟨[],by simpa using Reps.nil,fun c hc=>by cases hc⟩
 | _,_,_,n+1,.cons (L:=L1) r rs=>by
  obtain ⟨L',h1,h2⟩:=Reps.take n rs
  exact ⟨L1 ++ L',by simpa using Reps.cons r h1,fun c hc=>by
   rcases yU.mp hc with h | h
   ·exact yP _ h
   ·exact yQ _ (h2 c h)⟩
theorem Reps.drop:∀ {ds:List D} {vs:List V} {L:List Addr} (n:Nat),Reps (Rep K H) ds vs L->∃ L',Reps (Rep K H) (ds.drop n) (vs.drop n) L'/\∀ c ∈ L',c ∈ L
 | _,_,L,0,r=>⟨L,by simpa using r,fun c hc=>hc⟩
 | _,_,_,n+1,.nil=>⟨[],by simpa using Reps.nil,fun c hc=>by cases hc⟩
 | _,_,_,n+1,.cons r rs=>by
  obtain ⟨L',h1,h2⟩:=Reps.drop n rs
  exact ⟨L',by simpa using h1,fun c hc=>yQ _ (h2 c hc)⟩
theorem Reps.cut {ds:List D} {vs:List V} (lo hi:Option Int) (r:Reps (Rep K H) ds vs L):∃ L',Reps (Rep K H) (kG ds lo hi) (nw vs lo hi) L'/\∀ c ∈ L',c ∈ L:=by
 unfold kG nw
 rw [<- r.len]
 obtain ⟨L1,h1,h2⟩:=r.drop (HT.sIx ds.length 0 lo)
 obtain ⟨L2,h3,h4⟩:=h1.take (HT.sIx ds.length ds.length hi - HT.sIx ds.length 0 lo)
 exact ⟨L2,h3,fun c hc=>h2 c (h4 c hc)⟩
noncomputable def slD:D->Option Int->Option Int->Option (D × Fl)
 | .lst xs,lo,hi=>some (.lst (kG xs lo hi),.u)
 | .fls xs,lo,hi=>some (.lst (kG xs lo hi),.u)
 | .tup xs,lo,hi=>some (.tup (kG xs lo hi),.z)
 | _,_,_=>none
theorem sd_sl:SlD K (fun x lo hi H Q=>xq K x lo hi H Q\/(xp K x lo hi H Q\/sF K x lo hi H Q)) slD:=fun a lo hi H Q p ra e q=>by
 obtain ⟨da,va,La,fa⟩:=a
 have ra0:=ra
 obtain ⟨ra,oa⟩:=ra
 dsimp only at ra e
 cases da with
 | lst xs =>
  obtain ⟨pa,vs,L0,rfl,rfl,ha,rs⟩:=ra.view
  cases e
  obtain ⟨L',h1,h2⟩:=rs.cut lo hi
  exact .inl ⟨pa,vs,rfl,SqL.of ha,fun p hp=>q ⟨_,.ref p,p :: L',.u⟩ _ (qL hp h1 fun c hc=>m9 (y:=⟨.lst xs,.ref pa,pa :: L0,fa⟩) yK ra0 rfl rfl c (h2 c hc)) rfl rfl⟩
 | fls xs =>
  obtain ⟨pa,vs,rfl,ha,rs⟩:=ra.view
  cases e
  obtain ⟨L',h1,h2⟩:=rs.cut lo hi
  exact .inl ⟨pa,vs,rfl,ha.sq,fun p hp=>q ⟨_,.ref p,p :: L',.u⟩ _ (qL hp h1 fun c hc=>ji (y:=⟨.fls xs,.ref pa,La,fa⟩) yK ra0 rfl c (h2 c hc)) rfl rfl⟩
 | tup xs =>
  obtain ⟨pa,vs,rfl,ha,rs⟩:=ra.view
  cases e
  by_cases hw:HT.sIx vs.length 0 lo=0/\HT.sIx vs.length vs.length hi=vs.length
  ·have hc:kG xs lo hi=xs:=by
    unfold kG
    rw [rs.len,hw.1,hw.2,<- rs.len]
    simp
   rw [hc] at q
   exact .inr (.inr ⟨pa,vs,rfl,SqT.of ha,hw,q ⟨.tup xs,.ref pa,La,.z⟩ H (mQ (.tup ha rs) (ji (y:=⟨.tup xs,.ref pa,La,fa⟩) yK ra0 rfl)) rfl rfl⟩)
  ·obtain ⟨L',h1,h2⟩:=rs.cut lo hi
   exact .inr (.inl ⟨pa,vs,rfl,SqT.of ha,hw,fun p hp=>q ⟨_,.ref p,L',.z⟩ _ (vE hp h1 fun c hc=>ji (y:=⟨.tup xs,.ref pa,La,fa⟩) yK ra0 rfl c (h2 c hc)) rfl rfl⟩)
 | _=>exact nsE e
theorem xh:SlR X (fun x lo hi H Q=>xq X.K x lo hi H Q\/(xp X.K x lo hi H Q\/sF X.K x lo hi H Q)):=sl_list.or (sl_tup.or uR)
theorem sB {e:Expr} {lo hi:Option Expr} {p2 pos:Pos} {m:EM} {pl pu:M3 (Option Int)} (he:RE X G0 W0 e m) (hl:RP X G0 W0 lo pl) (hu:RP X G0 W0 hi pu):RE X G0 W0 (.Subscript e (.Slice lo hi none p2) pos) (mSl slD m pl pu):=⟨PE.imp (sR xh he.h hl.h hu.h) fun _ _ _ h=>tE_sl sd_sl h⟩
end
end L3
end
section
namespace L3
open PySem L2
mutual
noncomputable def pyD:D->Option PyData
 | .non=>some .none
 | .bl b=>some (.bool b)
 | .int i=>some (.int i)
 | .str x=>some (.str x)
 | .tup xs=>(gW xs).map .tuple
 | .lst xs=>(gW xs).map .list
 | .fls xs=>(gW xs).map .list
 | .dk _=>none
 | .dt _=>none
 | .exc _ _=>none
noncomputable def gW:List D->Option (List PyData)
 | []=>some []
 | d :: ds=>match pyD d,gW ds with
  | some p,some ps=>some (p :: ps)
  | _,_=>none
end
section
variable {K:FG} {H:Hp} {Ks:Addr->Prop} {d:D} {v:V} {L:List Addr} {X:Cx}
set_option tactic.hygienic true in
theorem Rep.dv (r:Rep K H d v L):∀ p,pyD d=some p->DV K H v p:=by
 refine Rep.rec (motive_1:=fun d v _ _=>∀ p,pyD d=some p->DV K H v p) (motive_2:=fun ds vs _ _=>∀ ps,gW ds=some ps->DVs K H vs ps) ?_ ?_ ?_ ?_ ?_ ?_ ?_ ?_ ?_ ?_ ?_ ?_ r
 ·intro p e;unfold pyD at e;cases e;exact .non
 ·intro _ p e;unfold pyD at e;cases e;exact .bl _
 ·intro _ p e;unfold pyD at e;cases e;exact .int _
 ·intro _ p e;unfold pyD at e;cases e;exact .str _
 ·intro xs a vs L h _ ih p e
  unfold pyD at e
  obtain ⟨ps,e1,rfl⟩:=yO.mp e
  exact .tup (SqT.of h) (ih ps e1)
 ·intro xs a vs L h _ ih p e
  unfold pyD at e
  obtain ⟨ps,e1,rfl⟩:=yO.mp e
  exact .lst (SqL.of h) (ih ps e1)
 ·intro xs a vs L h _ ih p e
  unfold pyD at e
  obtain ⟨ps,e1,rfl⟩:=yO.mp e
  exact .lst h.sq (ih ps e1)
 ·intro _ _ _ _ _ _ _ _ p e;unfold pyD at e;exact nsE e
 ·intro _ _ _ _ _ _ _ _ p e;unfold pyD at e;exact nsE e
 ·intros;rename_i e;unfold pyD at e;exact nsE e
 ·intro ps e;unfold gW at e;cases e;exact .nil
 ·intro d v L ds vs L' _ _ i1 i2 ps e
  unfold gW at e
  cases h1:pyD d with
  | none=>rw [h1] at e;exact nsE e
  | some p =>
   cases h2:gW ds with
   | none=>rw [h1,h2] at e;exact nsE e
   | some qs=>rw [h1,h2] at e;cases e;exact .cons (i1 p h1) (i2 qs h2)
noncomputable def eqP (a b:D):Option Bool:=match pyD a,pyD b with
 | some p,some q=>if p.canLay0 && q.canLay0 && decide (min p.depth q.depth<=30) then some (PyData.eqv p q) else none
 | _,_=>none
noncomputable def eqA (a b:D):Option Bool:=match eqS a b with
 | some k=>some k
 | none=>eqP a b
noncomputable abbrev eqX (a b:D):Option (D × Fl):=(eqA a b).map fun k=>(.bl k,.z)
noncomputable abbrev neX (a b:D):Option (D × Fl):=(eqA a b).map fun k=>(.bl (!k),.z)
noncomputable def rEqP:R2:=fun x y H Q=>∃ p q,DV X.K H x p/\DV X.K H y q/\p.canLay0=true/\q.canLay0=true/\min p.depth q.depth<=30/\Q (.bl (PyData.eqv p q)) H
noncomputable def rNeP:R2:=fun x y H Q=>∃ p q,DV X.K H x p/\DV X.K H y q/\p.canLay0=true/\q.canLay0=true/\min p.depth q.depth<=30/\Q (.bl (!PyData.eqv p q)) H
theorem gE (hu:X.A.units+64 < cLine):OpR X (compareOp .Eq) (fun x y H Q=>rEq x y H Q\/rEqP (X:=X) x y H Q):=by
 intro pins s σ H x y v u Q I rx ry h
 rcases h with h | ⟨p,q,h1,h2,h3,h4,h5,hq⟩
 ·exact op_eq pins s σ H x y v u Q I rx ry h
 ·obtain ⟨as,ra⟩:=DV.reads I h1 rx
  obtain ⟨bs,rb⟩:=DV.reads I h2 ry
  exact PySem.SeqAt.compareEq_reads ra rb h3 h4 (by omega) ⟨.bl _,H,I,rfl,hq⟩
theorem iC (hu:X.A.units+64 < cLine):OpR X (compareOp .NotEq) (fun x y H Q=>rNe x y H Q\/rNeP (X:=X) x y H Q):=by
 intro pins s σ H x y v u Q I rx ry h
 rcases h with h | ⟨p,q,h1,h2,h3,h4,h5,hq⟩
 ·exact op_ne pins s σ H x y v u Q I rx ry h
 ·obtain ⟨as,ra⟩:=DV.reads I h1 rx
  obtain ⟨bs,rb⟩:=DV.reads I h2 ry
  exact PySem.SeqAt.compareNe_reads ra rb h3 h4 (by omega) ⟨.bl _,H,I,rfl,hq⟩
set_option tactic.hygienic true in
theorem p8 {a b:D} {k:Bool} (e:eqP a b=some k):∃ p q,pyD a=some p/\pyD b=some q/\p.canLay0=true/\q.canLay0=true/\min p.depth q.depth<=30/\k=PyData.eqv p q:=by
 unfold eqP at e
 cases h1:pyD a with
 | none=>rw [h1] at e;exact nsE e
 | some p =>
  cases h2:pyD b with
  | none=>rw [h1,h2] at e;exact nsE e
  | some q =>
   rw [h1,h2] at e
   dsimp only at e
   split at e
   ·rename_i h
    cases e
    simp only [Bool.and_eq_true,decide_eq_true_eq] at h
    exact ⟨p,q,rfl,rfl,h.1.1,h.1.2,h.2,rfl⟩
   ·exact nsE e
theorem gF:OpD X.K (fun x y H Q=>rEq x y H Q\/rEqP (X:=X) x y H Q) eqX:=fun a b H Q p ra rb e q=>by
 obtain ⟨k,h1,h2⟩:=yO.mp e
 subst h2
 unfold eqA at h1
 cases hs:eqS a.d b.d with
 | some k' =>
  rw [hs] at h1
  cases h1
  obtain ⟨s,hk⟩:=tZ ra.rep rb.rep hs
  exact .inl ⟨s,by rw [<- hk];exact q ⟨.bl k,.bl k,[],.z⟩ H (fF (.bl k)) rfl rfl⟩
 | none =>
  rw [hs] at h1
  obtain ⟨p,p',e1,e2,e3,e4,e5,rfl⟩:=p8 h1
  exact .inr ⟨p,p',ra.rep.dv p e1,rb.rep.dv p' e2,e3,e4,e5,q ⟨.bl _,.bl _,[],.z⟩ H (fF (.bl _)) rfl rfl⟩
theorem iE:OpD X.K (fun x y H Q=>rNe x y H Q\/rNeP (X:=X) x y H Q) neX:=fun a b H Q p ra rb e q=>by
 obtain ⟨k,h1,h2⟩:=yO.mp e
 subst h2
 unfold eqA at h1
 cases hs:eqS a.d b.d with
 | some k' =>
  rw [hs] at h1
  cases h1
  obtain ⟨s,hk⟩:=tZ ra.rep rb.rep hs
  exact .inl ⟨s,by rw [<- hk];exact q ⟨.bl (!k),.bl (!k),[],.z⟩ H (fF (.bl _)) rfl rfl⟩
 | none =>
  rw [hs] at h1
  obtain ⟨p,p',e1,e2,e3,e4,e5,rfl⟩:=p8 h1
  exact .inr ⟨p,p',ra.rep.dv p e1,rb.rep.dv p' e2,e3,e4,e5,q ⟨.bl _,.bl _,[],.z⟩ H (fF (.bl _)) rfl rfl⟩
theorem t0 {a:D} {p:PyData} (h:pyD a=some p) (hc:p.canLay0=true) (hd:p.depth<=30):eqP a a=some true:=by
 unfold eqP
 rw [h]
 simp [hc,hd,PySem.SeqAt.eqv_refl p hc]
end
end L3
end
section
namespace L3
open PySem L2
set_option tactic.hygienic true in
theorem yo {P:Program} {w:World} {K:FG} {mg:Str->Option Value} {base:Heap} {x:Str} {st:Stmt} {k:Nat} {N ps:List Str} {mask:List Bool} {m:SM} {nn:Nat} {f:Addr} {fd:FuncData} (F:Fun K x x st f fd) (S:FnScope N ps (ah st)) (hml:mask.length=ps.length) (hnn:N.length=nn)
  (body:∀ (cdv:Value) (A:Around) (outer:List Env) (s:Shared) (H:Hp) (E:XK) (f:Addr) (G:Gm),Room k (A.deeper (PyProof.Rows.envOfC x (ah st) s.heap.objs.size f cdv))->G.pr=prM mask->RSs (nv CX0 P w K mg base N x (ah st) f cdv A outer s H E).nox G noX (aU st) m) :
  FnOk P w K mg base CX0 (k+1) f fd ps (qr K (fnM mask nn m)):=by
 refine F.ok S (fun vs H Q E h=>?_) fun cdv A outer s H vs Q E hr h=>?_
 ·obtain ⟨ps',p,fs,rfl,_,_,hF,_⟩:=h
  unfold fnM at hF
  rw [yW] at hF ⊢
  split at hF
  ·rename_i e;rw [e,hml]
  ·exact nsE hF
 ·have hle:mask.length<=nn:=by
   rw [hml,<- hnn]
   have:=congrArg List.length S.pre
   rw [zk] at this
   omega
  obtain ⟨G,hG,ht⟩:=pZ hle h
  subst hnn
  exact ⟨_,(body cdv A outer s H E f G hr hG).h,ht⟩
noncomputable def rW (K:FG):Sp:=fun vs H Q _=>∃ (a:Addr) (ns:List Int),vs=[.ref a]/\SqL K H a (ns.map V.int)/\wd H/\ns.length<=63/\∀ H',Q (.bl true) H'
theorem kW {K:FG} {H:Hp}:∀ ns:List Int,Reps (Rep K H) (ns.map D.int) (ns.map V.int) []
 | []=>.nil
 | n :: ns=>.cons (L:=[]) (.int n) (kW ns)
theorem vO {K:FG} {F:Fn} (hF:∀ ns:List Int,ns.length<=63->∃ fs,F [(.fls (ns.map .int),.z)]=some (.ok (.bl true,.z),fs)) {vs:List V} {H:Hp} {Q:VK} {E:XK} (h:rW K vs H Q E):qr K F vs H Q E:=by
 obtain ⟨a,ns,rfl,hS,hO,hn,q⟩:=h
 obtain ⟨fs,e⟩:=hF ns hn
 have fz:FzL K H a (ns.map V.int):=by
  rcases hS with (h | h) | h
  ·rcases hO a with z | ⟨o,xs,z⟩
   ·rw [h] at z;cases z
   ·rw [h] at z;cases z
  ·exact .inl h
  ·exact .inr h
 refine ⟨[⟨.fls (ns.map .int),.ref a,[],.z⟩],(.bl true,.z),fs,rfl,fun p hp=>?_,.cons (fun _ h=>by cases h) .nil,e,fun x qs H' B x1 x2 _=>?_⟩
 ·rw [zo.mp hp]
  exact ⟨.lstF fz (kW ns),fun h=>absurd rfl h⟩
 ·have r:=B.rep
  rw [x1] at r
  have inv:∀ {v:V} {L:List Addr},Rep K H' (.bl true) v L->v=.bl true:=fun r=>by cases r;rfl
  rw [inv r]
  exact q H'
end L3
end
section
namespace L3
open PySem L2
noncomputable def m7 (ok:D->Bool) (f:List D->Option (D × Fl)) (mo:EM) (ms:M3 (List R3)):EM:=ac mo fun ro=>ac (der ro) fun d0=>if ok d0 then ac ms fun rs=>ac (eh (ro :: rs)) fun ds=>bh ((f ds).map fun p=>R3.val p.1 p.2) else fun _=>none
section
variable {K:FG} {G G0:Gm} {W W0:D->Sto->Prop} {H H':Hp} {σ:St} {ρ ρ':Sto} {T T':List It3} {g:Nat->Option It3} {x y z:It3} {α β:Type} {X:Cx} {v:V} {d:D} {L:List Addr}
theorem uM {Ty:String} {r:V->List V->Hp->VK->Prop} {ok:D->Bool} {f:List D->Option (D × Fl)} {mo:EM} {ms:M3 (List R3)} {Q:VK} (hr:eM K (fun xs H Q=>∃ x vs,xs=x :: vs/\r x vs H Q) f) (hok:∀ d v L H,ok d=true->Rep K H d v L->tyV K Ty v H) (h:tE K G0 W0 (m7 ok f mo ms) σ H Q) :
  tBM K Ty r (tE K G0 W0 mo) (tA K G0 W0 ms) σ H Q:=by
 refine h.use fun G W le ρ T g o ρ' w e q=>?_
 refine tE.seq le w e q.err fun ro ρ1 e1 vo H1 ⟨Ts,g1,w1,a1⟩=>?_
 obtain ⟨d0,d1,e2⟩:=aV e1
 cases hk:ok d0 with
 | false=>rw [hk] at e2;exact nsE e2
 | true =>
  rw [hk] at e2
  obtain ⟨y0,i0,f0,f1⟩:=a1.item w1 (fun x hx=>yP _ hx) d1
  refine ⟨hok d0 vo _ H1 hk (by rw [<- f0,<- f1];exact (w1.itm i0).rep),?_⟩
  refine tA.seq le w1 e2 q.err fun rs ρ2 e3 vs H2 Us g2 w2 a2=>?_
  obtain ⟨ds,d2,e4⟩:=cR e3
  obtain ⟨p,e5,rfl,rfl⟩:=bW e4
  rw [<- List.append_assoc] at w2
  obtain ⟨ys,i1,f2,f3⟩:=(Ars.cons a1 a2).items w2 (fun x hx=>yP _ hx) d2
  subst f2
  cases ef:f (ys.map (·.d)) with
  | none=>rw [ef] at e5;exact nsE e5
  | some s =>
   rw [ef] at e5
   cases e5
   obtain ⟨x',vs',h1,h2⟩:=hr ys H2 Q s (fun y hy=>(w2.itm (i1 y hy)).arg) ef (lf w2 i1 q)
   rw [f3] at h1
   cases h1
   exact h2
theorem vd {o e:Expr} {es:List Expr} {apos cpos:Pos} {id:String} {nm:Str} {Ty:String} {ok:D->Bool} {r:V->List V->Hp->VK->Prop} {f:List D->Option (D × Fl)} {mo:EM} {ms:M3 (List R3)} (pa:PlainAttrs Ty) (slot:Slot Ty nm id) (hty:typeOf (.builtin id)=pure (.type "method_descriptor")) (hm:MtR X id r) (hr:eM X.K (fun xs H Q=>∃ x vs,xs=x :: vs/\r x vs H Q) f) (hok:∀ d v L H,ok d=true->Rep X.K H d v L->tyV X.K Ty v H)
  (ho:RE X G0 W0 o mo) (ha:RA X G0 W0 (e :: es) ms) (hbase:attributeBase o nm X.env (eval o X.env)=eval o X.env)
  (hfew:((backTo cpos (starEach (e :: es) X.env)).all (fun x=>!x.1) && (backToKw cpos (keywordEach [] X.env)).all (fun x=>x.1.isSome) && decide ((e :: es).length+([]:List Keyword).length+(if ([]:List Keyword).isEmpty then 0 else 1) < 30))=true)
  (hline:(apos.endLine == cpos.line)=true) (hs:starEach (e :: es) X.env=(false,eval e X.env) :: starEach es X.env) (hplain:(backTo cpos (starEach es X.env)).any (·.1)=false):RE X G0 W0 (.Call (.Attribute o nm apos) (e :: es) [] cpos) (m7 ok f mo ms) :=
 ⟨PE.imp (ww pa slot hty hm ho.h ha.h hbase hfew hline hs hplain) fun _ _ _ h=>uM hr hok h⟩
noncomputable def bZ:List D->Option (List Int)
 | []=>some []
 | .int i :: ds=>(bZ ds).map (i :: ·)
 | _=>none
set_option tactic.hygienic true in
theorem iJ:∀ {ds:List D} {ns:List Int},bZ ds=some ns->ds=ns.map D.int
 | [],ns,e=>by cases e;rfl
 | d :: ds,ns,e=>by
  cases d <;> try (exact nsE e)
  rename_i b
  obtain ⟨r,h1,h2⟩:=yO.mp (show (bZ ds).map (b :: ·)=some ns from e)
  subst h2
  rw [iJ h1];rfl
theorem Reps.ints:∀ {ns:List Int} {vs:List V} {L:List Addr},Reps (Rep K H) (ns.map D.int) vs L->vs=ns.map V.int
 | [],_,_,.nil=>rfl
 | b :: bs,_,_,.cons r rs=>by
  rw [Reps.ints rs]
  cases r;rfl
noncomputable def lrngQ:D->Option (D × Fl)
 | .int j=>if decide (-4611686018427387904<=j/\j<=16777216) then some (.lst (aY 0 j.toNat),.u) else none
 | _=>none
noncomputable abbrev wA:=c1 lrngQ
noncomputable abbrev pL (ms:M3 (List R3)):EM:=aC wA ms
end
end L3
end
section
namespace L3
open PySem L2
section
variable {K:FG} {G G0:Gm} {W W0:D->Sto->Prop} {H H':Hp} {σ:St} {ρ ρ':Sto} {T T':List It3} {g:Nat->Option It3} {x y z:It3} {α β:Type} {X:Cx} {v:V} {d:D} {L:List Addr}
theorem su:∀ n:Nat,Reps (Rep K H) (aY 0 n) (kC n) []:=by
 intro n
 have h:∀ ns:List Nat,Reps (Rep K H) (ns.map fun (k:Nat)=>D.int (0+(k:Int))) (ns.map fun (k:Nat)=>V.int (0+(k:Int))) []:=by
  intro ns
  induction ns with
  | nil=>exact .nil
  | cons n ns ih=>exact .cons (L:=[]) (.int _) ih
 exact h _
set_option tactic.hygienic true in
theorem uN {ms:M3 (List R3)} {Q:VK} (h:tE K G0 W0 (pL ms) σ H Q):wj (tA K G0 W0 ms) σ H Q:=by
 refine jF (r:=fun xs H Q=>∃ j:Int,xs=[.int j]/\-(2 ^ 62)<=j/\j<=16777216/\∀ p,H p=none->Q (.ref p) (upd H p (.lst (kC j.toNat)))) (fun ys H Q p ra e q=>?_) h
 obtain ⟨y,rfl,e2⟩:=km e
 clear e
 have e:=e2
 clear e2
 have rr:=(ra y yK).rep
 obtain ⟨da,va,La,fa⟩:=y
 dsimp only at rr e
 cases da <;> try (exact nsE e)
 rename_i j
 obtain ⟨rfl,rfl⟩:=rr.view
 have e:(if decide (-4611686018427387904<=j/\j<=16777216)=true then some (D.lst (aY 0 j.toNat),Fl.u) else none)=some p:=e
 split at e
 ·rename_i hj
  cases e
  have hj:=of_decide_eq_true hj
  exact ⟨j,rfl,by omega,hj.2,fun a ha=>q ⟨.lst (aY 0 j.toNat),.ref a,[a],.u⟩ _ (qL ha (su _) fun c hc=>by cases hc) rfl rfl⟩
 ·exact nsE e
theorem po {a:Expr} {ms:M3 (List R3)} {p1 p2 pos1 pos2:Pos} (hc:X.calm=true) (hgl:Gl X "list") (hml:X.mg "list"=none) (hg:Gl X "range") (hm:X.mg "range"=none) (ha:RA X G0 W0 [a] ms)
  (hs:starEach [.Call (.Name "range" p2) [a] [] pos2] X.env=[(false,eval (.Call (.Name "range" p2) [a] [] pos2) X.env)]) (hs2:starEach [a] X.env=[(false,eval a X.env)]) :
  RE X G0 W0 (.Call (.Name "list" p1) [.Call (.Name "range" p2) [a] [] pos2] [] pos1) (pL ms):=⟨PE.imp (vt hc hgl hml hg hm ui ha.h hs hs2) fun _ _ _ h=>uN h⟩
end
end L3
end
section
namespace L3
open PySem L2
section
variable {K:FG} {G G0:Gm} {W W0:D->Sto->Prop} {H H':Hp} {σ:St} {ρ ρ':Sto} {T T':List It3} {g:Nat->Option It3} {x y z:It3} {α β:Type} {X:Cx} {v:V} {d:D} {L:List Addr}
noncomputable def redDQ (g:List Int->Option Int):D->D->Option (D × Fl)
 | .lst xs,.non=>(bZ xs).map fun ns=>match g ns with
  | some m=>(.int m,.z)
  | none=>(.non,.z)
 | .lst xs,.int k=>(bZ xs).map fun ns=>match g ns with
  | some m=>(.int m,.z)
  | none=>(.int k,.z)
 | _,_=>none
noncomputable def inQ (neg:Bool):D->D->Option (D × Fl)
 | .int i,.lst xs=>(bZ xs).map fun ns=>(.bl (if neg then !decide (i ∈ ns) else decide (i ∈ ns)),.z)
 | .int i,.tup xs=>(bZ xs).map fun ns=>(.bl (if neg then !decide (i ∈ ns) else decide (i ∈ ns)),.z)
 | _,_=>none
noncomputable abbrev inD:=inQ false
noncomputable abbrev vD:=inQ true
theorem ng {i:Int}:∀ {ns:List Int},inV (.int i) (ns.map V.int)=decide (i ∈ ns)
 | []=>rfl
 | n :: ns=>by
  have ih:=ng (i:=i) (ns:=ns)
  unfold inV at ih ⊢
  rw [zc,List.any_cons,ih]
  show ((n == i) || decide (i ∈ ns))=decide (i ∈ n :: ns)
  rw [Bool.eq_iff_iff]
  simp only [Bool.or_eq_true,beq_iff_eq,decide_eq_true_eq,yR]
  constructor
  ·rintro (h | h)
   ·exact .inl h.symm
   ·exact .inr h
  ·rintro (h | h)
   ·exact .inl h.symm
   ·exact .inr h
theorem q8 {ns:List Int}:(ns.map V.int).all dh=true:=by simp [dh]
theorem td {neg:Bool}:OpD K (rIn K neg) (inQ neg):=fun a b H Q p ra rb e q=>by
 obtain ⟨da,va,La,fa⟩:=a
 obtain ⟨db,vb,Lb,fb⟩:=b
 obtain ⟨ra,oa⟩:=ra
 obtain ⟨rb,ob⟩:=rb
 dsimp only at ra rb
 have key:∀ {i:Int} {xs:List D} {vs:List V} {L:List Addr} {pb:Addr},(SqL K H pb vs\/SqT K H pb vs)->Reps (Rep K H) xs vs L->((bZ xs).map fun ns=>((.bl (if neg then !decide (i ∈ ns) else decide (i ∈ ns)),.z):D × Fl))=some p->rIn K neg (.int i) (.ref pb) H Q:=fun {i xs vs L pb} hb rs e=>by
  obtain ⟨ns,h1,h2⟩:=yO.mp e
  subst h2
  have:=iJ h1
  subst this
  have:=rs.ints
  subst this
  exact ⟨pb,ns.map V.int,rfl,hb,rfl,q8,by rw [ng];exact q ⟨.bl _,.bl _,[],.z⟩ H (fF (.bl _)) rfl rfl⟩
 cases da <;> try (exact nsE e)
 obtain ⟨rfl,rfl⟩:=ra.view
 cases db <;> try (exact nsE e)
 ·obtain ⟨pb,vs,rfl,hb,rs⟩:=rb.view
  exact key (.inr (SqT.of hb)) rs e
 ·obtain ⟨pb,vs,L,rfl,rfl,hb,rs⟩:=rb.view
  exact key (.inl (SqL.of hb)) rs e
noncomputable def ol:D->D->Option (D × Fl)
 | .lst xs,.int k=>if decide (-(2 ^ 63)<=k/\k < 2 ^ 63/\xs.length * k.toNat<=16777216) then some (.lst (List.replicate k.toNat xs).flatten,.u) else none
 | _,_=>none
theorem Reps.rep {ds:List D} {vs:List V} {L:List Addr} (r:Reps (Rep K H) ds vs L):∀ n:Nat,∃ L',Reps (Rep K H) (List.replicate n ds).flatten (List.replicate n vs).flatten L'/\∀ c ∈ L',c ∈ L
 | 0=>⟨[],.nil,fun _ h=>by cases h⟩
 | n+1=>by
  obtain ⟨L',h1,h2⟩:=Reps.rep r n
  refine ⟨L ++ L',?_,fun c hc=>?_⟩
  ·rw [List.replicate_succ,List.replicate_succ,List.flatten_cons,List.flatten_cons];exact r.append h1
  ·rcases yU.mp hc with h | h
   ·exact h
   ·exact h2 c h
set_option tactic.hygienic true in
theorem s0:OpD K rRep ol:=fun a b H Q p ra rb e q=>by
 obtain ⟨da,va,La,fa⟩:=a
 obtain ⟨db,vb,Lb,fb⟩:=b
 have ra0:=ra
 obtain ⟨ra,oa⟩:=ra
 obtain ⟨rb,ob⟩:=rb
 dsimp only at ra rb
 cases da <;> try (exact nsE e)
 cases db <;> try (exact nsE e)
 rename_i xs k
 obtain ⟨rfl,rfl⟩:=rb.view
 obtain ⟨pa,vs,La,rfl,rfl,ha,rs⟩:=ra.view
 rcases Decidable.em (-(2 ^ 63)<=k/\k < 2 ^ 63/\xs.length * k.toNat<=16777216) with hk | hk
 ·have e:=(if_pos (zd hk)).symm.trans e
  cases e
  obtain ⟨k1,k2,k3⟩:=hk
  obtain ⟨L',h1,h2⟩:=rs.rep k.toNat
  exact ⟨pa,k,vs,rfl,rfl,ha,k1,k2,by rw [<- rs.len,sizeLine_eq];exact k3,fun l hl=>q ⟨_,.ref l,l :: L',.u⟩ _ (qL hl h1 fun c hc=>m9 (y:=⟨.lst xs,.ref pa,pa :: La,fa⟩) yK ra0 rfl rfl c (h2 c hc)) rfl rfl⟩
 ·exact nsE ((if_neg (fun h=>hk (of_decide_eq_true h))).symm.trans e)
noncomputable def uA (i j:Int):Prop:=0 < j/\j < 1267650600228229401496703205376
theorem sY:OpR X (binaryOp .FloorDiv) (rI uA fun i j=>.int (i / j)):=opI fun i j _ _ _ _ _ hc q=>by
 have h1:(0:Int) < j:=hc.1
 have h2:j < 1267650600228229401496703205376:=hc.2
 refine PyProof.Rows.floordiv_int (by omega) (by rw [Int.fdiv_eq_ediv_of_nonneg i (by omega)];exact q) (.inl (PyProof.noPylong_of_log2 ?_))
 have h3:j.natAbs < 2 ^ 100:=by omega
 exact Nat.lt_trans ((Nat.log2_lt (by omega)).mpr h3) (by decide)
noncomputable abbrev yw:=eG (fun _ j=>decide (0 < j/\j < 1267650600228229401496703205376)) fun i j=>.int (i / j)
theorem vB:OpD K (rI uA fun i j=>.int (i / j)) yw:=ig (fun i j h=>by simpa [uA] using h) fun i j _=>.int _
end
end L3
end
section
namespace L3
open PySem L2
end L3
end
section
namespace L3
open PySem L2
end L3
end
section
namespace L3
open PySem L2
end L3
theorem L2.Room.hu {A:PySem.Around} {k:Nat} (hr:L2.Room k A):A.units+1 < PySem.cLine:=L2.hu_of hr
end
section
namespace L3
open PySem L2
section
variable {K:FG} {G G0:Gm} {W W0:D->Sto->Prop} {H H':Hp} {σ:St} {ρ ρ':Sto} {T T':List It3} {g:Nat->Option It3} {x y z:It3} {α β:Type} {X:Cx} {v:V} {d:D} {L:List Addr}
noncomputable def vp:D->List D->Option (D × D)
 | .lst xs,[]=>match xs.getLast? with
  | some (.int i)=>some (.lst xs.dropLast,.int i)
  | _=>none
 | _,_=>none
theorem Reps.popd:∀ {ds:List D} {vs:List V} {L:List Addr} {i:Int},Reps (Rep K H) ds vs L->ds.getLast?=some (.int i)->vs[vs.length - 1]?=some (.int i)/\Reps (Rep K H) ds.dropLast vs.dropLast L
 | _,_,_,i,.nil,e=>by cases e
 | _,_,_,i,.cons (ds:=[]) (L:=L1) r .nil,e=>by
  cases e
  cases r
  exact ⟨rfl,.nil⟩
 | _,_,_,i,.cons (ds:=d' :: ds) (L:=L1) (L':=L2) r rs,e=>by
  have e':(d' :: ds).getLast?=some (.int i):=by rw [List.getLast?_cons_cons] at e;exact e
  obtain ⟨h1,h2⟩:=Reps.popd rs e'
  cases rs with
  | cons r2 rs2 =>
   refine ⟨?_,?_⟩
   ·simpa using h1
   ·exact .cons r h2
theorem xV:MutD K rPop vp:=fun a d L0 as H Q p r m na ra nA e q=>by
 cases d with
 | lst xs =>
  obtain ⟨_,vs,_,e1,e2,ha,rs⟩:=r.view
  cases e1
  cases e2
  match as,e,ra,nA with
  | y :: r,e,_,_=>exact nsE e
  | [],e,ra,nA =>
   have e:(match xs.getLast? with | some (.int i)=>some (D.lst xs.dropLast,D.int i) | _=>none)=some p:=e
   cases hl:xs.getLast? with
   | none=>rw [hl] at e;exact nsE e
   | some dl =>
    rw [hl] at e
    cases dl with
    | int i =>
     cases e
     obtain ⟨h1,h2⟩:=rs.popd hl
     refine ⟨a,vs,.int i,rfl,rfl,ha,h1,?_⟩
     have ma:MutAt H a:=.inl ⟨_,ha⟩
     have keeps:∀ {ds vs' L},Reps (Rep K H) ds vs' L->a ∉ L->Reps (Rep K (upd H a (.lst vs.dropLast))) ds vs' L:=fun {ds vs' L} r n=>r.keep (M:=fun b=>b=a) (fun b o hb h=>by rw [aG h];exact hb) (fun b e=>by rw [e];exact ma) fun b hb e=>n (by rw [<- e];exact hb)
     exact q (.lst vs.dropLast) L0 ⟨.int i,.int i,[],.z⟩ (.lst bm (keeps h2 na)) rfl (fun c hc=>.inl hc) rfl rfl (.int _) fun c hc=>by cases hc
    | _=>exact nsE e
 | _=>exact nsE e
noncomputable def idxQ:D->D->Option (D × Fl)
 | .lst xs,.bl true=>(fB xs).bind fun bs=>if bs.findIdx id < bs.length then some (.int (bs.findIdx id:Nat),.z) else none
 | _,_=>none
noncomputable abbrev yg:=c2 idxQ
set_option tactic.hygienic true in
theorem ub:eM K (fun xs H Q=>∃ x vs,xs=x :: vs/\∃ (a:Addr) (xs:List V) (k:V) (j:Nat),x=.ref a/\vs=[k]/\SqL K H a xs/\dh k=true/\xs.all dh=true/\(∃ y,xs[j]?=some y/\eqV y k=true)/\(∀ (i:Nat) (y:V),i < j->xs[i]?=some y->eqV y k=false)/\Q (.int j) H) yg:=fun ys H Q p ra e q=>by
 obtain ⟨y,z,rfl,e2⟩:=l6 e
 clear e
 have ry:=(ra y yK).rep
 have rz:=(ra z (yM _ yK)).rep
 obtain ⟨da,va,La,fa⟩:=y
 obtain ⟨db,vb,Lb,fb⟩:=z
 dsimp only at ry rz e2
 cases da with
 | lst xs =>
  obtain ⟨pa,vs,L0,rfl,rfl,ha,rs⟩:=ry.view
  cases rz with
  | bl b =>
   cases b with
   | false=>exact nsE e2
   | true =>
    obtain ⟨bs,h1,h2⟩:=zn.mp (show ((fB xs).bind fun bs=>if bs.findIdx id < bs.length then some ((.int (bs.findIdx id:Nat),.z):D × Fl) else none)=some p from e2)
    split at h2
    ·rename_i hl
     cases h2
     have e3:=kn h1
     subst e3
     have e4:=rs.bls
     subst e4
     refine ⟨.ref pa,[.bl true],rfl,pa,bs.map V.bl,.bl true,bs.findIdx id,rfl,rfl,SqL.of ha,rfl,by simp [dh],⟨.bl (bs[bs.findIdx id]),by rw [y7,yS hl];rfl,?_⟩,fun i w hi hw=>?_,q ⟨.int _,.int _,[],.z⟩ H (fF (.int _)) rfl rfl⟩
     ·have:=List.findIdx_getElem (p:=id) (w:=hl)
      show (bs[bs.findIdx id] == true)=true
      simpa using this
     ·rw [y7] at hw
      obtain ⟨b,hb,rfl⟩:=yO.mp hw
      have hib:i < bs.length:=by omega
      have:=List.not_of_lt_findIdx (p:=id) hi
      rw [yS hib] at hb
      cases hb
      show (bs[i] == true)=false
      simpa using this
    ·exact nsE h2
  | _=>exact nsE e2
 | _=>exact nsE e2
noncomputable def jl (x:Int):List Int->List Int
 | []=>[x]
 | y :: ys=>if x<=y then x :: y :: ys else y :: jl x ys
noncomputable def srt:List Int->List Int
 | []=>[]
 | x :: xs=>jl x (srt xs)
theorem cQ (x:Int):∀ l:List Int,(jl x l).Perm (x :: l)
 | []=>.refl _
 | y :: ys=>by
  unfold jl
  split
  ·exact .refl _
  ·exact ((cQ x ys).cons y).trans (.swap x y ys)
theorem eB:∀ l:List Int,(srt l).Perm l
 | []=>.refl _
 | x :: xs=>(cQ x (srt xs)).trans ((eB xs).cons x)
set_option tactic.hygienic true in
theorem i8 (x:Int):∀ {l:List Int},l.Pairwise (·<=·)->(jl x l).Pairwise (·<=·)
 | [],_=>by simp [jl]
 | y :: ys,h=>by
  unfold jl
  have h1:=List.pairwise_cons.mp h
  split
  ·rename_i hx
   refine List.pairwise_cons.mpr ⟨fun z hz=>?_,h⟩
   rcases yR.mp hz with rfl | hz
   ·exact hx
   ·have:=h1.1 z hz
    omega
  ·rename_i hx
   refine List.pairwise_cons.mpr ⟨fun z hz=>?_,i8 x h1.2⟩
   rcases yR.mp ((cQ x ys).subset hz) with rfl | hz
   ·omega
   ·exact h1.1 z hz
theorem jG:∀ l:List Int,(srt l).Pairwise (·<=·)
 | []=>.nil
 | x :: xs=>i8 x (jG xs)
theorem iV:∀ {l l':List Int},l.Perm l'->l.Pairwise (·<=·)->l'.Pairwise (·<=·)->l=l'
 | [],l',p,_,_=>by rw [List.nil_perm.mp p]
 | a :: l,[],p,_,_=>by cases p.length_eq
 | a :: l,b :: l',p,h,h'=>by
  have h1:=List.pairwise_cons.mp h
  have h2:=List.pairwise_cons.mp h'
  have e:a=b:=by
   have m1:=p.subset (yK (a:=a) (l:=l))
   have m2:=p.symm.subset (yK (a:=b) (l:=l'))
   rcases yR.mp m1 with e | m1
   ·exact e
   ·rcases yR.mp m2 with e | m2
    ·exact e.symm
    ·have:=h2.1 a m1
     have:=h1.1 b m2
     omega
  subst e
  rw [iV (List.Perm.cons_inv p) h1.2 h2.2]
noncomputable def sortQ:D->Option (D × Fl)
 | .tup xs=>(bZ xs).bind fun ns=>if ns.length < 64 then some (.lst ((srt ns).map .int),.u) else none
 | .lst xs=>(bZ xs).bind fun ns=>if ns.length < 64 then some (.lst ((srt ns).map .int),.u) else none
 | _=>none
noncomputable abbrev rX:=c1 sortQ
theorem iW:∀ ns:List Int,Reps (Rep K H) (ns.map D.int) (ns.map V.int) []
 | []=>.nil
 | n :: ns=>.cons (L:=[]) (.int n) (iW ns)
set_option tactic.hygienic true in
theorem rj:eM K (sE K) rX:=fun ys H Q p ra e q=>by
 obtain ⟨y,rfl,e2⟩:=km e
 clear e
 have e:=e2
 clear e2
 have rr:=(ra y yK).rep
 obtain ⟨da,va,La,fa⟩:=y
 dsimp only at rr e
 have key:∀ {xs:List D} {vs:List V} {L:List Addr} {pa:Addr},(SqT K H pa vs\/SqL K H pa vs)->Reps (Rep K H) xs vs L->((bZ xs).bind fun ns=>if ns.length < 64 then some ((.lst ((srt ns).map .int),.u):D × Fl) else none)=some p->sE K [.ref pa] H Q:=fun {xs vs L pa} hs rs e=>by
  obtain ⟨ns,h1,h2⟩:=zn.mp e
  split at h2
  ·rename_i h64
   cases h2
   have e3:=iJ h1
   subst e3
   have e4:=rs.ints
   subst e4
   refine ⟨pa,ns,rfl,hs,h64,fun a ha ns' p1 p2=>?_⟩
   rw [iV (p1.trans (eB ns).symm) p2 (jG ns)]
   exact q ⟨.lst ((srt ns).map .int),.ref a,[a],.u⟩ _ (qL ha (iW _) fun c hc=>by cases hc) rfl rfl
  ·exact nsE h2
 cases da <;> try (exact nsE e)
 ·rename_i xs
  obtain ⟨pa,vs,rfl,ha,rs⟩:=rr.view
  exact key (.inl (SqT.of ha)) rs e
 ·rename_i xs
  obtain ⟨pa,vs,La,rfl,rfl,ha,rs⟩:=rr.view
  exact key (.inr (SqL.of ha)) rs e
end
end L3
end
section
namespace Bn
open PySem L2 L3
noncomputable abbrev Pd (p:Int × Int):L3.D:=.tup [.int p.1,.int p.2]
theorem bT {bnd:L3.D->Sto->Option Sto} {b:SM} (P:Nat->Sto->Prop):∀ {ds:List L3.D} {ρ:Sto} {k:Nat},P k ρ->(∀ i d ρ,ds[i]?=some d->P (k+i) ρ->∃ ρ1 ρ2,bnd d ρ=some ρ1/\(b ρ1=some (.ok .nx,ρ2)\/b ρ1=some (.ok .ct,ρ2))/\P (k+i+1) ρ2)->∃ ρ',eJ bnd b ds ρ=some (.ok .nx,ρ')/\P (k+ds.length) ρ'
 | [],ρ,k,h0,_=>⟨ρ,rfl,h0⟩
 | d :: ds,ρ,k,h0,hs=>by
  obtain ⟨ρ1,ρ2,e1,e2,h1⟩:=hs 0 d ρ rfl h0
  obtain ⟨ρ',e3,h3⟩:=bT P (ds:=ds) (ρ:=ρ2) (k:=k+1) h1 fun i d ρ hd hp=>by
   have:=hs (i+1) d ρ (by simpa using hd) (by rwa [show k+(i+1)=k+1+i by omega])
   rwa [show k+(i+1)+1=k+1+i+1 by omega] at this
  refine ⟨ρ',?_,by rw [zj,show k+(ds.length+1)=k+1+ds.length by omega];exact h3⟩
  unfold eJ
  simp only [e1]
  rcases e2 with e2 | e2 <;> simp only [ac,e2,e3]
theorem jz {bnd:L3.D->Sto->Option Sto} {b:SM} (P:Nat->Sto->Prop) (E:Nat->L3.D->Fl->Sto->Prop):∀ {ds:List L3.D} {ρ:Sto} {k:Nat},P k ρ ->
  (∀ i d ρ,ds[i]?=some d->P (k+i) ρ->∃ ρ1 ρ2,bnd d ρ=some ρ1/\(((b ρ1=some (.ok .nx,ρ2)\/b ρ1=some (.ok .ct,ρ2))/\P (k+i+1) ρ2)\/∃ r f,b ρ1=some (.ok (.rt r f),ρ2)/\E (k+i) r f ρ2)) ->
  ∃ ρ',(eJ bnd b ds ρ=some (.ok .nx,ρ')/\P (k+ds.length) ρ')\/∃ i r f,i < ds.length/\eJ bnd b ds ρ=some (.ok (.rt r f),ρ')/\E (k+i) r f ρ'
 | [],ρ,k,h0,_=>⟨ρ,.inl ⟨rfl,h0⟩⟩
 | d :: ds,ρ,k,h0,hs=>by
  obtain ⟨ρ1,ρ2,e1,h1⟩:=hs 0 d ρ rfl h0
  rcases h1 with ⟨e2,h1⟩ | ⟨r,f,e2,h1⟩
  ·obtain ⟨ρ',h3⟩:=jz P E (ds:=ds) (ρ:=ρ2) (k:=k+1) h1 fun i d ρ hd hp=>by
    have:=hs (i+1) d ρ (by simpa using hd) (by rwa [show k+(i+1)=k+1+i by omega])
    rwa [show k+(i+1)=k+1+i by omega] at this
   have e4:eJ bnd b (d :: ds) ρ=eJ bnd b ds ρ2:=by
    conv=>lhs;unfold eJ
    simp only [e1]
    rcases e2 with e2 | e2 <;> simp only [ac,e2]
   rcases h3 with ⟨e3,h3⟩ | ⟨i,r,f,hi,e3,h3⟩
   ·exact ⟨ρ',.inl ⟨e4.trans e3,by rw [zj,show k+(ds.length+1)=k+1+ds.length by omega];exact h3⟩⟩
   ·exact ⟨ρ',.inr ⟨i+1,r,f,by simp;omega,e4.trans e3,by rw [show k+(i+1)=k+1+i by omega];exact h3⟩⟩
  ·refine ⟨ρ2,.inr ⟨0,r,f,by simp,?_,h1⟩⟩
   unfold eJ
   simp only [e1,ac,e2,bj]
theorem b7 {lo:Int} {n i:Nat} {d:L3.D} (h:(aY lo n)[i]?=some d):i < n/\d=.int (lo+i):=by
 unfold aY at h
 rw [y7,yO] at h
 obtain ⟨j,h1,rfl⟩:=h
 have h2:=yX.mp h1
 obtain ⟨h3,h4⟩:=h2
 simp at h3 h4
 subst h4
 exact ⟨h3,rfl⟩
theorem cz {lo:Int} {n:Nat}:(aY lo n).length=n:=by unfold aY;simp
theorem Small.sub {p q:Pt} (hp:Small p) (hq:Small q):(-18446744073709551616 < q.1 - p.1/\q.1 - p.1 < 18446744073709551616)/\(-18446744073709551616 < q.2 - p.2/\q.2 - p.2 < 18446744073709551616):=by
 obtain ⟨a1,a2,a3,a4⟩:=hp
 obtain ⟨b1,b2,b3,b4⟩:=hq
 exact ⟨⟨by omega,by omega⟩,⟨by omega,by omega⟩⟩
theorem en {c:M3 Bool} {b:SM} (P:Nat->Sto->Prop) (Q:Sto->Prop) {n:Nat} {ρ:Sto} (h0:P n ρ)
  (hs:∀ n ρ,P n ρ->(∃ ρ1,c ρ=some (.ok false,ρ1)/\Q ρ1)\/∃ ρ1 ρ2 m,c ρ=some (.ok true,ρ1)/\(b ρ1=some (.ok .nx,ρ2)\/b ρ1=some (.ok .ct,ρ2))/\m < n/\P m ρ2):∃ ρ',cw c b ρ=some (.ok .nx,ρ')/\Q ρ':=by
 have main:∀ n ρ,P n ρ->∃ ρ',bX c b (n+1) ρ=some (.ok .nx,ρ')/\Q ρ':=by
  intro n
  induction n using Nat.strongRecOn with
  | _ n ih =>
   intro ρ hp
   rcases hs n ρ hp with ⟨ρ1,e1,hq⟩ | ⟨ρ1,ρ2,m,e1,e2,hm,hp2⟩
   ·refine ⟨ρ1,?_,hq⟩
    unfold bX
    simp [ac,e1,bj]
   ·obtain ⟨ρ',e3,hq⟩:=ih m hm ρ2 hp2
    refine ⟨ρ',?_,hq⟩
    have e4:=iw (show m+1<=n by omega) e3
    unfold bX
    rcases e2 with e2 | e2 <;> simp [ac,e1,e2,e4]
 obtain ⟨ρ',e,hq⟩:=main n ρ h0
 refine ⟨ρ',?_,hq⟩
 unfold cw
 have h:∃ n r,bX c b n ρ=some r:=⟨_,_,e⟩
 rw [dif_pos h]
 have e2:=Classical.choose_spec (Classical.choose_spec h)
 have e3:=iw (Nat.le_max_left (n+1) (Classical.choose h)) e
 have e4:=iw (Nat.le_max_right (n+1) (Classical.choose h)) e2
 rw [e3] at e4
 exact e4.symm
theorem al {a b:SM} {ρ ρ1:Sto} {r:Option (Except L3.D Flw × Sto)} (h1:a ρ=some (.ok .nx,ρ1)) (h2:b ρ1=r):aK a b ρ=r:=by
 simp only [aK,ac,h1]
 exact h2
theorem eK {bnd:L3.D->Sto->Option Sto} {c:M3 Bool} {elt:EM} (P:Sto->Prop) (g:L3.D->Bool) (f:L3.D->L3.D):∀ {ds:List L3.D} {τ:Sto},P τ ->
  (∀ d ∈ ds,∀ τ,P τ->∃ τ1 τ2,bnd d τ=some τ1/\c τ1=some (.ok (g d),τ2)/\(g d=false->P τ2)/\(g d=true->∃ r τ3 p τ4,elt τ2=some (.ok r,τ3)/\eA r τ3=some (.ok p,τ4)/\p.1=f d/\P τ4)) ->
  ∃ τ',bE bnd c elt ds τ=some (.ok ((ds.filter g).map f),τ')/\P τ'
 | [],τ,h0,_=>⟨τ,rfl,h0⟩
 | d :: ds,τ,h0,hs=>by
  obtain ⟨τ1,τ2,e1,e2,hf,ht⟩:=hs d yK τ h0
  cases hg:g d with
  | false =>
   obtain ⟨τ',e,hp⟩:=eK P g f (ds:=ds) (τ:=τ2) (hf hg) fun d hd=>hs d (yM _ hd)
   refine ⟨τ',?_,hp⟩
   unfold bE
   rw [hg] at e2
   simp [e1,ac,e2,e,List.filter_cons,hg]
  | true =>
   obtain ⟨r,τ3,p,τ4,e3,e4,e5,hp4⟩:=ht hg
   obtain ⟨τ',e,hp⟩:=eK P g f (ds:=ds) (τ:=τ4) hp4 fun d hd=>hs d (yM _ hd)
   refine ⟨τ',?_,hp⟩
   unfold bE
   rw [hg] at e2
   simp [e1,ac,e2,e3,e4,e,List.filter_cons,hg,bj,e5]
noncomputable abbrev Tri:=Nat × Nat × Nat
noncomputable def kB (i j m:Nat):List Tri:=(List.range m).map fun k=>(i,j,j+1+k)
noncomputable def iA (n i m:Nat):List Tri:=(List.range m).flatMap fun j=>kB i (i+1+j) (n - (i+1+j+1))
noncomputable def lA (n m:Nat):List Tri:=(List.range m).flatMap fun i=>iA n i (n - (i+1))
noncomputable def uE (n:Nat):List Tri:=lA n n
theorem mF (i j m:Nat):(kB i j m).length=m:=by simp [kB]
theorem kS (n i m:Nat):iA n i (m+1)=iA n i m ++ kB i (i+1+m) (n - (i+1+m+1)):=by simp [iA,List.range_succ,List.flatMap_append]
theorem kT (n m:Nat):lA n (m+1)=lA n m ++ iA n m (n - (m+1)):=by simp [lA,List.range_succ,List.flatMap_append]
theorem tw {i j m:Nat} {t:Tri} (h:t ∈ kB i j m):t.1=i/\t.2.1=j/\j < t.2.2/\t.2.2 < j+1+m:=by
 obtain ⟨k,hk,rfl⟩:=y6.mp h
 rw [List.mem_range] at hk
 exact ⟨rfl,rfl,by show j < j+1+k;omega,by show j+1+k < j+1+m;omega⟩
theorem tv {n:Nat} {t:Tri} (h:t ∈ uE n):t.1 < t.2.1/\t.2.1 < t.2.2/\t.2.2 < n:=by
 obtain ⟨i,hi,h⟩:=List.mem_flatMap.mp h
 obtain ⟨j,hj,h⟩:=List.mem_flatMap.mp h
 rw [List.mem_range] at hi hj
 obtain ⟨h1,h2,h3,h4⟩:=tw h
 exact ⟨by omega,by omega,by omega⟩
theorem pg (n i m:Nat):(iA n i m).length<=m * n:=by
 induction m with
 | zero=>simp [iA]
 | succ m ih=>rw [kS,zi,mF,Nat.succ_mul];omega
theorem u6 (n m:Nat):(lA n m).length<=m * (n * n):=by
 induction m with
 | zero=>simp [lA]
 | succ m ih =>
  rw [kT,zi,Nat.succ_mul]
  have:=pg n m (n - (m+1))
  have h2:(n - (m+1)) * n<=n * n:=Nat.mul_le_mul (by omega) (y8 _)
  omega
theorem oi {n m:Nat} (hn:n<=25) (hm:m<=25):(lA n m).length<=15625:=by
 have h1:=u6 n m
 have h2:n * n<=25 * 25:=Nat.mul_le_mul hn hn
 have h3:m * (n * n)<=25 * (25 * 25):=Nat.mul_le_mul hm h2
 omega
theorem oh {n i m:Nat} (hn:n<=25) (hm:m<=25):(iA n i m).length<=625:=by
 have h1:=pg n i m
 have h2:m * n<=25 * 25:=Nat.mul_le_mul hm hn
 omega
noncomputable abbrev Td (t:Tri):L3.D:=.tup [.int t.1,.int t.2.1,.int t.2.2]
noncomputable abbrev Shd (ps:List Pt):L3.D:=.tup (ps.map Pd)
theorem bq {im:IM} {bnd:L3.D->Sto->Option Sto} {c:M3 Bool} {elt:EM} {ix:List (Option Nat)} {ρ ρ1 ρ2 τ:Sto} {rs:List R3} {ds out:List L3.D} (h1:im ρ=some (.ok (rs,ds),ρ1)) (h2:bE bnd c elt ds (oU ix (aJ cN (us ρ1 (pls rs)) ρ1))=some (.ok out,τ)) (h3:ds.length < 16777216) (h4:uncap ix τ (aJ cN (us ρ1 (pls rs)) ρ1)=some ρ2) :
  bR im bnd c elt ix ρ=some (.ok (.val (.lst out) .u),aJ fD (us ρ1 (pls rs)) ρ2):=by
 simp [bR,ac,h1,h2,h3,h4]
theorem nP:∀ {ds:List L3.D},(∀ d ∈ ds,d=.bl true)->fB ds=some (List.replicate ds.length true)
 | [],_=>rfl
 | d :: ds,h=>by
  have h1:=h d yK
  subst h1
  have h2:=nP fun d hd=>h d (yM _ hd)
  simp [fB,h2,List.replicate_succ]
theorem iS {ds:List L3.D} (h:∀ d ∈ ds,d=.bl true):yF (.lst ds)=some (.bl true,.z):=by
 simp [yF,nP h]
theorem jB {xs:List L3.D} {i:Nat} {d:L3.D} (h:xs[i]?=some d):L2.atI xs (i:Int)=some d:=by
 obtain ⟨h1,h2⟩:=yX.mp h
 simp [L2.atI,ixN,h1,h2]
theorem o3 {ps:List Pt} {i:Nat} {p:Pt} (h:ps[i]?=some p):L2.atI (ps.map Pd) (i:Int)=some (Pd p):=jB (by simp [h])
theorem tN {f:List L3.D->Option (List L3.D)} {ms:M3 (List R3)} {ρ ρ1 ρ2:Sto} {rs:List R3} {ds xs:List L3.D} (h1:ms ρ=some (.ok rs,ρ1)) (h2:eh rs ρ1=some (.ok ds,ρ2)) (h3:f ds=some xs):bI f ms ρ=some (.ok ([],xs),ρ2):=by
 simp [bI,ac,h1,h2,h3,bh]
theorem ph {a b:Int} (ha:-1000<=a/\a<=1000) (hb:-1000<=b/\b<=1000) {n:Nat} (hn:(b - a).toNat=n):jN [.int a,.int b]=some (aY a n):=by
 have lm:fw a=true:=zd (by omega)
 have lm2:fw b=true:=zd (by omega)
 show (if (fw a && fw b)=true then some (aY a (b - a).toNat) else none)=_
 rw [lm,lm2,hn]
 exact if_pos rfl
theorem cU {b:Int} (hb:-1000<=b/\b<=1000) {n:Nat} (hn:b.toNat=n):c5 [.int b]=some (aY 0 n):=by
 have lm2:fw b=true:=zd (by omega)
 show (if (fw b)=true then some (aY 0 b.toNat) else none)=_
 rw [lm2,hn]
 exact if_pos rfl
end Bn
end
section
namespace Bn
open PySem L2 L3
section
variable {α:Type} {ρ ρ1 ρ2 ρ3:Sto} {ma mb mc m:EM} {ms:M3 (List R3)} {ra rb r:R3} {rs:List R3} {da db d:L3.D} {ds:List L3.D} {fl:Fl} {i n np:Nat} {sa sb:SM} {c cc:M3 Bool} {b b2:Bool} {x:Option (Except L3.D Flw × Sto)} {y:Option (Except L3.D R3 × Sto)}
theorem bJ {p:L3.D × Fl} (h:(ρ[i]?).join=some p):ad i ρ=some (.ok (.pl i),ρ):=by simp [ad,h]
theorem i_c:mC d ρ=some (.ok (.val d .z),ρ):=rfl
theorem gb {f:L3.D->L3.D->Option (L3.D × Fl)} (h1:ma ρ=some (.ok ra,ρ1)) (h2:mb ρ1=some (.ok rb,ρ2)) (h3:der ra ρ2=some (.ok da,ρ2)) (h4:der rb ρ2=some (.ok db,ρ2)) (h5:f da db=some (d,fl)):ai f ma mb ρ=some (.ok (.val d fl),ρ2):=by
 simp only [ai,ac,h1,h2,h3,h4,bh,h5,zm]
theorem i_un {f:L3.D->Option (L3.D × Fl)} (h1:ma ρ=some (.ok ra,ρ1)) (h3:der ra ρ1=some (.ok da,ρ1)) (h5:f da=some (d,fl)):mUn f ma ρ=some (.ok (.val d fl),ρ1):=by
 simp only [mUn,ac,h1,h3,bh,h5,zm]
theorem c3 {f:List L3.D->Option (L3.D × Fl)} (h1:ms ρ=some (.ok rs,ρ1)) (h3:eh rs ρ1=some (.ok ds,ρ1)) (h5:f ds=some (d,fl)):aC f ms ρ=some (.ok (.val d fl),ρ1):=by
 simp only [aC,ac,h1,h3,bh,h5,zm]
theorem cO:ak ρ=some (.ok [],ρ):=rfl
theorem b5 (h1:m ρ=some (.ok r,ρ1)) (h2:ms ρ1=some (.ok rs,ρ2)):ab m ms ρ=some (.ok (r :: rs),ρ2):=by
 simp only [ab,ac,h1,h2,bj]
theorem j7 {mk:List L3.D->L3.D} {f:Fl} (h1:ms ρ=some (.ok rs,ρ1)) (h2:gives rs ρ1=some (.ok ds,ρ2)) (h3:ds.length<=16777216):vJ mk f ms ρ=some (.ok (.val (mk ds) f),ρ2):=by
 simp only [vJ,ac,h1,h2,bh,h3,if_true,zm]
theorem aE {F:Fn} {ps qs:List (L3.D × Fl)} (hF:F ps=some (.ok (d,fl),qs)) (h1:ms ρ=some (.ok rs,ρ1)) (h2:prs (frz (nq rs) ρ1) rs=some ps) (h3:qs.length=ps.length) (h4:back rs ps qs (frz (nq rs) ρ1) = ρ2):aA F ms ρ=some (.ok (.val d fl),ρ2):=by
 simp only [aA,ac,h1,h2,hF,h3,if_true,h4]
theorem pU {p:L3.D × Fl} (h1:m ρ=some (.ok r,ρ1)) (h2:eA r ρ1=some (.ok p,ρ2)) (h3:i < ρ2.length) (h4:ρ2.set i (some p) = ρ3):bp i m ρ=some (.ok .nx,ρ3):=by
 simp only [bp,ac,h1,h2,h3,if_true,h4]
theorem i_asg {bnd:L3.D->Sto->Option Sto} {p:L3.D × Fl} (h1:m ρ=some (.ok r,ρ1)) (h2:eA r ρ1=some (.ok p,ρ2)) (h3:bnd p.1 ρ2=some ρ3):r9 bnd m ρ=some (.ok .nx,ρ3):=by
 simp only [r9,ac,h1,h2,h3,zm]
theorem yk (h1:m ρ=some (.ok r,ρ1)):dg m ρ=some (.ok .nx,ρ1):=by
 simp only [dg,ac,h1,bj]
noncomputable def retF (np:Nat) (r:R3):SM:=bD np (bj r)
theorem d6 (h1:m ρ=some (.ok r,ρ1)) (h2:retF np r ρ1=x):bD np m ρ=x:=by
 rw [<- h2]
 unfold retF
 simp only [bD,ac,h1,bj]
theorem jJ (h1:sa ρ=some (.ok (.rt d fl),ρ1)):aK sa sb ρ=some (.ok (.rt d fl),ρ1):=by
 simp only [aK,ac,h1,bj]
theorem lR (h1:m ρ=some (.ok r,ρ1)) (h2:der r ρ1=some (.ok (.bl b),ρ1)):cB m ρ=some (.ok b,ρ1):=by
 simp only [cB,ac,h1,h2,bh,asB,zm]
theorem lQ (h1:c ρ=some (.ok b,ρ1)):jp c ρ=some (.ok (!b),ρ1):=by
 simp only [jp,ac,h1,bj]
theorem i9 (h1:c ρ=some (.ok b,ρ1)) (hb:b=true) (h2:sa ρ1=x):sIf c sa sb ρ=x:=by
 subst hb;simp only [sIf,ac,h1,if_true];exact h2
theorem d7 (h1:c ρ=some (.ok b,ρ1)) (hb:b=false) (h2:sb ρ1=x):sIf c sa sb ρ=x:=by
 subst hb;simp only [sIf,ac,h1,zp,if_false];exact h2
theorem la (h1:c ρ=some (.ok b,ρ1)) (hb:b=false) (h2:cc ρ1=some (.ok b2,ρ2)):cOr c cc ρ=some (.ok b2,ρ2):=by
 subst hb;simp only [cOr,ac,h1,zp,if_false];exact h2
theorem i_orT (h1:c ρ=some (.ok b,ρ1)) (hb:b=true):cOr c cc ρ=some (.ok true,ρ1):=by
 subst hb;simp only [cOr,ac,h1,if_true];rfl
theorem yl (h1:c ρ=some (.ok b,ρ1)) (hb:b=true) (h2:cc ρ1=some (.ok b2,ρ2)):oZ c cc ρ=some (.ok b2,ρ2):=by
 subst hb;simp only [oZ,ac,h1,if_true];exact h2
theorem ym (h1:c ρ=some (.ok b,ρ1)) (hb:b=false):oZ c cc ρ=some (.ok false,ρ1):=by
 subst hb;simp only [oZ,ac,h1,zp,if_false];rfl
theorem lP (h1:ma ρ=some (.ok r,ρ1)) (h2:der r ρ1=some (.ok (.bl b),ρ1)) (hb:b=true) (h3:mb ρ1=y):jh ma mb ρ=y:=by
 subst hb;simp only [jh,ac,h1,h2,bh,asB,zm,if_true];exact h3
theorem yi (h1:c ρ=some (.ok b,ρ1)) (hb:b=true) (h2:ma ρ1=y):mIf c ma mb ρ=y:=by
 subst hb;simp only [mIf,ac,h1,if_true];exact h2
theorem yj (h1:c ρ=some (.ok b,ρ1)) (hb:b=false) (h2:mb ρ1=y):mIf c ma mb ρ=y:=by
 subst hb;simp only [mIf,ac,h1,zp,if_false];exact h2
theorem i_sl {f:L3.D->Option Int->Option Int->Option (L3.D × Fl)} {pl pu:M3 (Option Int)} {lo hi:Option Int} (h1:ma ρ=some (.ok ra,ρ1)) (h2:pl ρ1=some (.ok lo,ρ2)) (h3:pu ρ2=some (.ok hi,ρ3)) (h4:der ra ρ3=some (.ok da,ρ3)) (h5:f da lo hi=some (d,fl)):mSl f ma pl pu ρ=some (.ok (.val d fl),ρ3):=by
 simp only [mSl,ac,h1,h2,h3,h4,bh,h5,zm]
theorem vQ {k:Int} (h1:m ρ=some (.ok r,ρ1)) (h2:der r ρ1=some (.ok (.int k),ρ1)):mM m ρ=some (.ok (some k),ρ1):=by
 simp only [mM,ac,h1,h2,bh,asI,zm]
theorem i_mut {ok:L3.D->Bool} {f:L3.D->List L3.D->Option (L3.D × L3.D)} {d2 d3 d4:L3.D} (h0:(ρ[i]?).join=some (d,fl)) (hk:ok d=true) (h1:ms ρ=some (.ok rs,ρ1)) (h2:gives rs ρ1=some (.ok ds,ρ2)) (h3:(ρ2[i]?).join=some (d2,.u)) (h4:f d2 ds=some (d3,d4)) (h5:ρ2.set i (some (d3,.u)) = ρ3):ic ok f i ms ρ=some (.ok (.val d4 .z),ρ3):=by
 simp only [ic,ac,bJ h0,chk,h0,hk,if_true,h1,h2,h3,h4,h5]
theorem i_sub {f:L3.D->List L3.D->Option (L3.D × L3.D)} {d2 d3 d4:L3.D} (h1:mb ρ=some (.ok rb,ρ1)) (h0:(ρ1[i]?).join=some (d,fl)) (h2:ma ρ1=some (.ok ra,ρ2)) (h3:gives [ra,rb] ρ2=some (.ok ds,ρ3)) (h4:(ρ3[i]?).join=some (d2,.u)) (h5:f d2 ds=some (d3,d4)):r6 f i ma mb ρ=some (.ok .nx,ρ3.set i (some (d3,.u))):=by
 simp only [r6,ac,h1,bJ h0,h2,h3,h4,h5]
theorem yh {ok:L3.D->Bool} {f:List L3.D->Option (L3.D × Fl)} {d0:L3.D} (h1:ma ρ=some (.ok ra,ρ1)) (h2:der ra ρ1=some (.ok d0,ρ1)) (hk:ok d0=true) (h3:ms ρ1=some (.ok rs,ρ2)) (h4:eh (ra :: rs) ρ2=some (.ok ds,ρ2)) (h5:f ds=some (d,fl)):m7 ok f ma ms ρ=some (.ok (.val d fl),ρ2):=by
 simp only [m7,ac,h1,h2,hk,if_true,h3,h4,bh,h5,zm]
theorem bx {mask:List Bool} {ps qs:List (L3.D × Fl)} (h1:ps.length=mask.length) (h0:ja n (List.zipWith qR mask ps) = ρ) (h2:sa ρ=some (.ok (.rt d fl),ρ1)) (h3:gu ρ1 0 (List.zipWith qR mask ps)=some qs):fnM mask n sa ps=some (.ok (d,fl),qs):=by
 subst h0;simp only [fnM,h1,if_true,fn0,h2,h3,zm]
theorem F_nx {mask:List Bool} {ps qs:List (L3.D × Fl)} (h1:ps.length=mask.length) (h0:ja n (List.zipWith qR mask ps) = ρ) (h2:sa ρ=some (.ok .nx,ρ1)) (h3:gu ρ1 0 (List.zipWith qR mask ps)=some qs):fnM mask n sa ps=some (.ok (.non,.z),qs):=by
 subst h0;simp only [fnM,h1,if_true,fn0,h2,h3,zm]
theorem fR {i j:Int} (h:-18446744073709551616 < i/\i < 18446744073709551616):eY (.int i) (.int j)=some (.int (i * j),.z):=by
 simp [eG,h]
theorem tq {i j:Int} (h:-18446744073709551616 < j/\j < 18446744073709551616):eY (.int i) (.int j)=some (.int (i * j),.z):=by
 simp [eG,h]
theorem fA {im:IM} {bnd:L3.D->Sto->Option Sto} {o:Except L3.D Flw} (h1:im ρ=some (.ok (rs,ds),ρ1)) (hp:us ρ1 (pls rs)=[]) (h2:eJ bnd sb ds ρ1=some (o,ρ2)):du im bnd sb ρ=some (o,ρ2):=by
 have h4:∀ f ρ,aJ f [] ρ = ρ:=fun _ _=>rfl
 simp only [du,ac,h1,hp,h4,h2,zm]
theorem tO {im:IM} {bnd:L3.D->Sto->Option Sto} {o:Except L3.D Flw} {is:List Nat} (h1:im ρ=some (.ok (rs,ds),ρ1)) (hp:us ρ1 (pls rs)=is) (h2:eJ bnd sb ds (aJ cN is ρ1)=some (o,ρ2)):du im bnd sb ρ=some (o,aJ fD is ρ2):=by
 simp only [du,ac,h1,hp,h2,zm]
theorem jy (h1:m ρ=some (.ok r,ρ1)) (h2:der r ρ1=some (.ok d,ρ1)) (h3:wq d=some ds):cq m ρ=some (.ok ([r],ds),ρ1):=by
 simp only [cq,ac,h1,h2,bh,h3,zm]
theorem eI {f:List L3.D->Option (List L3.D)} {xs:List L3.D} (h1:ms ρ=some (.ok rs,ρ1)) (h2:eh rs ρ1=some (.ok ds,ρ1)) (h3:f ds=some xs):bI f ms ρ=some (.ok ([],xs),ρ1):=tN h1 h2 h3
end
theorem b8 {α:Type} {bnd:L3.D->Sto->Option Sto} {c:M3 Bool} {elt:EM} (P:Sto->Prop) (D:α->L3.D) (g:α->Bool) (f:α->L3.D):∀ {xs:List α} {τ:Sto},P τ ->
  (∀ x ∈ xs,∀ τ,P τ->∃ τ1 τ2,bnd (D x) τ=some τ1/\c τ1=some (.ok (g x),τ2)/\(g x=false->P τ2)/\(g x=true->∃ r τ3 p τ4,elt τ2=some (.ok r,τ3)/\eA r τ3=some (.ok p,τ4)/\p.1=f x/\P τ4)) ->
  ∃ τ',bE bnd c elt (xs.map D) τ=some (.ok ((xs.filter g).map f),τ')/\P τ'
 | [],τ,h0,_=>⟨τ,rfl,h0⟩
 | x :: xs,τ,h0,hs=>by
  obtain ⟨τ1,τ2,e1,e2,hf,ht⟩:=hs x yK τ h0
  cases hg:g x with
  | false =>
   obtain ⟨τ',e,hp⟩:=b8 P D g f (xs:=xs) (τ:=τ2) (hf hg) fun d hd=>hs d (yM _ hd)
   refine ⟨τ',?_,hp⟩
   rw [zc]
   unfold bE
   rw [hg] at e2
   simp [e1,ac,e2,e,List.filter_cons,hg]
  | true =>
   obtain ⟨r,τ3,p,τ4,e3,e4,e5,hp4⟩:=ht hg
   obtain ⟨τ',e,hp⟩:=b8 P D g f (xs:=xs) (τ:=τ4) hp4 fun d hd=>hs d (yM _ hd)
   refine ⟨τ',?_,hp⟩
   rw [zc]
   unfold bE
   rw [hg] at e2
   simp [e1,ac,e2,e3,e4,e,List.filter_cons,hg,bj,e5]
section
variable {α:Type} {P:List α->Prop} {us:List α}
theorem bnd0 (h:us.length=0) (f:P []):P us:=by
 cases us with
 | nil=>exact f
 | cons a us=>cases h
theorem yC {n:Nat} (h:us.length=n+1) (f:∀ a r,r.length=n->P (a :: r)):P us:=by
 cases us with
 | nil=>cases h
 | cons a us=>exact f a us (Nat.succ.inj h)
theorem bnd1 (h:us.length=1) (f:∀ a,P [a]):P us:=yC h fun a _ h=>bnd0 (P:=fun r=>P (a :: r)) h (f a)
theorem bnd2 (h:us.length=2) (f:∀ a b,P [a,b]):P us:=yC h fun a _ h=>bnd1 (P:=fun r=>P (a :: r)) h (f a)
theorem bnd3 (h:us.length=3) (f:∀ a b c,P [a,b,c]):P us:=yC h fun a _ h=>bnd2 (P:=fun r=>P (a :: r)) h (f a)
end
theorem hb1 {x:Str} {st:Stmt} {p0:Str} (f:∀ (kV doc pm:Value) (an:Option Addr) (cdv ct a0:Value),bindArgs (PySem.W.fnOf x x (bg st) (aU st) (ah st) .none kV doc pm an cdv ct) ⟨[a0],[]⟩=pure ([p0].zip [a0])) (kV doc pm:Value) (an:Option Addr) (cdv ct:Value) (us:List Value) (hl:us.length=[p0].length):bindArgs (PySem.W.fnOf x x (bg st) (aU st) (ah st) .none kV doc pm an cdv ct) ⟨us,[]⟩=pure ([p0].zip us) :=
 bnd1 (P:=fun us=>bindArgs (PySem.W.fnOf x x (bg st) (aU st) (ah st) .none kV doc pm an cdv ct) ⟨us,[]⟩=pure ([p0].zip us)) hl (f kV doc pm an cdv ct)
theorem hb2 {x:Str} {st:Stmt} {p0 p1:Str} (f:∀ (kV doc pm:Value) (an:Option Addr) (cdv ct a0 a1:Value),bindArgs (PySem.W.fnOf x x (bg st) (aU st) (ah st) .none kV doc pm an cdv ct) ⟨[a0,a1],[]⟩=pure ([p0,p1].zip [a0,a1])) (kV doc pm:Value) (an:Option Addr) (cdv ct:Value) (us:List Value) (hl:us.length=[p0,p1].length):bindArgs (PySem.W.fnOf x x (bg st) (aU st) (ah st) .none kV doc pm an cdv ct) ⟨us,[]⟩=pure ([p0,p1].zip us) :=
 bnd2 (P:=fun us=>bindArgs (PySem.W.fnOf x x (bg st) (aU st) (ah st) .none kV doc pm an cdv ct) ⟨us,[]⟩=pure ([p0,p1].zip us)) hl (f kV doc pm an cdv ct)
theorem hb3 {x:Str} {st:Stmt} {p0 p1 p2:Str} (f:∀ (kV doc pm:Value) (an:Option Addr) (cdv ct a0 a1 a2:Value),bindArgs (PySem.W.fnOf x x (bg st) (aU st) (ah st) .none kV doc pm an cdv ct) ⟨[a0,a1,a2],[]⟩=pure ([p0,p1,p2].zip [a0,a1,a2])) (kV doc pm:Value) (an:Option Addr) (cdv ct:Value) (us:List Value) (hl:us.length=[p0,p1,p2].length):bindArgs (PySem.W.fnOf x x (bg st) (aU st) (ah st) .none kV doc pm an cdv ct) ⟨us,[]⟩=pure ([p0,p1,p2].zip us) :=
 bnd3 (P:=fun us=>bindArgs (PySem.W.fnOf x x (bg st) (aU st) (ah st) .none kV doc pm an cdv ct) ⟨us,[]⟩=pure ([p0,p1,p2].zip us)) hl (f kV doc pm an cdv ct)
end Bn
end
section
namespace Bn
open PySem L2 L3
local macro_rules | `(tactic| infer_instance)=>`(tactic| first | with_reducible apply bJ | with_reducible exact i_c | with_reducible apply gb | with_reducible apply i_un | with_reducible apply c3 | with_reducible exact cO | with_reducible apply b5 | with_reducible apply j7 | with_reducible apply pU | with_reducible apply i_asg | with_reducible apply yk | with_reducible apply d6 | with_reducible exact i_nilS | with_reducible apply lR | with_reducible apply lQ | with_reducible apply i_mNot | with_reducible apply i_sl | with_reducible exact i_pNone | with_reducible apply vQ | with_reducible apply i_mut | with_reducible apply i_sub | with_reducible apply jy | with_reducible apply eI | with_reducible apply lP | with_reducible apply la)
local macro_rules | `(tactic| eq_refl)=>`(tactic| first | exact rfl | exact Nat.le_of_ble_eq_true rfl)
section
variable {X:Cx} {G0:Gm} {W0:L3.D->Sto->Prop} {pos:Pos}
theorem rvl (i:Nat) {x:Str} (hN:X.N[i]?=some x:=by exact rfl) (hv:Vis X.env.scope x:=by exact Or.inl rfl) (hd:(x == ("__debug__":Str))=false:=by decide) (hc:(x == ("__classdict__":Str))=false:=by decide):RE X G0 W0 (.Name x pos) (ad i):=sA i hN hv hd hc
theorem rvc (i:Nat) {x:Str} (hN:X.N[i]?=some x:=by exact rfl) (hv:Vis X.env.scope x:=by exact Or.inr (Or.inl rfl)) (hd:(x == ("__debug__":Str))=false:=by decide) (hc:(x == ("__classdict__":Str))=false:=by decide):RE X G0 W0 (.Name x pos) (ad i):=sA i hN hv hd hc
end
section
variable {P:Program} {w:World} {K:FG} {mg:Str->Option Value} {base:Heap}
noncomputable def oI:SM:=(bD 1 (jh (mUn (lL "int") (ad 0)) (vK (mUn (lL "bool") (ad 0)))))
noncomputable def ci:Fn:=fnM [false] 1 oI
theorem mq:FnScope ["thing"] ["thing"] (ah eQ):=⟨rfl,rfl,rfl,by decide +kernel,rfl,by decide +kernel,by decide +kernel⟩
theorem lZ (B:Bl mg) (D:Def K mg "is_whole" eQ):aQ P w K mg base "is_whole" 1 ["thing"] ci :=
 aZ (k:=0) D mq rfl rfl (hb1 fun _ _ _ _ _ _ _=>rfl) fun cdv A outer s H E f G hr hp =>
  (aj (aL 1 (fun i hi=>by rw [hp];exact aD (by simpa using hi)) (fP (fN il rfl B.isinstance (dW (v:=V.ty "int") rfl B.int wH rfl (by decide) (by decide)) (rvl 0) rfl rfl rfl) (iB (sC (fN gz rfl B.isinstance (dW (v:=V.ty "bool") rfl B.bool uk rfl (by decide) (by decide)) (rvl 0) rfl rfl rfl))))))
noncomputable def oK:SM:=(bD 1 (jh (mUn (lL "tuple") (ad 0)) (jh (ai eqX (aC df (ab (ad 0) ak)) (mC (.int 2))) (jh (aA ci (ab (ai aH (ad 0) (mC (.int 0))) ak)) (aA ci (ab (ai aH (ad 0) (mC (.int 1))) ak))))))
noncomputable def fq:Fn:=fnM [false] 1 oK
theorem mw:FnScope ["thing"] ["thing"] (ah eS):=⟨rfl,rfl,rfl,by decide +kernel,rfl,by decide +kernel,by decide +kernel⟩
theorem l4 (B:Bl mg) (D:Def K mg "is_point" eS) (C_is_whole:aQ P w K mg base "is_whole" 1 ["thing"] ci):aQ P w K mg base "is_point" 2 ["thing"] fq :=
 aZ (k:=1) D mw rfl rfl (hb1 fun _ _ _ _ _ _ _=>rfl) fun cdv A outer s H E f G hr hp =>
  (aj (aL 1 (fun i hi=>by rw [hp];exact aD (by simpa using hi)) (fP (fN dP rfl B.isinstance (dW (v:=V.ty "tuple") rfl B.tuple cH rfl (by decide) (by decide)) (rvl 0) rfl rfl rfl) (fP (jQ (gE hr.units) gF (aF aw bH rfl B.len cI (aa (rvl 0) ae rfl) (by decide) (by decide) rfl rfl) af (bc _)) (fP (au C_is_whole (hr.mono (by decide)) (aa (aI (aB hr.hu) ay (rvl 0) af (fun _ _=>rfl)) ae rfl) rfl (by decide) rfl rfl) (iB (au C_is_whole (hr.mono (by decide)) (aa (aI (aB hr.hu) ay (rvl 0) af (fun _ _=>rfl)) ae rfl) rfl (by decide) rfl rfl)))))))
noncomputable def oM:SM:=(bD 2 (jh (aA ci (ab (ad 0) ak)) (iG leI ltI (mC (.int 0)) (ad 0) (ad 1))))
noncomputable def ft:Fn:=fnM [false,false] 2 oM
theorem mx:FnScope ["thing","many"] ["thing","many"] (ah eT):=⟨rfl,rfl,rfl,by decide +kernel,rfl,by decide +kernel,by decide +kernel⟩
theorem l5 (B:Bl mg) (D:Def K mg "is_place" eT) (C_is_whole:aQ P w K mg base "is_whole" 1 ["thing"] ci):aQ P w K mg base "is_place" 2 ["thing","many"] ft :=
 aZ (k:=1) D mx rfl rfl (hb2 fun _ _ _ _ _ _ _ _=>rfl) fun cdv A outer s H E f G hr hp =>
  (aj (aL 2 (fun i hi=>by rw [hp];exact aD (by simpa using hi)) (fP (au C_is_whole (hr.mono (by decide)) (aa (rvl 0) ae rfl) rfl (by decide) rfl rfl) (iB (mH kZ s9 jU k4 af (rvl 0) (rvl 1) (fun h1 h2 h3=>mK kZ jU h1 h2 h3))))))
noncomputable def kE:SM:=(sIf (jp (cB (aA ft (ab (ad 0) (ab (ad 1) ak))))) lx fE)
noncomputable def c4:Fn:=fnM [false,false] 2 kE
theorem jL:FnScope ["thing","many"] ["thing","many"] (ah cT):=⟨rfl,rfl,rfl,by decide +kernel,rfl,by decide +kernel,by decide +kernel⟩
theorem jo (B:Bl mg) (D:Def K mg "check_place" cT) (C_is_place:aQ P w K mg base "is_place" 2 ["thing","many"] ft):aQ P w K mg base "check_place" 3 ["thing","many"] c4 :=
 aZ (k:=2) D jL rfl rfl (hb2 fun _ _ _ _ _ _ _ _=>rfl) fun cdv A outer s H E f G hr hp =>
  (aj (dU (fL (eU (au C_is_place (hr.mono (by decide)) (aa (rvl 0) (aa (rvl 1) ae rfl) rfl) rfl (by decide) rfl rfl) (fun _=>rfl))) (aj jM) bL))
noncomputable def c9:EM:=(aA fq (ab (ad 0) ak))
noncomputable def fv:EM:=(bR (cq (ad 0)) (am 0) dB c9 [none])
noncomputable def lJ:SM:=(bD 1 (jh (iG leI leI (mC (.int 1)) (aC df (ab (ad 0) ak)) (mC (.int (24)))) (aC wb (ab fv ak))))
noncomputable def dE:Fn:=fnM [false] 1 lJ
theorem kA:FnScope ["things"] ["things"] (ah dq):=⟨rfl,rfl,rfl,by decide +kernel,rfl,by decide +kernel,by decide +kernel⟩
theorem kj (B:Bl mg) (D:Def K mg "are_points" dq) (C_is_point:aQ P w K mg base "is_point" 2 ["thing"] fq) {tk_MOST_POINTS:Tok} (Q_MOST_POINTS:mg "MOST_POINTS"=some (.int (24) tk_MOST_POINTS)):aQ P w K mg base "are_points" 3 ["things"] dE :=
 aZ (k:=2) D kA rfl rfl (hb1 fun _ _ _ _ _ _ _=>rfl) fun cdv A outer s H E f G hr hp =>
  (aj (aL 1 (fun i hi=>by rw [hp];exact aD (by simpa using hi)) (fP (mH kZ s9 kZ s9 af (aF aw bH rfl B.len cI (aa (rvl 0) ae rfl) (by decide) (by decide) rfl rfl) (fO rfl Q_MOST_POINTS (by decide)) (fun h1 h2 h3=>mK kZ kZ h1 h2 h3)) (iB (aF (kh rfl) oT rfl B.all ul (aa (cW ["thing"] [none] rfl (cf (rvl 0)) (fun s H C fp=>cy) (fun s H C fp=>(au C_is_point (hr.mono (by decide)) (aa (rvl 0) ae rfl) rfl (by decide) rfl rfl)) (by rfl) (cG (by decide)) (fun _=>rfl) ⟨_,a7 rfl,fun s H C fp=>bB (i:=0) (show (["thing"]:List Str).Nodup by decide +kernel) rfl (Or.inl rfl) (Or.inr rfl)⟩) ae rfl) (by decide) (by decide) rfl rfl)))))
noncomputable def cE:EM:=(ai ltI (ai aH (ai aH (ad 1) (ad 0)) (mC (.int 0))) (ai aH (ai aH (ad 1) (ai fj (ad 0) (mC (.int 1)))) (mC (.int 0))))
noncomputable def d5:EM:=(bR (bI c5 (ab (ai gD (aC df (ab (ad 0) ak)) (mC (.int 1))) ak)) (am 0) dB cE [none,some 0])
noncomputable def fX:SM:=(bD 1 (aC wb (ab d5 ak)))
noncomputable def cL:Fn:=fnM [false] 1 fX
theorem jf:FnScope ["points"] ["points"] (ah cv):=⟨rfl,rfl,rfl,by decide +kernel,rfl,by decide +kernel,by decide +kernel⟩
theorem iQ (B:Bl mg) (D:Def K mg "has_rising_x" cv):aQ P w K mg base "has_rising_x" 1 ["points"] cL :=
 aZ (k:=0) D jf rfl rfl (hb1 fun _ _ _ _ _ _ _=>rfl) fun cdv A outer s H E f G hr hp =>
  (aj (aL 1 (fun i hi=>by rw [hp];exact aD (by simpa using hi)) (aF (kh rfl) oT rfl B.all ul (aa (cW ["at","points"] [none,some 0] rfl (cV rfl B.range (aa (ao cA bN (aF aw bH rfl B.len cI (aa (rvc 0) ae rfl) (by decide) (by decide) rfl rfl) af) ae rfl) rfl) (fun s H C fp=>cy) (fun s H C fp=>(jQ jU k4 (aI (aB hr.hu) ay (aI (aB hr.hu) ay (rvc 1) (rvl 0) (fun _ _=>rfl)) af (fun _ _=>rfl)) (aI (aB hr.hu) ay (aI (aB hr.hu) ay (rvc 1) (ao bM cC (rvl 0) af) (fun _ _=>rfl)) af (fun _ _=>rfl)) (bc _))) (by rfl) (cG (by decide)) (fun _=>rfl) ⟨_,a7 rfl,fun s H C fp=>bB (i:=0) (show (["at","points"]:List Str).Nodup by decide +kernel) rfl (Or.inl rfl) (Or.inr rfl)⟩) ae rfl) (by decide) (by decide) rfl rfl)))
noncomputable def xX:SM:=(aK (bp 3 (ai eY (ai gD (ai aH (ad 1) (mC (.int 0))) (ai aH (ad 0) (mC (.int 0)))) (ai gD (ai aH (ad 2) (mC (.int 1))) (ai aH (ad 0) (mC (.int 1)))))) (bD 3 (ai gD (ad 3) (ai eY (ai gD (ai aH (ad 1) (mC (.int 1))) (ai aH (ad 0) (mC (.int 1)))) (ai gD (ai aH (ad 2) (mC (.int 0))) (ai aH (ad 0) (mC (.int 0))))))))
noncomputable def iT:Fn:=fnM [false,false,false] 4 xX
theorem sc_bend:FnScope ["first","second","third","run"] ["first","second","third"] (ah lw):=⟨rfl,rfl,rfl,by decide +kernel,rfl,by decide +kernel,by decide +kernel⟩
theorem ue (B:Bl mg) (D:Def K mg "bend" lw):aQ P w K mg base "bend" 1 ["first","second","third"] iT :=
 aZ (k:=0) D sc_bend rfl rfl (hb3 fun _ _ _ _ _ _ _ _ _=>rfl) fun cdv A outer s H E f G hr hp =>
  (ag (aO 3 sc_bend.nd rfl (Or.inl rfl) (ao bY bC (ao cA bN (aI (aB hr.hu) ay (rvl 1) af (fun _ _=>rfl)) (aI (aB hr.hu) ay (rvl 0) af (fun _ _=>rfl))) (ao cA bN (aI (aB hr.hu) ay (rvl 2) af (fun _ _=>rfl)) (aI (aB hr.hu) ay (rvl 0) af (fun _ _=>rfl)))) rfl (Or.inl rfl) (by rw [hp];rfl)) (aj (aL 3 (fun i hi=>by rw [hp];exact aD (by simpa using hi)) (ao cA bN (rvl 3) (ao bY bC (ao cA bN (aI (aB hr.hu) ay (rvl 1) af (fun _ _=>rfl)) (aI (aB hr.hu) ay (rvl 0) af (fun _ _=>rfl))) (ao cA bN (aI (aB hr.hu) ay (rvl 2) af (fun _ _=>rfl)) (aI (aB hr.hu) ay (rvl 0) af (fun _ _=>rfl))))))))
noncomputable def fT:EM:=(oN (ab (ad 1) (ab (ad 2) (ab (ad 0) ak))))
noncomputable def iY:EM:=(bR (bI jN (ab (ai fj (ad 3) (mC (.int 1))) (ab (ad 0) ak))) (am 0) dB fT [none,some 2,some 3])
noncomputable def fU:SM:=(dg (ic isL tX 1 (ab iY ak)))
noncomputable def iZ:SM:=(du (bI jN (ab (ai fj (ad 2) (mC (.int 1))) (ab (ad 0) ak))) (am 3) fU)
noncomputable def tD:SM:=(aK (bp 1 (fG ak)) (aK (du (bI c5 (ab (ad 0) ak)) (am 2) iZ) (bD 1 (ad 1))))
noncomputable def ir:Fn:=fnM [false] 4 tD
theorem sc_threes:FnScope ["many","found","i","j"] ["many"] (ah gQ):=⟨rfl,rfl,rfl,by decide +kernel,rfl,by decide +kernel,by decide +kernel⟩
theorem oV (B:Bl mg) (D:Def K mg "threes" gQ):aQ P w K mg base "threes" 1 ["many"] ir :=
 aZ (k:=0) D sc_threes rfl rfl (hb1 fun _ _ _ _ _ _ _=>rfl) fun cdv A outer s H E f G hr hp =>
  (ag (aO 1 sc_threes.nd rfl (Or.inl rfl) (c8 ae) rfl (Or.inl rfl) (by rw [hp];rfl)) (ag (cP PassesOwn.never rfl (cV rfl B.range (aa (rvl 0) ae rfl) rfl) (bF 2 sc_threes.nd rfl (Or.inr rfl) (Or.inl rfl) (by rw [hp];rfl)) (aj (cP PassesOwn.never rfl (pi rfl B.range (aa (ao bM cC (rvc 2) af) (aa (rvl 0) ae rfl) rfl) rfl rfl) (bF 3 sc_threes.nd rfl (Or.inr rfl) (Or.inl rfl) (by rw [hp];rfl)) (aj (cx (gj (ok:=isL) PySem.F.plainAttrs_list PySem.F.slot_list_extend PySem.F.type_list_extend qM xW fZ (eX (i:=1) rfl (Or.inl rfl) (by decide) (by decide)) (aa (cW ["k","i","j"] [none,some 2,some 3] rfl (pi rfl B.range (aa (ao bM cC (rvc 3) af) (aa (rvl 0) ae rfl) rfl) rfl rfl) (fun s H C fp=>cy) (fun s H C fp=>(jP (aa (rvc 1) (aa (rvc 2) (aa (rvl 0) ae rfl) rfl) rfl))) (by rfl) (cG (by decide)) (fun _=>rfl) ⟨_,a7 rfl,fun s H C fp=>bB (i:=0) (show (["k","i","j"]:List Str).Nodup by decide +kernel) rfl (Or.inl rfl) (Or.inr rfl)⟩) ae rfl) rfl rfl rfl rfl rfl) rfl)) (fun _=>rfl))) (fun _=>rfl)) (aj (aL 1 (fun i hi=>by rw [hp];exact aD (by simpa using hi)) (rvl 1)))))
noncomputable def cg:EM:=(ai aH (ad 1) (ad 0))
noncomputable def dL:EM:=(bR (cq (ad 1)) (am 0) dB cg [none,some 0])
noncomputable def bG:SM:=(aK (bp 2 (aC kr (ab dL ak))) (sIf (cB (ai eqX (aA iT (ab (ai aH (ad 2) (mC (.int 0))) (ab (ai aH (ad 2) (mC (.int 1))) (ab (ai aH (ad 2) (mC (.int 2))) ak)))) (mC (.int 0)))) (bD 1 (ad 2)) fE))
noncomputable def jg:SM:=(aK (du (cq (aA ir (ab (aC df (ab (ad 0) ak)) ak))) (am 1) bG) (bD 1 (mC .non)))
noncomputable def cb:Fn:=fnM [false] 3 jg
theorem sc_first_on_line:FnScope ["points","three","found"] ["points"] (ah b9):=⟨rfl,rfl,rfl,by decide +kernel,rfl,by decide +kernel,by decide +kernel⟩
theorem io (B:Bl mg) (D:Def K mg "first_on_line" b9) (C_bend:aQ P w K mg base "bend" 1 ["first","second","third"] iT) (C_threes:aQ P w K mg base "threes" 1 ["many"] ir):aQ P w K mg base "first_on_line" 2 ["points"] cb :=
 aZ (k:=1) D sc_first_on_line rfl rfl (hb1 fun _ _ _ _ _ _ _=>rfl) fun cdv A outer s H E f G hr hp =>
  (ag (cP PassesOwn.never rfl (cf (au C_threes (hr.mono (by decide)) (aa (aF aw bH rfl B.len cI (aa (rvc 0) ae rfl) (by decide) (by decide) rfl rfl) ae rfl) rfl (by decide) rfl rfl)) (bF 1 sc_first_on_line.nd rfl (Or.inl rfl) (Or.inl rfl) (by rw [hp];rfl)) (ag (aO 2 sc_first_on_line.nd rfl (Or.inl rfl) (cj a9 gf rfl B.tuple cH (aa (cW ["place","points"] [none,some 0] rfl (cf (rvl 1)) (fun s H C fp=>cy) (fun s H C fp=>(aI (aB hr.hu) ay (rvc 1) (rvl 0) (fun _ _=>rfl))) (by rfl) (cG (by decide)) (fun _=>rfl) ⟨_,a7 rfl,fun s H C fp=>bB (i:=0) (show (["place","points"]:List Str).Nodup by decide +kernel) rfl (Or.inl rfl) (Or.inr rfl)⟩) ae rfl) (by decide) (by decide) rfl rfl) rfl (Or.inl rfl) (by rw [hp];rfl)) (aj (dU (bA (gE hr.units) gF (au C_bend (hr.mono (by decide)) (aa (aI (aB hr.hu) ay (rvl 2) af (fun _ _=>rfl)) (aa (aI (aB hr.hu) ay (rvl 2) af (fun _ _=>rfl)) (aa (aI (aB hr.hu) ay (rvl 2) af (fun _ _=>rfl)) ae rfl) rfl) rfl) rfl (by decide) rfl rfl) af (bc _)) (aj (aL 1 (fun i hi=>by rw [hp];exact aD (by simpa using hi)) (rvl 2))) bL))) (fun _=>rfl)) (aj (aL 1 (fun i hi=>by rw [hp];exact aD (by simpa using hi)) sD)))
noncomputable def oJ:SM:=(aK (sIf (cOr (jp (cB (mUn (lL "tuple") (ad 0)))) (jp (cB (aA dE (ab (ad 0) ak))))) (bD 1 (mC (.bl false))) fE) (bD 1 (jh (aA cL (ab (ad 0) ak)) (ai isN (aA cb (ab (ad 0) ak)) (mC .non)))))
noncomputable def fo:Fn:=fnM [false] 1 oJ
theorem mr:FnScope ["thing"] ["thing"] (ah eR):=⟨rfl,rfl,rfl,by decide +kernel,rfl,by decide +kernel,by decide +kernel⟩
theorem l0 (B:Bl mg) (D:Def K mg "is_sheet" eR) (C_are_points:aQ P w K mg base "are_points" 3 ["things"] dE) (C_first_on_line:aQ P w K mg base "first_on_line" 2 ["points"] cb) (C_has_rising_x:aQ P w K mg base "has_rising_x" 1 ["points"] cL):aQ P w K mg base "is_sheet" 4 ["thing"] fo :=
 aZ (k:=3) D mr rfl rfl (hb1 fun _ _ _ _ _ _ _=>rfl) fun cdv A outer s H E f G hr hp =>
  (ag (dU (sk (mz (fL (eU (fN dP rfl B.isinstance (dW (v:=V.ty "tuple") rfl B.tuple cH rfl (by decide) (by decide)) (rvl 0) rfl rfl rfl) (fun _=>rfl))) (ly (fL (eU (au C_are_points (hr.mono (by decide)) (aa (rvl 0) ae rfl) rfl (by decide) rfl rfl) (fun _=>rfl)))))) (aj (aL 1 (fun i hi=>by rw [hp];exact aD (by simpa using hi)) fu)) bL) (aj (aL 1 (fun i hi=>by rw [hp];exact aD (by simpa using hi)) (fP (au C_has_rising_x (hr.mono (by decide)) (aa (rvl 0) ae rfl) rfl (by decide) rfl rfl) (iB (jQ xL xO (au C_first_on_line (hr.mono (by decide)) (aa (rvl 0) ae rfl) rfl (by decide) rfl rfl) sD (bc _)))))))
noncomputable def kD:SM:=(sIf (jp (cB (aA fo (ab (ad 0) ak)))) lx fE)
noncomputable def ba:Fn:=fnM [false] 1 kD
theorem jK:FnScope ["thing"] ["thing"] (ah cS):=⟨rfl,rfl,rfl,by decide +kernel,rfl,by decide +kernel,by decide +kernel⟩
theorem jn (B:Bl mg) (D:Def K mg "check_sheet" cS) (C_is_sheet:aQ P w K mg base "is_sheet" 4 ["thing"] fo):aQ P w K mg base "check_sheet" 5 ["thing"] ba :=
 aZ (k:=4) D jK rfl rfl (hb1 fun _ _ _ _ _ _ _=>rfl) fun cdv A outer s H E f G hr hp =>
  (aj (dU (fL (eU (au C_is_sheet (hr.mono (by decide)) (aa (rvl 0) ae rfl) rfl (by decide) rfl rfl) (fun _=>rfl))) (aj jM) bL))
noncomputable def qO:SM:=(bD 2 (mIf (cB (ai gtI (aA iT (ab (ai aH (ad 0) (ai aH (ad 1) (mC (.int 0)))) (ab (ai aH (ad 0) (ai aH (ad 1) (mC (.int 1)))) (ab (ai aH (ad 0) (ai aH (ad 1) (mC (.int 2)))) ak)))) (mC (.int 0)))) (mC (.int 1)) (mUn tf (mC (.int 1)))))
noncomputable def eL:Fn:=fnM [false,false] 2 qO
theorem nY:FnScope ["sheet","three"] ["sheet","three"] (ah gg):=⟨rfl,rfl,rfl,by decide +kernel,rfl,by decide +kernel,by decide +kernel⟩
theorem nG (B:Bl mg) (D:Def K mg "turn_at" gg) (C_bend:aQ P w K mg base "bend" 1 ["first","second","third"] iT):aQ P w K mg base "turn_at" 2 ["sheet","three"] eL :=
 aZ (k:=1) D nY rfl rfl (hb2 fun _ _ _ _ _ _ _ _=>rfl) fun cdv A outer s H E f G hr hp =>
  (aj (aL 2 (fun i hi=>by rw [hp];exact aD (by simpa using hi)) (re_if (bA pF pH (au C_bend (hr.mono (by decide)) (aa (aI (aB hr.hu) ay (rvl 0) (aI (aB hr.hu) ay (rvl 1) af (fun _ _=>rfl)) (fun _ _=>rfl)) (aa (aI (aB hr.hu) ay (rvl 0) (aI (aB hr.hu) ay (rvl 1) af (fun _ _=>rfl)) (fun _ _=>rfl)) (aa (aI (aB hr.hu) ay (rvl 0) (aI (aB hr.hu) ay (rvl 1) af (fun _ _=>rfl)) (fun _ _=>rfl)) ae rfl) rfl) rfl) rfl (by decide) rfl rfl) af (bc _)) af (pk lp lq af))))
noncomputable def aP:M3 Bool:=(oZ (cB (ai gtI (aC df (ab (ad 2) ak)) (mC (.int 1)))) (cB (ai neX (aA eL (ab (ad 0) (ab (oN (ab (ai aH (ad 2) (mUn tf (mC (.int 2)))) (ab (ai aH (ad 2) (mUn tf (mC (.int 1)))) (ab (ad 3) ak)))) ak))) (ad 1))))
noncomputable def bf:SM:=(dg (ic isL vp 2 ak))
noncomputable def dI:SM:=(aK (cw aP bf) (dg (ic isL jq 2 (ab (ad 3) ak))))
noncomputable def i5:SM:=(aK (bp 2 (fG ak)) (aK (du (bI c5 (ab (aC df (ab (ad 0) ak)) ak)) (am 3) dI) (bD 2 (aC kr (ab (ad 2) ak)))))
noncomputable def bz:Fn:=fnM [false,false] 4 i5
theorem sc_outer_row:FnScope ["sheet","way","row","place"] ["sheet","way"] (ah dS):=⟨rfl,rfl,rfl,by decide +kernel,rfl,by decide +kernel,by decide +kernel⟩
theorem kI (B:Bl mg) (D:Def K mg "outer_row" dS) (C_turn_at:aQ P w K mg base "turn_at" 2 ["sheet","three"] eL):aQ P w K mg base "outer_row" 3 ["sheet","way"] bz :=
 aZ (k:=2) D sc_outer_row rfl rfl (hb2 fun _ _ _ _ _ _ _ _=>rfl) fun cdv A outer s H E f G hr hp =>
  (ag (aO 2 sc_outer_row.nd rfl (Or.inl rfl) (c8 ae) rfl (Or.inl rfl) (by rw [hp];rfl)) (ag (cP PassesOwn.never rfl (cV rfl B.range (aa (aF aw bH rfl B.len cI (aa (rvl 0) ae rfl) (by decide) (by decide) rfl rfl) ae rfl) rfl) (bF 3 sc_outer_row.nd rfl (Or.inl rfl) (Or.inl rfl) (by rw [hp];rfl)) (ag (gU PassesOwn.never (sk (xk (bA pF pH (aF aw bH rfl B.len cI (aa (rvl 2) ae rfl) (by decide) (by decide) rfl rfl) af (bc _)) (uV (bA (iC hr.units) iE (au C_turn_at (hr.mono (by decide)) (aa (rvl 0) (aa (jP (aa (aI (aB hr.hu) ay (rvl 2) (pk lp lq af) (fun _ _=>rfl)) (aa (aI (aB hr.hu) ay (rvl 2) (pk lp lq af) (fun _ _=>rfl)) (aa (rvl 3) ae rfl) rfl) rfl)) ae rfl) rfl) rfl (by decide) rfl rfl) (rvl 1) (bc _))))) (aj (cx (u9 (ok:=isL) PySem.F.plainAttrs_list PySem.F.slot_list_pop PySem.F.type_list_pop xT xV fZ (eX (i:=2) rfl (Or.inl rfl) (by decide) (by decide)) rfl rfl) rfl))) (aj (cx (gj (ok:=isL) PySem.F.plainAttrs_list PySem.F.slot_list_append PySem.F.type_list_append eD jX fZ (eX (i:=2) rfl (Or.inl rfl) (by decide) (by decide)) (aa (rvl 3) ae rfl) rfl rfl rfl rfl rfl) rfl))) (fun _=>rfl)) (aj (aL 2 (fun i hi=>by rw [hp];exact aD (by simpa using hi)) (cj a9 gf rfl B.tuple cH (aa (rvl 2) ae rfl) (by decide) (by decide) rfl rfl)))))
noncomputable def jZ:SM:=(bD 2 (aC kr (ab (aC rX (ab (ai fj (ad 0) (mSl slD (ad 1) (mM (mC (.int 1))) (mM (mUn tf (mC (.int 1)))))) ak)) ak)))
noncomputable def cJ:Fn:=fnM [false,false] 2 jZ
theorem je:FnScope ["low","high"] ["low","high"] (ah cr):=⟨rfl,rfl,rfl,by decide +kernel,rfl,by decide +kernel,by decide +kernel⟩
theorem iO (B:Bl mg) (D:Def K mg "ring_of_rows" cr):aQ P w K mg base "ring_of_rows" 1 ["low","high"] cJ :=
 aZ (k:=0) D je rfl rfl (hb2 fun _ _ _ _ _ _ _ _=>rfl) fun cdv A outer s H E f G hr hp =>
  (aj (aL 2 (fun i hi=>by rw [hp];exact aD (by simpa using hi)) (cj a9 gf rfl B.tuple cH (aa (aF nE rj rfl B.sorted uh (aa (ao bM cC (rvl 0) (sB (rvl 1) (pc af) (pc (pk lp lq af)))) ae rfl) (by decide) (by decide) rfl rfl) ae rfl) (by decide) (by decide) rfl rfl)))
noncomputable def gY:SM:=(aK (dg (aA ba (ab (ad 0) ak))) (aK (sIf (cB (ai ltI (aC df (ab (ad 0) ak)) (mC (.int (3))))) lx fE) (bD 1 (aA cJ (ab (aA bz (ab (ad 0) (ab (mC (.int (1))) ak))) (ab (aA bz (ab (ad 0) (ab (mC (.int (-1))) ak))) ak))))))
noncomputable def dD:Fn:=fnM [false] 1 gY
theorem kz:FnScope ["sheet"] ["sheet"] (ah dn):=⟨rfl,rfl,rfl,by decide +kernel,rfl,by decide +kernel,by decide +kernel⟩
theorem ki (B:Bl mg) (D:Def K mg "outer_ring" dn) (C_check_sheet:aQ P w K mg base "check_sheet" 5 ["thing"] ba) (C_outer_row:aQ P w K mg base "outer_row" 3 ["sheet","way"] bz) (C_ring_of_rows:aQ P w K mg base "ring_of_rows" 1 ["low","high"] cJ) {tk_DOWN:Tok} (Q_DOWN:mg "DOWN"=some (.int (-1) tk_DOWN)) {tk_LEAST_CORNERS:Tok} (Q_LEAST_CORNERS:mg "LEAST_CORNERS"=some (.int (3) tk_LEAST_CORNERS)) {tk_UP:Tok} (Q_UP:mg "UP"=some (.int (1) tk_UP)):aQ P w K mg base "outer_ring" 6 ["sheet"] dD :=
 aZ (k:=5) D kz rfl rfl (hb1 fun _ _ _ _ _ _ _=>rfl) fun cdv A outer s H E f G hr hp =>
  (ag (cx (au C_check_sheet (hr.mono (by decide)) (aa (rvl 0) ae rfl) rfl (by decide) rfl rfl) rfl) (ag (dU (bA jU k4 (aF aw bH rfl B.len cI (aa (rvl 0) ae rfl) (by decide) (by decide) rfl rfl) (fO rfl Q_LEAST_CORNERS (by decide)) (bc _)) (aj jM) bL) (aj (aL 1 (fun i hi=>by rw [hp];exact aD (by simpa using hi)) (au C_ring_of_rows (hr.mono (by decide)) (aa (au C_outer_row (hr.mono (by decide)) (aa (rvl 0) (aa (fO rfl Q_UP (by decide)) ae rfl) rfl) rfl (by decide) rfl rfl) (aa (au C_outer_row (hr.mono (by decide)) (aa (rvl 0) (aa (fO rfl Q_DOWN (by decide)) ae rfl) rfl) rfl (by decide) rfl rfl) ae rfl) rfl) rfl (by decide) rfl rfl)))))
noncomputable def bP:EM:=(ai aH (ad 1) (ad 0))
noncomputable def dY:EM:=(bR (cq (ad 1)) (am 0) dB bP [none,some 0])
noncomputable def bO:EM:=(ai aH (ad 1) (ad 0))
noncomputable def dX:EM:=(bR (cq (ad 2)) (am 0) dB bO [none,some 1])
noncomputable def dJ:SM:=(aK (sIf (cB (ai ltI (aC df (ab (ad 1) ak)) (mC (.int (3))))) (bD 2 (aC kr (ab (ad 1) ak))) fE) (aK (bp 2 (aA dD (ab (aC kr (ab dY ak)) ak))) (bD 2 (aC kr (ab dX ak)))))
noncomputable def cK:Fn:=fnM [false,false] 3 dJ
theorem sc_outer_places:FnScope ["sheet","places","ring"] ["sheet","places"] (ah cu):=⟨rfl,rfl,rfl,by decide +kernel,rfl,by decide +kernel,by decide +kernel⟩
theorem iP (B:Bl mg) (D:Def K mg "outer_places" cu) (C_outer_ring:aQ P w K mg base "outer_ring" 6 ["sheet"] dD) {tk_LEAST_CORNERS:Tok} (Q_LEAST_CORNERS:mg "LEAST_CORNERS"=some (.int (3) tk_LEAST_CORNERS)):aQ P w K mg base "outer_places" 7 ["sheet","places"] cK :=
 aZ (k:=6) D sc_outer_places rfl rfl (hb2 fun _ _ _ _ _ _ _ _=>rfl) fun cdv A outer s H E f G hr hp =>
  (ag (dU (bA jU k4 (aF aw bH rfl B.len cI (aa (rvc 1) ae rfl) (by decide) (by decide) rfl rfl) (fO rfl Q_LEAST_CORNERS (by decide)) (bc _)) (aj (aL 2 (fun i hi=>by rw [hp];exact aD (by simpa using hi)) (cj a9 gf rfl B.tuple cH (aa (rvc 1) ae rfl) (by decide) (by decide) rfl rfl))) bL) (ag (aO 2 sc_outer_places.nd rfl (Or.inl rfl) (au C_outer_ring (hr.mono (by decide)) (aa (cj a9 gf rfl B.tuple cH (aa (cW ["place","sheet"] [none,some 0] rfl (cf (rvc 1)) (fun s H C fp=>cy) (fun s H C fp=>(aI (aB hr.hu) ay (rvc 1) (rvl 0) (fun _ _=>rfl))) (by rfl) (cG (by decide)) (fun _=>rfl) ⟨_,a7 rfl,fun s H C fp=>bB (i:=0) (show (["place","sheet"]:List Str).Nodup by decide +kernel) rfl (Or.inl rfl) (Or.inr rfl)⟩) ae rfl) (by decide) (by decide) rfl rfl) ae rfl) rfl (by decide) rfl rfl) rfl (Or.inl rfl) (by rw [hp];rfl)) (aj (aL 2 (fun i hi=>by rw [hp];exact aD (by simpa using hi)) (cj a9 gf rfl B.tuple cH (aa (cW ["at","places"] [none,some 1] rfl (cf (rvl 2)) (fun s H C fp=>cy) (fun s H C fp=>(aI (aB hr.hu) ay (rvc 1) (rvl 0) (fun _ _=>rfl))) (by rfl) (cG (by decide)) (fun _=>rfl) ⟨_,a7 rfl,fun s H C fp=>bB (i:=0) (show (["at","places"]:List Str).Nodup by decide +kernel) rfl (Or.inl rfl) (Or.inr rfl)⟩) ae rfl) (by decide) (by decide) rfl rfl)))))
noncomputable def j2:M3 Bool:=(cB (ai vD (ad 0) (ad 1)))
noncomputable def j1:EM:=(ad 0)
noncomputable def j0:EM:=(bR (cq (ad 2)) (am 0) j2 j1 [none,some 3])
noncomputable def fc:M3 Bool:=(cB (ai gtI (aC df (ab (ad 2) ak)) (mC (.int 0))))
noncomputable def fe:SM:=(aK (bp 3 (aA cK (ab (ad 0) (ab (ad 2) ak)))) (aK (dg (ic isL jq 1 (ab (ad 3) ak))) (bp 2 j0)))
noncomputable def pJ:SM:=(aK (dg (aA ba (ab (ad 0) ak))) (aK (bp 1 (fG ak)) (aK (bp 2 (pL (ab (aC df (ab (ad 0) ak)) ak))) (aK (cw fc fe) (bD 1 (ad 1))))))
noncomputable def gl:Fn:=fnM [false] 4 pJ
theorem sc_peels:FnScope ["sheet","found","left","peel"] ["sheet"] (ah jr):=⟨rfl,rfl,rfl,by decide +kernel,rfl,by decide +kernel,by decide +kernel⟩
theorem rp (B:Bl mg) (D:Def K mg "peels" jr) (C_check_sheet:aQ P w K mg base "check_sheet" 5 ["thing"] ba) (C_outer_places:aQ P w K mg base "outer_places" 7 ["sheet","places"] cK):aQ P w K mg base "peels" 8 ["sheet"] gl :=
 aZ (k:=7) D sc_peels rfl rfl (hb1 fun _ _ _ _ _ _ _=>rfl) fun cdv A outer s H E f G hr hp =>
  (ag (cx (au C_check_sheet (hr.mono (by decide)) (aa (rvl 0) ae rfl) rfl (by decide) rfl rfl) rfl) (ag (aO 1 sc_peels.nd rfl (Or.inl rfl) (c8 ae) rfl (Or.inl rfl) (by rw [hp];rfl)) (ag (aO 2 sc_peels.nd rfl (Or.inl rfl) (po rfl rfl B.list rfl B.range (aa (aF aw bH rfl B.len cI (aa (rvl 0) ae rfl) (by decide) (by decide) rfl rfl) ae rfl) rfl rfl) rfl (Or.inl rfl) (by rw [hp];rfl)) (ag (gU PassesOwn.never (bA pF pH (aF aw bH rfl B.len cI (aa (rvl 2) ae rfl) (by decide) (by decide) rfl rfl) af (bc _)) (ag (aO 3 sc_peels.nd rfl (Or.inr rfl) (au C_outer_places (hr.mono (by decide)) (aa (rvl 0) (aa (rvl 2) ae rfl) rfl) rfl (by decide) rfl rfl) rfl (Or.inl rfl) (by rw [hp];rfl)) (ag (cx (gj (ok:=isL) PySem.F.plainAttrs_list PySem.F.slot_list_append PySem.F.type_list_append eD jX fZ (eX (i:=1) rfl (Or.inl rfl) (by decide) (by decide)) (aa (rvc 3) ae rfl) rfl rfl rfl rfl rfl) rfl) (aj (eV (i:=2) sc_peels.nd rfl (Or.inl rfl) ["place","peel"] [none,some 3] rfl (cf (rvl 2)) (fun s H C fp=>(fM (bA gX td (rvl 0) (rvc 1) (by with_unfolding_all rfl)))) (fun s H C fp=>(rvl 0)) (by rfl) (cG (by decide)) rfl (Or.inl rfl) (fun _=>rfl) (by rw [hp];rfl) ⟨_,a7 rfl,fun s H C fp=>bB (i:=0) (show (["place","peel"]:List Str).Nodup by decide +kernel) rfl (Or.inl rfl) (Or.inr rfl)⟩))))) (aj (aL 1 (fun i hi=>by rw [hp];exact aD (by simpa using hi)) (rvl 1)))))))
noncomputable def ff:EM:=(ai inD (ad 1) (ad 0))
noncomputable def j3:EM:=(bR (cq (aA gl (ab (ad 0) ak))) (am 0) dB ff [none,some 1])
noncomputable def pK:SM:=(aK (dg (aA ba (ab (ad 0) ak))) (aK (dg (aA c4 (ab (ad 1) (ab (aC df (ab (ad 0) ak)) ak)))) (bD 2 (m7 isL yg j3 (ab (mC (.bl true)) ak)))))
noncomputable def jC:Fn:=fnM [false,false] 2 pK
theorem r0:FnScope ["sheet","place"] ["sheet","place"] (ah js):=⟨rfl,rfl,rfl,by decide +kernel,rfl,by decide +kernel,by decide +kernel⟩
theorem rq (B:Bl mg) (D:Def K mg "layer" js) (C_check_place:aQ P w K mg base "check_place" 3 ["thing","many"] c4) (C_check_sheet:aQ P w K mg base "check_sheet" 5 ["thing"] ba) (C_peels:aQ P w K mg base "peels" 8 ["sheet"] gl):aQ P w K mg base "layer" 9 ["sheet","place"] jC :=
 aZ (k:=8) D r0 rfl rfl (hb2 fun _ _ _ _ _ _ _ _=>rfl) fun cdv A outer s H E f G hr hp =>
  (ag (cx (au C_check_sheet (hr.mono (by decide)) (aa (rvl 0) ae rfl) rfl (by decide) rfl rfl) rfl) (ag (cx (au C_check_place (hr.mono (by decide)) (aa (rvc 1) (aa (aF aw bH rfl B.len cI (aa (rvl 0) ae rfl) (by decide) (by decide) rfl rfl) ae rfl) rfl) rfl (by decide) rfl rfl) rfl) (aj (aL 2 (fun i hi=>by rw [hp];exact aD (by simpa using hi)) (vd (ok:=isL) PySem.F.plainAttrs_list PySem.F.slot_list_index PySem.F.type_list_index tu ub fZ (cW ["peel","place"] [none,some 1] rfl (cf (au C_peels (hr.mono (by decide)) (aa (rvl 0) ae rfl) rfl (by decide) rfl rfl)) (fun s H C fp=>cy) (fun s H C fp=>(jQ qI td (rvc 1) (rvl 0) (by with_unfolding_all rfl))) (by rfl) (cG (by decide)) (fun _=>rfl) ⟨_,a7 rfl,fun s H C fp=>bB (i:=0) (show (["peel","place"]:List Str).Nodup by decide +kernel) rfl (Or.inl rfl) (Or.inr rfl)⟩) (aa fu ae rfl) rfl rfl rfl rfl rfl)))))
noncomputable def fh:SM:=(aK (bp 5 (ai mR (ai fj (ai fj (ai eY (ai mR (ad 2) (mC (.int 2147483647))) (mC (.int 48271))) (ai eY (mC (.int 7919)) (ad 4))) (mC (.int 1))) (mC (.int 2147483647)))) (aK (bp 5 (ai mR (ai eY (ad 5) (ad 5)) (mC (.int 2147483629)))) (bp 3 (ai fj (ai eY (ad 3) (mC (.int 2147483647))) (ai mR (ai eY (ad 5) (ai fj (ad 5) (mC (.int 13)))) (mC (.int 2147483647)))))))
noncomputable def vI:SM:=(aK (bp 2 (ai fj (ai eY (mC (.int 7919)) (ad 1)) (mC (.int 13)))) (aK (sIf (cB (ai ltI (ad 1) (aC df (ab (ad 0) ak)))) (bp 2 (ai aH (ad 0) (ad 1))) fE) (aK (sIf (cB (ai eqX (ai mR (ad 2) (mC (.int 2))) (mC (.int 0)))) (bD 2 (fG (ab (ai yw (ad 2) (mC (.int 2))) ak))) fE) (aK (bp 3 (mC (.int 0))) (aK (du (bI c5 (ab (mC (.int 16)) ak)) (am 4) fh) (bD 2 (fG (ab (ad 3) ak))))))))
noncomputable def jD:Fn:=fnM [false,false] 6 vI
theorem sc_l_box:FnScope ["_law_script","_law_k","_law_here","_law_number","_law_j","_law_part"] ["_law_script","_law_k"] (ah jt):=⟨rfl,rfl,rfl,by decide +kernel,rfl,by decide +kernel,by decide +kernel⟩
theorem rA (B:Bl mg) (D:Def K mg "_law_box" jt):aQ P w K mg base "_law_box" 1 ["_law_script","_law_k"] jD :=
 aZ (k:=0) D sc_l_box rfl rfl (hb2 fun _ _ _ _ _ _ _ _=>rfl) fun cdv A outer s H E f G hr hp =>
  (ag (aO 2 sc_l_box.nd rfl (Or.inl rfl) (ao bM cC (ao bY bC af (rvl 1)) af) rfl (Or.inl rfl) (by rw [hp];rfl)) (ag (dU (bA jU k4 (rvl 1) (aF aw bH rfl B.len cI (aa (rvl 0) ae rfl) (by decide) (by decide) rfl rfl) (bc _)) (aj (aO 2 sc_l_box.nd rfl (Or.inl rfl) (aI (aB hr.hu) ay (rvl 0) (rvl 1) (fun _ _=>rfl)) rfl (Or.inl rfl) (by rw [hp];rfl))) bL) (ag (dU (bA (gE hr.units) gF (ao iD gk (rvl 2) af) af (bc _)) (aj (aL 2 (fun i hi=>by rw [hp];exact aD (by simpa using hi)) (c8 (aa (ao sY vB (rvl 2) af) ae rfl)))) bL) (ag (aO 3 sc_l_box.nd rfl (Or.inl rfl) af rfl (Or.inl rfl) (by rw [hp];rfl)) (ag (cP PassesOwn.never rfl (cV rfl B.range (aa af ae rfl) rfl) (bF 4 sc_l_box.nd rfl (Or.inl rfl) (Or.inl rfl) (by rw [hp];rfl)) (ag (aO 5 sc_l_box.nd rfl (Or.inl rfl) (ao iD gk (ao bM cC (ao bM cC (ao bY bC (ao iD gk (rvl 2) af) af) (ao bY bC af (rvl 4))) af) af) rfl (Or.inl rfl) (by rw [hp];rfl)) (ag (aO 5 sc_l_box.nd rfl (Or.inl rfl) (ao iD gk (ao bY bC (rvl 5) (rvl 5)) af) rfl (Or.inl rfl) (by rw [hp];rfl)) (aj (aO 3 sc_l_box.nd rfl (Or.inl rfl) (ao bM cC (ao bY bC (rvl 3) af) (ao iD gk (ao bY bC (rvl 5) (ao bM cC (rvl 5) af)) af)) rfl (Or.inl rfl) (by rw [hp];rfl))))) (fun _=>rfl)) (aj (aL 2 (fun i hi=>by rw [hp];exact aD (by simpa using hi)) (c8 (aa (rvl 3) ae rfl)))))))))
noncomputable def tF:SM:=(aK (r9 (um 2 (jc (am 2) (jc (am 3) uo))) (aC t5 (ab (ai aH (ad 0) (mC (.int 0))) (ab (ad 1) ak)))) (aK (r6 setD 0 (mC (.int 0)) (ad 2)) (bD 2 (ad 3))))
noncomputable def bU:Fn:=fnM [false,false] 4 tF
theorem sc_l_take:FnScope ["_law_box_here","_law_many","_law_left","_law_digit"] ["_law_box_here","_law_many"] (ah gR):=⟨rfl,rfl,rfl,by decide +kernel,rfl,by decide +kernel,by decide +kernel⟩
theorem oW (B:Bl mg) (D:Def K mg "_law_take" gR):aQ P w K mg base "_law_take" 1 ["_law_box_here","_law_many"] bU :=
 aZ (k:=0) D sc_l_take rfl rfl (hb2 fun _ _ _ _ _ _ _ _=>rfl) fun cdv A outer s H E f G hr hp =>
  (ag (xn (xo rfl (mG (bF 2 sc_l_take.nd rfl (Or.inl rfl) (Or.inl rfl) (by rw [hp];rfl)) (mG (bF 3 sc_l_take.nd rfl (Or.inl rfl) (Or.inl rfl) (by rw [hp];rfl)) u7 rfl) rfl) rfl rfl) (aF nF rl rfl B.divmod uj (aa (aI (aB hr.hu) ay (rvl 0) af (fun _ _=>rfl)) (aa (rvl 1) ae rfl) rfl) (by decide) (by decide) rfl rfl) rfl rfl rfl) (ag (xm (i:=0) (uS hr.hu) xU (eX rfl (Or.inl rfl) (by decide) (by decide)) af (rvl 2) (fun _=>rfl) rfl rfl rfl) (aj (aL 2 (fun i hi=>by rw [hp];exact aD (by simpa using hi)) (rvl 3)))))
noncomputable def qP:SM:=(bD 1 (jh (mUn (lL "int") (ad 0)) (vK (mUn (lL "bool") (ad 0)))))
noncomputable def gm:Fn:=fnM [false] 1 qP
theorem nZ:FnScope ["_law_thing"] ["_law_thing"] (ah gh):=⟨rfl,rfl,rfl,by decide +kernel,rfl,by decide +kernel,by decide +kernel⟩
theorem nH (B:Bl mg) (D:Def K mg "_law_whole" gh):aQ P w K mg base "_law_whole" 1 ["_law_thing"] gm :=
 aZ (k:=0) D nZ rfl rfl (hb1 fun _ _ _ _ _ _ _=>rfl) fun cdv A outer s H E f G hr hp =>
  (aj (aL 1 (fun i hi=>by rw [hp];exact aD (by simpa using hi)) (fP (fN il rfl B.isinstance (dW (v:=V.ty "int") rfl B.int wH rfl (by decide) (by decide)) (rvl 0) rfl rfl rfl) (iB (sC (fN gz rfl B.isinstance (dW (v:=V.ty "bool") rfl B.bool uk rfl (by decide) (by decide)) (rvl 0) rfl rfl rfl))))))
noncomputable def tG:SM:=(aK (bp 3 (ai eY (ai gD (ai aH (ad 1) (mC (.int 0))) (ai aH (ad 0) (mC (.int 0)))) (ai gD (ai aH (ad 2) (mC (.int 1))) (ai aH (ad 0) (mC (.int 1)))))) (bD 3 (ai gD (ad 3) (ai eY (ai gD (ai aH (ad 1) (mC (.int 1))) (ai aH (ad 0) (mC (.int 1)))) (ai gD (ai aH (ad 2) (mC (.int 0))) (ai aH (ad 0) (mC (.int 0))))))))
noncomputable def dR:Fn:=fnM [false,false,false] 4 tG
theorem sc_l_bend:FnScope ["_law_one","_law_two","_law_three","_law_across"] ["_law_one","_law_two","_law_three"] (ah gT):=⟨rfl,rfl,rfl,by decide +kernel,rfl,by decide +kernel,by decide +kernel⟩
theorem oY (B:Bl mg) (D:Def K mg "_law_bend" gT):aQ P w K mg base "_law_bend" 1 ["_law_one","_law_two","_law_three"] dR :=
 aZ (k:=0) D sc_l_bend rfl rfl (hb3 fun _ _ _ _ _ _ _ _ _=>rfl) fun cdv A outer s H E f G hr hp =>
  (ag (aO 3 sc_l_bend.nd rfl (Or.inl rfl) (ao bY bC (ao cA bN (aI (aB hr.hu) ay (rvl 1) af (fun _ _=>rfl)) (aI (aB hr.hu) ay (rvl 0) af (fun _ _=>rfl))) (ao cA bN (aI (aB hr.hu) ay (rvl 2) af (fun _ _=>rfl)) (aI (aB hr.hu) ay (rvl 0) af (fun _ _=>rfl)))) rfl (Or.inl rfl) (by rw [hp];rfl)) (aj (aL 3 (fun i hi=>by rw [hp];exact aD (by simpa using hi)) (ao cA bN (rvl 3) (ao bY bC (ao cA bN (aI (aB hr.hu) ay (rvl 1) af (fun _ _=>rfl)) (aI (aB hr.hu) ay (rvl 0) af (fun _ _=>rfl))) (ao cA bN (aI (aB hr.hu) ay (rvl 2) af (fun _ _=>rfl)) (aI (aB hr.hu) ay (rvl 0) af (fun _ _=>rfl))))))))
noncomputable def dZ:SM:=(sIf (cB (ai eqX (aA dR (ab (ai aH (ad 0) (ad 3)) (ab (ai aH (ad 0) (ad 2)) (ab (ad 1) ak)))) (mC (.int 0)))) (bD 2 (mC (.bl false))) fE)
noncomputable def bQ:SM:=(du (bI c5 (ab (ad 2) ak)) (am 3) dZ)
noncomputable def m6:SM:=(aK (du (bI c5 (ab (aC df (ab (ad 0) ak)) ak)) (am 2) bQ) (bD 2 (mC (.bl true))))
noncomputable def iu:Fn:=fnM [false,false] 4 m6
theorem sc_l_free:FnScope ["_law_found","_law_point","_law_k","_law_j"] ["_law_found","_law_point"] (ah gS):=⟨rfl,rfl,rfl,by decide +kernel,rfl,by decide +kernel,by decide +kernel⟩
theorem oX (B:Bl mg) (D:Def K mg "_law_free" gS) (C__law_bend:aQ P w K mg base "_law_bend" 1 ["_law_one","_law_two","_law_three"] dR):aQ P w K mg base "_law_free" 2 ["_law_found","_law_point"] iu :=
 aZ (k:=1) D sc_l_free rfl rfl (hb2 fun _ _ _ _ _ _ _ _=>rfl) fun cdv A outer s H E f G hr hp =>
  (ag (cP PassesOwn.never rfl (cV rfl B.range (aa (aF aw bH rfl B.len cI (aa (rvl 0) ae rfl) (by decide) (by decide) rfl rfl) ae rfl) rfl) (bF 2 sc_l_free.nd rfl (Or.inl rfl) (Or.inl rfl) (by rw [hp];rfl)) (aj (cP PassesOwn.never rfl (cV rfl B.range (aa (rvl 2) ae rfl) rfl) (bF 3 sc_l_free.nd rfl (Or.inl rfl) (Or.inl rfl) (by rw [hp];rfl)) (aj (dU (bA (gE hr.units) gF (au C__law_bend (hr.mono (by decide)) (aa (aI (aB hr.hu) ay (rvl 0) (rvl 3) (fun _ _=>rfl)) (aa (aI (aB hr.hu) ay (rvl 0) (rvl 2) (fun _ _=>rfl)) (aa (rvl 1) ae rfl) rfl) rfl) rfl (by decide) rfl rfl) af (bc _)) (aj (aL 2 (fun i hi=>by rw [hp];exact aD (by simpa using hi)) fu)) bL)) (fun _=>rfl))) (fun _=>rfl)) (aj (aL 2 (fun i hi=>by rw [hp];exact aD (by simpa using hi)) fu)))
noncomputable def cD:M3 Bool:=(jp (cB (aA iu (ab (ad 5) (ab (oN (ab (ad 4) (ab (ad 8) ak))) ak)))))
noncomputable def dz:SM:=(bp 8 (ai fj (ad 8) (mC (.int 1))))
noncomputable def dy:SM:=(aK (bp 4 (ai fj (ai fj (ad 4) (mC (.int 1))) (aA bU (ab (ad 0) (ab (mC (.int 3)) ak))))) (aK (bp 7 (ai aH (fG (ab (ai eY (ad 4) (ad 4)) (ab (ai gD (mC (.int 0)) (ai eY (ad 4) (ad 4))) ak))) (ai mR (ad 6) (mC (.int 2))))) (aK (bp 8 (ai aH (fG (ab (aA bU (ab (ad 0) (ab (mC (.int 40)) ak))) (ab (ai eY (ad 4) (ad 4)) (ab (ai gD (mC (.int 9)) (ai eY (ad 4) (ad 4))) (ab (ad 7) (ab (aA bU (ab (ad 0) (ab (mC (.int 6)) ak))) ak)))))) (ad 3))) (aK (cw cD dz) (dg (ic isL jq 5 (ab (oN (ab (ad 4) (ab (ad 8) ak))) ak)))))))
noncomputable def fg:EM:=(oN (ab (ai eY (ad 0) (ai sO (mC (.int 10)) (mC (.int 12)))) (ab (ai fj (ai eY (ad 1) (ai sO (mC (.int 10)) (mC (.int 15)))) (mC (.int 7))) ak)))
noncomputable def dw:EM:=(bR (cq (ad 5)) (um 2 (jc (am 0) (jc (am 1) uo))) dB fg [none,none])
noncomputable def k6:SM:=(aK (bp 2 (ai fj (mC (.int 1)) (aA bU (ab (ad 0) (ab (ad 1) ak))))) (aK (bp 3 (aA bU (ab (ad 0) (ab (mC (.int 5)) ak)))) (aK (bp 4 (ai gD (mC (.int 0)) (aA bU (ab (ad 0) (ab (mC (.int 9)) ak))))) (aK (bp 5 (fG ak)) (aK (du (bI c5 (ab (ad 2) ak)) (am 6) dy) (aK (sIf (cB (ai eqX (aA bU (ab (ad 0) (ab (mC (.int 6)) ak))) (mC (.int 5)))) (bp 5 dw) fE) (bD 2 (aC kr (ab (ad 5) ak)))))))))
noncomputable def gp:Fn:=fnM [false,false] 9 k6
theorem sc_l_sheet:FnScope ["_law_box_here","_law_most","_law_many","_law_kind","_law_x","_law_found","_law_k","_law_bent","_law_y"] ["_law_box_here","_law_most"] (ah gi):=⟨rfl,rfl,rfl,by decide +kernel,rfl,by decide +kernel,by decide +kernel⟩
theorem nI (B:Bl mg) (D:Def K mg "_law_sheet" gi) (C__law_free:aQ P w K mg base "_law_free" 2 ["_law_found","_law_point"] iu) (C__law_take:aQ P w K mg base "_law_take" 1 ["_law_box_here","_law_many"] bU):aQ P w K mg base "_law_sheet" 3 ["_law_box_here","_law_most"] gp :=
 aZ (k:=2) D sc_l_sheet rfl rfl (hb2 fun _ _ _ _ _ _ _ _=>rfl) fun cdv A outer s H E f G hr hp =>
  (ag (aO 2 sc_l_sheet.nd rfl (Or.inl rfl) (ao bM cC af (au C__law_take (hr.mono (by decide)) (aa (rvl 0) (aa (rvl 1) ae rfl) rfl) rfl (by decide) rfl rfl)) rfl (Or.inl rfl) (by rw [hp];rfl)) (ag (aO 3 sc_l_sheet.nd rfl (Or.inl rfl) (au C__law_take (hr.mono (by decide)) (aa (rvl 0) (aa af ae rfl) rfl) rfl (by decide) rfl rfl) rfl (Or.inl rfl) (by rw [hp];rfl)) (ag (aO 4 sc_l_sheet.nd rfl (Or.inl rfl) (ao cA bN af (au C__law_take (hr.mono (by decide)) (aa (rvl 0) (aa af ae rfl) rfl) rfl (by decide) rfl rfl)) rfl (Or.inl rfl) (by rw [hp];rfl)) (ag (aO 5 sc_l_sheet.nd rfl (Or.inl rfl) (c8 ae) rfl (Or.inl rfl) (by rw [hp];rfl)) (ag (cP PassesOwn.never rfl (cV rfl B.range (aa (rvl 2) ae rfl) rfl) (bF 6 sc_l_sheet.nd rfl (Or.inl rfl) (Or.inl rfl) (by rw [hp];rfl)) (ag (aO 4 sc_l_sheet.nd rfl (Or.inl rfl) (ao bM cC (ao bM cC (rvl 4) af) (au C__law_take (hr.mono (by decide)) (aa (rvl 0) (aa af ae rfl) rfl) rfl (by decide) rfl rfl)) rfl (Or.inl rfl) (by rw [hp];rfl)) (ag (aO 7 sc_l_sheet.nd rfl (Or.inl rfl) (aI (aB hr.hu) ay (c8 (aa (ao bY bC (rvl 4) (rvl 4)) (aa (ao cA bN af (ao bY bC (rvl 4) (rvl 4))) ae rfl) rfl)) (ao iD gk (rvl 6) af) (fun _ _=>rfl)) rfl (Or.inl rfl) (by rw [hp];rfl)) (ag (aO 8 sc_l_sheet.nd rfl (Or.inl rfl) (aI (aB hr.hu) ay (c8 (aa (au C__law_take (hr.mono (by decide)) (aa (rvl 0) (aa af ae rfl) rfl) rfl (by decide) rfl rfl) (aa (ao bY bC (rvl 4) (rvl 4)) (aa (ao cA bN af (ao bY bC (rvl 4) (rvl 4))) (aa (rvl 7) (aa (au C__law_take (hr.mono (by decide)) (aa (rvl 0) (aa af ae rfl) rfl) rfl (by decide) rfl rfl) ae rfl) rfl) rfl) rfl) rfl)) (rvl 3) (fun _ _=>rfl)) rfl (Or.inl rfl) (by rw [hp];rfl)) (ag (gU PassesOwn.never (fL (eU (au C__law_free (hr.mono (by decide)) (aa (rvl 5) (aa (jP (aa (rvl 4) (aa (rvl 8) ae rfl) rfl)) ae rfl) rfl) rfl (by decide) rfl rfl) (fun _=>rfl))) (aj (aO 8 sc_l_sheet.nd rfl (Or.inl rfl) (ao bM cC (rvl 8) af) rfl (Or.inl rfl) (by rw [hp];rfl)))) (aj (cx (gj (ok:=isL) PySem.F.plainAttrs_list PySem.F.slot_list_append PySem.F.type_list_append eD jX fZ (eX (i:=5) rfl (Or.inl rfl) (by decide) (by decide)) (aa (jP (aa (rvl 4) (aa (rvl 8) ae rfl) rfl)) ae rfl) rfl rfl rfl rfl rfl) rfl)))))) (fun _=>rfl)) (ag (dU (bA (gE hr.units) gF (au C__law_take (hr.mono (by decide)) (aa (rvl 0) (aa af ae rfl) rfl) rfl (by decide) rfl rfl) af (bc _)) (aj (eV (i:=5) sc_l_sheet.nd rfl (Or.inl rfl) ["_law_x","_law_y"] [none,none] rfl (cf (rvl 5)) (fun s H C fp=>cy) (fun s H C fp=>(jP (aa (ao bY bC (rvl 0) (ao sX pG af af)) (aa (ao bM cC (ao bY bC (rvl 1) (ao sX pG af af)) af) ae rfl) rfl))) (by rfl) (cG (by decide)) rfl (Or.inl rfl) (fun _=>rfl) (by rw [hp];rfl) ⟨_,qh (iR (a7 rfl) (iR (a7 rfl) nK)),fun s H C fp=>sQ (n:=2) rfl (jT (bB (i:=0) (show (["_law_x","_law_y"]:List Str).Nodup by decide +kernel) rfl (Or.inl rfl) (Or.inr rfl)) (jT (bB (i:=1) (show (["_law_x","_law_y"]:List Str).Nodup by decide +kernel) rfl (Or.inl rfl) (Or.inr rfl)) pE rfl) rfl) rfl rfl⟩)) bL) (aj (aL 2 (fun i hi=>by rw [hp];exact aD (by simpa using hi)) (cj a9 gf rfl B.tuple cH (aa (rvl 5) ae rfl) (by decide) (by decide) rfl rfl)))))))))
noncomputable def d9:M3 Bool:=(cB (ai neX (ad 0) (ad 1)))
noncomputable def gx:EM:=(ad 0)
noncomputable def gw:EM:=(bR (cq (ad 1)) (am 0) d9 gx [none,some 2])
noncomputable def cY:M3 Bool:=(cB (ai neX (ad 0) (ad 3)))
noncomputable def cX:EM:=(ai gtI (aA dR (ab (ai aH (ad 1) (ad 2)) (ab (ai aH (ad 1) (ad 3)) (ab (ai aH (ad 1) (ad 0)) ak)))) (mC (.int 0)))
noncomputable def gv:EM:=(bR (cq (ad 3)) (am 0) cY cX [none,some 0,some 2,some 4])
noncomputable def cZ:SM:=(aK (bp 5 gv) (sIf (cOr (cB (ai eqX (ad 5) (ai ol (fG (ab (mC (.bl true)) ak)) (aC df (ab (ad 5) ak))))) (cB (ai eqX (ad 5) (ai ol (fG (ab (mC (.bl false)) ak)) (aC df (ab (ad 5) ak)))))) (bD 3 (mC (.bl true))) fE))
noncomputable def gH:SM:=(aK (bp 3 gw) (aK (sIf (cB (ai ltI (aC df (ab (ad 3) ak)) (mC (.int 3)))) (bD 3 (mC (.bl true))) fE) (aK (du (cq (ad 3)) (am 4) cZ) (bD 3 (mC (.bl false))))))
noncomputable def fm:Fn:=fnM [false,false,false] 6 gH
theorem sc_l_corner:FnScope ["_law_sheet_here","_law_left","_law_place","_law_others","_law_one","_law_some"] ["_law_sheet_here","_law_left","_law_place"] (ah eP):=⟨rfl,rfl,rfl,by decide +kernel,rfl,by decide +kernel,by decide +kernel⟩
theorem lY (B:Bl mg) (D:Def K mg "_law_corner" eP) (C__law_bend:aQ P w K mg base "_law_bend" 1 ["_law_one","_law_two","_law_three"] dR):aQ P w K mg base "_law_corner" 2 ["_law_sheet_here","_law_left","_law_place"] fm :=
 aZ (k:=1) D sc_l_corner rfl rfl (hb3 fun _ _ _ _ _ _ _ _ _=>rfl) fun cdv A outer s H E f G hr hp =>
  (ag (eV (i:=3) sc_l_corner.nd rfl (Or.inl rfl) ["_law_one","_law_place"] [none,some 2] rfl (cf (rvl 1)) (fun s H C fp=>(fM (bA (iC hr.units) iE (rvl 0) (rvc 1) (bc _)))) (fun s H C fp=>(rvl 0)) (by rfl) (cG (by decide)) rfl (Or.inl rfl) (fun _=>rfl) (by rw [hp];rfl) ⟨_,a7 rfl,fun s H C fp=>bB (i:=0) (show (["_law_one","_law_place"]:List Str).Nodup by decide +kernel) rfl (Or.inl rfl) (Or.inr rfl)⟩) (ag (dU (bA jU k4 (aF aw bH rfl B.len cI (aa (rvl 3) ae rfl) (by decide) (by decide) rfl rfl) af (bc _)) (aj (aL 3 (fun i hi=>by rw [hp];exact aD (by simpa using hi)) fu)) bL) (ag (cP PassesOwn.never rfl (cf (rvl 3)) (bF 4 sc_l_corner.nd rfl (Or.inr rfl) (Or.inl rfl) (by rw [hp];rfl)) (ag (eV (i:=5) sc_l_corner.nd rfl (Or.inl rfl) ["_law_other","_law_sheet_here","_law_place","_law_one"] [none,some 0,some 2,some 4] rfl (cf (rvl 3)) (fun s H C fp=>(fM (bA (iC hr.units) iE (rvl 0) (rvc 3) (bc _)))) (fun s H C fp=>(jQ pF pH (au C__law_bend (hr.mono (by decide)) (aa (aI (aB hr.hu) ay (rvc 1) (rvc 2) (fun _ _=>rfl)) (aa (aI (aB hr.hu) ay (rvc 1) (rvc 3) (fun _ _=>rfl)) (aa (aI (aB hr.hu) ay (rvc 1) (rvl 0) (fun _ _=>rfl)) ae rfl) rfl) rfl) rfl (by decide) rfl rfl) af (bc _))) (by rfl) (cG (by decide)) rfl (Or.inl rfl) (fun _=>rfl) (by rw [hp];rfl) ⟨_,a7 rfl,fun s H C fp=>bB (i:=0) (show (["_law_other","_law_sheet_here","_law_place","_law_one"]:List Str).Nodup by decide +kernel) rfl (Or.inl rfl) (Or.inr rfl)⟩) (aj (dU (sk (mz (bA (gE hr.units) gF (rvl 5) (ao sW s0 (c8 (aa fu ae rfl)) (aF aw bH rfl B.len cI (aa (rvl 5) ae rfl) (by decide) (by decide) rfl rfl)) (bc _)) (ly (bA (gE hr.units) gF (rvl 5) (ao sW s0 (c8 (aa fu ae rfl)) (aF aw bH rfl B.len cI (aa (rvl 5) ae rfl) (by decide) (by decide) rfl rfl)) (bc _))))) (aj (aL 3 (fun i hi=>by rw [hp];exact aD (by simpa using hi)) fu)) bL))) (fun _=>rfl)) (aj (aL 3 (fun i hi=>by rw [hp];exact aD (by simpa using hi)) fu)))))
noncomputable def gZ:M3 Bool:=(cB (aA fm (ab (ad 1) (ab (ad 2) (ab (ad 0) ak)))))
noncomputable def j5:EM:=(ad 0)
noncomputable def mZ:EM:=(bR (cq (ad 3)) (am 0) gZ j5 [none,some 2,some 3])
noncomputable def m5:M3 Bool:=(cB (ai vD (ad 0) (ad 1)))
noncomputable def m4:EM:=(ad 0)
noncomputable def mY:EM:=(bR (cq (ad 3)) (am 0) m5 m4 [none,some 7])
noncomputable def fV:M3 Bool:=(cB (ai neX (ad 3) (fG ak)))
noncomputable def fW:SM:=(aK (bp 7 (aC kr (ab mZ ak))) (aK (dg (ic isL jq 4 (ab (ad 7) ak))) (bp 3 mY)))
noncomputable def j4:EM:=(mUn (lL "tuple") (ad 0))
noncomputable def mW:EM:=(bR (cq (ad 8)) (am 0) dB j4 [none])
noncomputable def ib:SM:=(aK (bp 8 (aA gl (ab (ad 2) ak))) (aK (sIf (cOr (jp (cB (mUn (lL "list") (ad 8)))) (cOr (cB (ai neX (ad 8) (ad 4))) (jp (cB (aC wb (ab mW ak)))))) (bD 1 (mC (.bl false))) fE) (dg (ic isL jq 8 (ab (mC (.int 0)) ak)))))
noncomputable def hV:SM:=(aK (bp 8 (aA jC (ab (ad 2) (ab (ad 9) ak)))) (sIf (cOr (jp (cB (aA gm (ab (ad 8) ak)))) (cB (ai neX (ad 8) (ad 6)))) (bD 1 (mC (.bl false))) fE))
noncomputable def hU:SM:=(du (cq (ai aH (ad 4) (ad 6))) (am 9) hV)
noncomputable def hJ:SM:=(aK (bp 2 (aA gp (ab (aA jD (ab (ad 0) (ab (ad 1) ak))) (ab (mC (.int 12)) ak)))) (aK (bp 3 (pL (ab (aC df (ab (ad 2) ak)) ak))) (aK (bp 4 (fG ak)) (aK (cw fV fW) (aK (du (bI c5 (ab (mC (.int 2)) ak)) (am 5) ib) (du (bI c5 (ab (aC df (ab (ad 4) ak)) ak)) (am 6) hU))))))
noncomputable def m_law:SM:=(aK (du (bI c5 (ab (aC wz (ab (mC (.int 1)) (ab (aC wx (ab (aC df (ab (ad 0) ak)) (ab (mC (.int 4)) ak))) ak))) ak)) (am 1) hJ) (bD 1 (mC (.bl true))))
noncomputable def wJ:Fn:=fnM [false] 10 m_law
theorem sc_law:FnScope ["_law_script","_law_k","_law_sheet_here","_law_left","_law_due","_law_lap","_law_number","_law_peel","_law_found","_law_place"] ["_law_script"] (ah fK):=⟨rfl,rfl,rfl,by decide +kernel,rfl,by decide +kernel,by decide +kernel⟩
theorem vT {f:Addr} {fd:FuncData} (B:Bl mg) (D:Fun K "law" "law" fK f fd) (C__law_box:aQ P w K mg base "_law_box" 1 ["_law_script","_law_k"] jD) (C__law_corner:aQ P w K mg base "_law_corner" 2 ["_law_sheet_here","_law_left","_law_place"] fm) (C__law_sheet:aQ P w K mg base "_law_sheet" 3 ["_law_box_here","_law_most"] gp) (C__law_whole:aQ P w K mg base "_law_whole" 1 ["_law_thing"] gm) (C_layer:aQ P w K mg base "layer" 9 ["sheet","place"] jC) (C_peels:aQ P w K mg base "peels" 8 ["sheet"] gl):FnOk P w K mg base CX0 10 f fd ["_law_script"] (qr K wJ) :=
 yo (k:=9) D sc_law rfl rfl fun cdv A outer s H E f G hr hp =>
  (ag (cP PassesOwn.never rfl (cV rfl B.range (aa (aF (rn rfl) vW rfl B.max b_max (aa af (aa (aF (rm rfl) vV rfl B.min b_min (aa (aF aw bH rfl B.len cI (aa (rvl 0) ae rfl) (by decide) (by decide) rfl rfl) (aa af ae rfl) rfl) (by decide) (by decide) rfl rfl) ae rfl) rfl) (by decide) (by decide) rfl rfl) ae rfl) rfl) (bF 1 sc_law.nd rfl (Or.inl rfl) (Or.inl rfl) (by rw [hp];rfl)) (ag (aO 2 sc_law.nd rfl (Or.inr rfl) (au C__law_sheet (hr.mono (by decide)) (aa (au C__law_box (hr.mono (by decide)) (aa (rvl 0) (aa (rvl 1) ae rfl) rfl) rfl (by decide) rfl rfl) (aa af ae rfl) rfl) rfl (by decide) rfl rfl) rfl (Or.inl rfl) (by rw [hp];rfl)) (ag (aO 3 sc_law.nd rfl (Or.inr rfl) (po rfl rfl B.list rfl B.range (aa (aF aw bH rfl B.len cI (aa (rvc 2) ae rfl) (by decide) (by decide) rfl rfl) ae rfl) rfl rfl) rfl (Or.inl rfl) (by rw [hp];rfl)) (ag (aO 4 sc_law.nd rfl (Or.inl rfl) (c8 ae) rfl (Or.inl rfl) (by rw [hp];rfl)) (ag (gU PassesOwn.never (bA (iC hr.units) iE (rvc 3) (c8 ae) (bc _)) (ag (aO 7 sc_law.nd rfl (Or.inr rfl) (cj a9 gf rfl B.tuple cH (aa (cW ["_law_place","_law_sheet_here","_law_left"] [none,some 2,some 3] rfl (cf (rvc 3)) (fun s H C fp=>(fM (eU (au C__law_corner (hr.mono (by decide)) (aa (rvc 1) (aa (rvc 2) (aa (rvl 0) ae rfl) rfl) rfl) rfl (by decide) rfl rfl) (fun _=>rfl)))) (fun s H C fp=>(rvl 0)) (by rfl) (cG (by decide)) (fun _=>rfl) ⟨_,a7 rfl,fun s H C fp=>bB (i:=0) (show (["_law_place","_law_sheet_here","_law_left"]:List Str).Nodup by decide +kernel) rfl (Or.inl rfl) (Or.inr rfl)⟩) ae rfl) (by decide) (by decide) rfl rfl) rfl (Or.inl rfl) (by rw [hp];rfl)) (ag (cx (gj (ok:=isL) PySem.F.plainAttrs_list PySem.F.slot_list_append PySem.F.type_list_append eD jX fZ (eX (i:=4) rfl (Or.inl rfl) (by decide) (by decide)) (aa (rvc 7) ae rfl) rfl rfl rfl rfl rfl) rfl) (aj (aO 3 sc_law.nd rfl (Or.inr rfl) (cW ["_law_place","_law_peel"] [none,some 7] rfl (cf (rvc 3)) (fun s H C fp=>(fM (bA gX td (rvl 0) (rvc 1) (by with_unfolding_all rfl)))) (fun s H C fp=>(rvl 0)) (by rfl) (cG (by decide)) (fun _=>rfl) ⟨_,a7 rfl,fun s H C fp=>bB (i:=0) (show (["_law_place","_law_peel"]:List Str).Nodup by decide +kernel) rfl (Or.inl rfl) (Or.inr rfl)⟩) rfl (Or.inl rfl) (by rw [hp];rfl)))))) (ag (cP PassesOwn.never rfl (cV rfl B.range (aa af ae rfl) rfl) (bF 5 sc_law.nd rfl (Or.inl rfl) (Or.inl rfl) (by rw [hp];rfl)) (ag (aO 8 sc_law.nd rfl (Or.inl rfl) (au C_peels (hr.mono (by decide)) (aa (rvc 2) ae rfl) rfl (by decide) rfl rfl) rfl (Or.inl rfl) (by rw [hp];rfl)) (ag (dU (sk (mz (fL (eU (fN kH rfl B.isinstance (dW (v:=V.ty "list") rfl B.list ui rfl (by decide) (by decide)) (rvl 8) rfl rfl rfl) (fun _=>rfl))) (mz (bA (iC hr.units) iE (rvl 8) (rvl 4) (bc _)) (ly (fL (eU (aF (kh rfl) oT rfl B.all ul (aa (cW ["_law_peel"] [none] rfl (cf (rvl 8)) (fun s H C fp=>cy) (fun s H C fp=>(fN dP rfl B.isinstance (dW (v:=V.ty "tuple") rfl B.tuple cH rfl (by decide) (by decide)) (rvl 0) rfl rfl rfl)) (by rfl) (cG (by decide)) (fun _=>rfl) ⟨_,a7 rfl,fun s H C fp=>bB (i:=0) (show (["_law_peel"]:List Str).Nodup by decide +kernel) rfl (Or.inl rfl) (Or.inr rfl)⟩) ae rfl) (by decide) (by decide) rfl rfl) (fun _=>rfl))))))) (aj (aL 1 (fun i hi=>by rw [hp];exact aD (by simpa using hi)) fu)) bL) (aj (cx (gj (ok:=isL) PySem.F.plainAttrs_list PySem.F.slot_list_append PySem.F.type_list_append eD jX fZ (eX (i:=8) rfl (Or.inl rfl) (by decide) (by decide)) (aa af ae rfl) rfl rfl rfl rfl rfl) rfl)))) (fun _=>rfl)) (aj (cP PassesOwn.never rfl (cV rfl B.range (aa (aF aw bH rfl B.len cI (aa (rvl 4) ae rfl) (by decide) (by decide) rfl rfl) ae rfl) rfl) (bF 6 sc_law.nd rfl (Or.inl rfl) (Or.inl rfl) (by rw [hp];rfl)) (aj (cP PassesOwn.never rfl (cf (aI (aB hr.hu) ay (rvl 4) (rvl 6) (fun _ _=>rfl))) (bF 9 sc_law.nd rfl (Or.inl rfl) (Or.inl rfl) (by rw [hp];rfl)) (ag (aO 8 sc_law.nd rfl (Or.inl rfl) (au C_layer (hr.mono (by decide)) (aa (rvc 2) (aa (rvl 9) ae rfl) rfl) rfl (by decide) rfl rfl) rfl (Or.inl rfl) (by rw [hp];rfl)) (aj (dU (sk (mz (fL (eU (au C__law_whole (hr.mono (by decide)) (aa (rvl 8) ae rfl) rfl (by decide) rfl rfl) (fun _=>rfl))) (ly (bA (iC hr.units) iE (rvl 8) (rvl 6) (bc _))))) (aj (aL 1 (fun i hi=>by rw [hp];exact aD (by simpa using hi)) fu)) bL))) (fun _=>rfl))) (fun _=>rfl)))))))) (fun _=>rfl)) (aj (aL 1 (fun i hi=>by rw [hp];exact aD (by simpa using hi)) fu)))
end
set_option tactic.hygienic true in
theorem kP (i:Int):ci [(.int i,.z)]=some (.ok (.bl true,.z),[(.int i,.z)]):=by
 apply bx (ρ:=[some (.int i,.z)]) rfl rfl
 ·(repeat' (first | infer_instance | eq_refl))
 ·rfl
set_option tactic.hygienic true in
theorem qy (p:Pt):fq [(Pd p,.z)]=some (.ok (.bl true,.z),[(Pd p,.z)]):=by
 apply bx (ρ:=[some (Pd p,.z)]) rfl rfl
 ·(repeat' (first | infer_instance | with_reducible apply aE (kP _) | eq_refl))
 ·rfl
theorem pV {f f':L3.D->L3.D->Option (L3.D × Fl)} {ma mb mc:EM} {ra rb rc:R3} {ρ ρ1 ρ2 ρ3:Sto} {da db db2 dc d:L3.D} {fl fl2:Fl} (h1:ma ρ=some (.ok ra,ρ1)) (h2:mb ρ1=some (.ok rb,ρ2)) (h3:der ra ρ2=some (.ok da,ρ2)) (h4:der rb ρ2=some (.ok db,ρ2)) (h5:f da db=some (.bl true,fl)) (h6:mc ρ2=some (.ok rc,ρ3)) (h7:der rb ρ3=some (.ok db2,ρ3)) (h8:der rc ρ3=some (.ok dc,ρ3)) (h9:f' db2 dc=some (d,fl2)):iG f f' ma mb mc ρ=some (.ok (.val d fl2),ρ3):=by
 simp only [iG,ac,h1,h2,h3,h4,h5,bh,Option.bind_some,asB,zm,if_true,h6,h7,h8,h9]
set_option tactic.hygienic true in
theorem sj (ps:List Pt) (h0:0 < ps.length) (h1:ps.length<=24):dE [(Shd ps,.z)]=some (.ok (.bl true,.z),[(Shd ps,.z)]):=by
 obtain ⟨τ',e,a,rfl⟩:=eK (bnd:=am 0) (c:=dB) (elt:=c9) (fun τ=>∃ a,τ=[a]) (fun _=>true) (fun _=>.bl true) (ds:=ps.map Pd) (τ:=[none]) ⟨none,rfl⟩ (by
  rintro d hd τ ⟨a,rfl⟩
  obtain ⟨p,hp,rfl⟩:=y6.mp hd
  exact ⟨[some (Pd p,.z)],_,rfl,rfl,(fun h=>by cases h),fun _=>⟨.val (.bl true) .z,[some (Pd p,.z)],(.bl true,.z),[some (Pd p,.z)],by unfold c9;(repeat' (first | infer_instance | with_reducible apply aE (qy _) | eq_refl)),rfl,rfl,_,rfl⟩⟩)
 have e3:=iS (ds:=((ps.map Pd).filter fun _=>true).map fun _=>.bl true) (fun d hd=>by obtain ⟨_,_,rfl⟩:=y6.mp hd;rfl)
 generalize ((ps.map Pd).filter fun _=>true).map (fun _=>L3.D.bl true)=out at *
 have e2:fv [some (Shd ps,.z)]=some (.ok (.val (.lst out) .u),[some (Shd ps,.z)]):=bq (im:=cq (ad 0)) (ix:=[none]) (ρ1:=[some (Shd ps,.z)]) (ρ2:=[some (Shd ps,.z)]) (ds:=ps.map Pd) (rs:=[.pl 0]) rfl e (by simp;omega) rfl
 have l1:leI (.int 1) (.int ((ps.map Pd).length:Int))=some (.bl true,.z):=by simp [eG];omega
 have l2:leI (.int ((ps.map Pd).length:Int)) (.int 24)=some (.bl true,.z):=by simp [eG];omega
 apply bx (ρ:=[some (Shd ps,.z)]) rfl rfl
 ·apply d6
  ·apply lP
   ·apply pV
    ·exact i_c
    ·(repeat' (first | infer_instance | eq_refl))
    ·rfl
    ·rfl
    ·exact l1
    ·exact i_c
    ·rfl
    ·rfl
    ·exact l2
   ·rfl
   ·rfl
   ·(repeat' (first | with_reducible exact e2 | infer_instance | exact e3 | eq_refl))
  ·rfl
 ·rfl
theorem iy {xs:List L3.D} {k:Int} {d:L3.D} (h:L2.atI xs k=some d):aH (.tup xs) (.int k)=some (d,.z):=by
 show orD ixD pX (.tup xs) (.int k)=_
 simp [orD,ixD,h]
theorem gO {xs:List L3.D} {k:Int} {d:L3.D} (h:L2.atI xs k=some d):aH (.lst xs) (.int k)=some (d,.z):=by
 show orD ixD pX (.lst xs) (.int k)=_
 simp [orD,ixD,h]
set_option tactic.hygienic true in
theorem se (ps:List Pt) (h0:0 < ps.length) (h1:ps.length<=24) (R:Rising ps):cL [(Shd ps,.z)]=some (.ok (.bl true,.z),[(Shd ps,.z)]):=by
 obtain ⟨τ',e,a,rfl⟩:=eK (bnd:=am 0) (c:=dB) (elt:=cE) (fun τ=>∃ a,τ=[a,some (Shd ps,.z)]) (fun _=>true) (fun _=>.bl true) (ds:=aY 0 (ps.length - 1)) (τ:=[none,some (Shd ps,.z)]) ⟨none,rfl⟩ (by
  rintro d hd τ ⟨a,rfl⟩
  obtain ⟨i,hi⟩:=List.getElem?_of_mem hd
  obtain ⟨hi,rfl⟩:=b7 hi
  have q1:ps[i]?=some ps[i]:=yS _
  have q2:ps[i+1]?=some ps[i+1]:=yS _
  have hlt:=R i (i+1) _ _ (by omega) q1 q2
  have a1:aH (Shd ps) (.int (0+(i:Int)))=some (Pd ps[i],.z):=iy (by rw [Int.zero_add];exact o3 q1)
  have a2:aH (Shd ps) (.int (0+(i:Int)+1))=some (Pd ps[i+1],.z):=iy (by rw [Int.zero_add];exact o3 q2)
  have hl:ltI (.int ps[i].1) (.int ps[i+1].1)=some (.bl true,.z):=by simp [eG,hlt]
  generalize (0+(i:Int))=j at *
  refine ⟨[some (.int j,.z),some (Shd ps,.z)],_,rfl,rfl,(fun h=>by cases h),fun _=>⟨.val (.bl true) .z,[some (.int j,.z),some (Shd ps,.z)],(.bl true,.z),[some (.int j,.z),some (Shd ps,.z)],?_,rfl,rfl,_,rfl⟩⟩
  unfold cE
  (repeat' (first | infer_instance | exact a1 | exact a2 | exact hl | eq_refl)))
 have tn:((ps.length:Int) - 1).toNat=ps.length - 1:=by omega
 have hr:c5 [.int (((ps.map Pd).length:Int) - 1)]=some (aY 0 (ps.length - 1)):=cU (by simp;omega) (by simp)
 have e3:=iS (ds:=((aY 0 (ps.length - 1)).filter fun _=>true).map fun _=>.bl true) (fun d hd=>by obtain ⟨_,_,rfl⟩:=y6.mp hd;rfl)
 generalize ((aY 0 (ps.length - 1)).filter fun _=>true).map (fun _=>L3.D.bl true)=out at *
 have e2:d5 [some (Shd ps,.z)]=some (.ok (.val (.lst out) .u),[some (Shd ps,.z)]):=bq (ρ1:=[some (Shd ps,.z)]) (rs:=[]) (by (repeat' (first | with_reducible apply eI (h3:=hr) | infer_instance | eq_refl))) e (by rw [cz];omega) rfl
 apply bx (ρ:=[some (Shd ps,.z)]) rfl rfl
 ·unfold fX;(repeat' (first | with_reducible exact e2 | infer_instance | exact e3 | eq_refl))
 ·rfl
set_option tactic.hygienic true in
theorem kR (p q r:Int × Int) (h1:-18446744073709551616 < q.1 - p.1/\q.1 - p.1 < 18446744073709551616) (h2:-18446744073709551616 < q.2 - p.2/\q.2 - p.2 < 18446744073709551616):iT [(Pd p,.z),(Pd q,.z),(Pd r,.z)]=some (.ok (.int (aq p q r),.z),[(Pd p,.z),(Pd q,.z),(Pd r,.z)]):=by
 apply bx (ρ:=[some (Pd p,.z),some (Pd q,.z),some (Pd r,.z),none]) rfl rfl
 ·apply al
  ·(repeat' (first | infer_instance | exact fR h1 | eq_refl))
  ·(repeat' (first | infer_instance | exact fR h2 | eq_refl))
 ·rfl
set_option tactic.hygienic true in
theorem rM {n i j:Nat} (xs:List L3.D) (hn:n<=25) (hj:j < n) (elt:EM) (he:∀ (a b c:L3.D),elt [some (c,.z),some (a,.z),some (b,.z)]=some (.ok (.val (.tup [a,b,c]) .z),[some (c,.z),some (a,.z),some (b,.z)])) :
  bR (bI jN (ab (ai fj (ad 3) (mC (.int 1))) (ab (ad 0) ak))) (am 0) dB elt [none,some 2,some 3] [some (.int n,.z),some (.lst xs,.u),some (.int i,.z),some (.int j,.z)]=some (.ok (.val (.lst ((kB i j (n - (j+1))).map Td)) .u),[some (.int n,.z),some (.lst xs,.u),some (.int i,.z),some (.int j,.z)]):=by
 obtain ⟨τ',e,a,rfl⟩:=eK (bnd:=am 0) (c:=dB) (elt:=elt) (fun τ=>∃ a,τ=[a,some (.int i,.z),some (.int j,.z)]) (fun _=>true) (fun d=>.tup [.int i,.int j,d]) (ds:=aY ((j:Int)+1) (n - (j+1))) (τ:=[none,some (.int i,.z),some (.int j,.z)]) ⟨none,rfl⟩ (by
  rintro d hd τ ⟨a,rfl⟩
  exact ⟨[some (d,.z),some (.int i,.z),some (.int j,.z)],_,rfl,rfl,(fun h=>by cases h),fun _=>⟨_,_,(.tup [.int i,.int j,d],.z),_,he _ _ _,rfl,rfl,_,rfl⟩⟩)
 have e4:((aY ((j:Int)+1) (n - (j+1))).filter fun _=>true).map (fun d=>L3.D.tup [.int i,.int j,d])=(kB i j (n - (j+1))).map Td:=by
  rw [zw.mpr (fun _ _=>rfl)]
  simp [aY,kB,Function.comp_def]
 rw [e4] at e
 have hr:jN [.int ((j:Int)+1),.int n]=some (aY ((j:Int)+1) (n - (j+1))):=ph (by omega) (by omega) (by omega)
 exact bq (rs:=[]) (by (repeat' (first | with_reducible apply eI (h3:=hr) | infer_instance | eq_refl))) e (by rw [cz];omega) rfl
theorem yq {A B:List L3.D} (h:A.length+B.length<=16777216):tX (.lst A) [.lst B]=some (.lst (A ++ B),.non):=by simp [tX,h]
theorem l8 {A:List L3.D} {d:L3.D} (h:A.length < 16777216):jq (.lst A) [d]=some (.lst (A ++ [d]),.non):=by simp [jq,h]
theorem vX {A B:List L3.D} (h:A.length+B.length<=16777216):fj (.tup A) (.tup B)=some (.tup (A ++ B),.z):=by simp [orD,eG,yA,yz,yB,h]
set_option tactic.hygienic true in
theorem qp {n:Nat} (hn:n<=25) {b1 b2:SM} (h2:b2=du (bI jN (ab (ai fj (ad 2) (mC (.int 1))) (ab (ad 0) ak))) (am 3) b1)
  (h1:∀ (i j:Nat) (xs:List L3.D),j < n->xs.length<=20000->b1 [some (.int n,.z),some (.lst xs,.u),some (.int i,.z),some (.int j,.z)]=some (.ok .nx,[some (.int n,.z),some (.lst (xs ++ (kB i j (n - (j+1))).map Td),.u),some (.int i,.z),some (.int j,.z)])) :
  ∃ v2 v3,du (bI c5 (ab (ad 0) ak)) (am 2) b2 [some (.int n,.z),some (.lst [],.u),none,none]=some (.ok .nx,[some (.int n,.z),some (.lst ((uE n).map Td),.u),v2,v3]):=by
 have inner:∀ (i:Nat) (xs:List Tri) (v3:Option (L3.D × Fl)),i < n->xs.length<=15625->∃ v3',b2 [some (.int n,.z),some (.lst (xs.map Td),.u),some (.int i,.z),v3]=some (.ok .nx,[some (.int n,.z),some (.lst ((xs ++ iA n i (n - (i+1))).map Td),.u),some (.int i,.z),v3']):=by
  intro i xs v3 hi hx
  obtain ⟨ρ',e,v3',rfl⟩:=bT (bnd:=am 3) (b:=b1) (fun m ρ=>∃ v3,ρ=[some (.int n,.z),some (.lst ((xs ++ iA n i m).map Td),.u),some (.int i,.z),v3]) (ds:=aY ((i:Int)+1) (n - (i+1))) (ρ:=[some (.int n,.z),some (.lst (xs.map Td),.u),some (.int i,.z),v3]) (k:=0) ⟨v3,by simp [iA]⟩ (by
   rintro m d ρ hd ⟨v3,rfl⟩
   obtain ⟨hm,rfl⟩:=b7 hd
   have hx2:((xs ++ iA n i m).map Td).length<=20000:=by
    have:=oh (n:=n) (i:=i) (m:=m) hn (by omega)
    simp only [yW,zi]
    omega
   have c:=h1 i (i+1+m) ((xs ++ iA n i m).map Td) (by omega) hx2
   rw [show ((i+1+m:Nat):Int)=(i:Int)+1+m by omega,<- List.map_append,List.append_assoc,<- kS] at c
   exact ⟨_,_,by rw [zg];rfl,.inl c,_,by rw [zg]⟩)
  refine ⟨v3',?_⟩
  rw [cz,zg] at e
  have hr:jN [.int ((i:Int)+1),.int n]=some (aY ((i:Int)+1) (n - (i+1))):=ph (by omega) (by omega) (by omega)
  rw [h2]
  apply fA
  ·(repeat' (first | with_reducible apply eI (h3:=hr) | infer_instance | eq_refl))
  ·rfl
  ·exact e
 obtain ⟨ρ',e,v2,v3,rfl⟩:=bT (bnd:=am 2) (b:=b2) (fun m ρ=>∃ v2 v3,ρ=[some (.int n,.z),some (.lst ((lA n m).map Td),.u),v2,v3]) (ds:=aY 0 n) (ρ:=[some (.int n,.z),some (.lst [],.u),none,none]) (k:=0) ⟨none,none,rfl⟩ (by
  rintro m d ρ hd ⟨v2,v3,rfl⟩
  obtain ⟨hm,rfl⟩:=b7 hd
  rw [zg,Int.zero_add]
  obtain ⟨v3',e⟩:=inner m (lA n m) v3 hm (oi hn (by omega))
  rw [<- kT] at e
  exact ⟨_,_,rfl,.inl e,_,_,rfl⟩)
 rw [cz,zg] at e
 have hr:c5 [.int (n:Int)]=some (aY 0 n):=cU (by omega) (by omega)
 refine ⟨v2,v3,?_⟩
 apply fA
 ·(repeat' (first | with_reducible apply eI (h3:=hr) | infer_instance | eq_refl))
 ·rfl
 ·exact e
set_option tactic.hygienic true in
theorem n5 (n:Nat) (hn:n<=25):ir [(.int n,.z)]=some (.ok (.lst ((uE n).map Td),.u),[(.int n,.z)]):=by
 obtain ⟨v2,v3,e⟩:=qp (n:=n) hn (b1:=fU) (b2:=iZ) rfl (by
  intro i j xs hj hx
  have c:=rM (n:=n) (i:=i) (j:=j) xs hn hj fT (fun a b c=>by unfold fT;(repeat' (first | infer_instance | eq_refl)))
  have hl:xs.length+((kB i j (n - (j+1))).map Td).length<=16777216:=by
   rw [yW,mF];omega
  unfold fU iY
  (repeat' (first | with_reducible exact c | infer_instance | exact yq hl | eq_refl)))
 apply bx (ρ:=[some (.int n,.z),none,none,none]) rfl rfl
 ·apply al
  ·(repeat' (first | infer_instance | eq_refl))
  ·apply al
   ·exact e
   ·(repeat' (first | infer_instance | eq_refl))
 ·rfl
theorem pI {i j:Int}:neX (.int i) (.int j)=some (.bl (!decide (i=j)),.z):=rfl
set_option tactic.hygienic true in
theorem tW {S:List L3.D} {i j k:Int} {p q r:Pt} {v2:Option (L3.D × Fl)} (a1:aH (.tup S) (.int i)=some (Pd p,.z)) (a2:aH (.tup S) (.int j)=some (Pd q,.z)) (a3:aH (.tup S) (.int k)=some (Pd r,.z)) (hp:Small p) (hq:Small q) (h0:aq p q r ≠ 0):bG [some (.tup S,.z),some (.tup [.int i,.int j,.int k],.z),v2]=some (.ok .nx,[some (.tup S,.z),some (.tup [.int i,.int j,.int k],.z),some (.tup [Pd p,Pd q,Pd r],.z)]):=by
 have b:=kR p q r (Small.sub hp hq).1 (Small.sub hp hq).2
 have one:∀ (x d:L3.D) (a:Option (L3.D × Fl)),aH (.tup S) x=some (d,.z)->cg [some (x,.z),some (.tup S,.z)]=some (.ok (.val d .z),[some (x,.z),some (.tup S,.z)]):=fun x d a h=>by unfold cg;(repeat' (first | infer_instance | exact h | eq_refl))
 have c:dL [some (.tup S,.z),some (.tup [.int i,.int j,.int k],.z),v2]=some (.ok (.val (.lst [Pd p,Pd q,Pd r]) .u),[some (.tup S,.z),some (.tup [.int i,.int j,.int k],.z),v2]):=by
  refine bq (ρ1:=[some (.tup S,.z),some (.tup [.int i,.int j,.int k],.z),v2]) (ρ2:=[some (.tup S,.z),some (.tup [.int i,.int j,.int k],.z),v2]) (ds:=[.int i,.int j,.int k]) (rs:=[.pl 1]) (τ:=[some (.int k,.z),some (.tup S,.z)]) rfl ?_ (by simp) rfl
  have e1:=one (.int i) _ none a1
  have e2:=one (.int j) _ none a2
  have e3:=one (.int k) _ none a3
  have n0:∀ d a,am 0 d [a,some (L3.D.tup S,.z)]=some [some (d,.z),some (.tup S,.z)]:=fun _ _=>rfl
  have cs:oU [none,some 0] (aJ cN (us [some (L3.D.tup S,.z),some (.tup [.int i,.int j,.int k],.z),v2] (pls [R3.pl 1])) [some (.tup S,.z),some (.tup [.int i,.int j,.int k],.z),v2])=[none,some (.tup S,.z)]:=rfl
  rw [cs]
  simp only [bE,n0,dB,ac,bj,if_true,e1,e2,e3,eA,nol]
 unfold bG
 apply al
 ·(repeat' (first | with_reducible exact c | infer_instance | eq_refl))
 ·apply d7
  ·(repeat' (first | infer_instance | with_reducible apply aE (b) | eq_refl))
  ·exact ze h0
  ·rfl
set_option tactic.hygienic true in
theorem uY (ps:List Pt) (hl:ps.length<=24) (hs:∀ p ∈ ps,Small p) (hn:NoLine ps):cb [(Shd ps,.z)]=some (.ok (.non,.z),[(Shd ps,.z)]):=by
 have ht:=n5 ps.length (by omega)
 rw [show (ps.length:Int)=((ps.map Pd).length:Int) by rw [yW]] at ht
 obtain ⟨ρ',e,v1,v2,rfl⟩:=bT (bnd:=am 1) (b:=bG) (fun _ ρ=>∃ v1 v2,ρ=[some (Shd ps,.z),v1,v2]) (ds:=(uE ps.length).map Td) (ρ:=[some (Shd ps,.z),none,none]) (k:=0) ⟨none,none,rfl⟩ (by
  rintro m d ρ hd ⟨v1,v2,rfl⟩
  rw [y7,yO] at hd
  obtain ⟨t,ht,rfl⟩:=hd
  obtain ⟨m1,m2,m3⟩:=tv (yY ht)
  have q1:ps[t.1]?=some (ps[t.1]'(by omega)):=yS _
  have q2:ps[t.2.1]?=some (ps[t.2.1]'(by omega)):=yS _
  have q3:ps[t.2.2]?=some (ps[t.2.2]'(by omega)):=yS _
  have b:=tW (v2:=v2) (iy (o3 q1)) (iy (o3 q2)) (iy (o3 q3)) (hs _ (yY q1)) (hs _ (yY q2)) (hn _ _ _ _ _ _ m1 m2 q1 q2 q3)
  exact ⟨[some (Shd ps,.z),some (Td t,.z),v2],_,rfl,.inl b,_,_,rfl⟩)
 apply bx (ρ:=[some (Shd ps,.z),none,none]) rfl rfl
 ·apply al
  ·apply fA
   ·(repeat' (first | infer_instance | with_reducible apply aE (ht) | eq_refl))
   ·rfl
   ·exact e
  ·(repeat' (first | infer_instance | eq_refl))
 ·rfl
set_option tactic.hygienic true in
theorem mD {ps:List Pt} (g:GoodSh ps):fo [(Shd ps,.z)]=some (.ok (.bl true,.z),[(Shd ps,.z)]):=by
 have h1:=sj ps g.pos g.most
 have h2:=se ps g.pos g.most g.rising
 have h3:=uY ps g.most g.small g.noline
 apply bx (ρ:=[some (Shd ps,.z)]) rfl rfl
 ·apply al
  ·apply d7
   ·(repeat' (first | infer_instance | with_reducible apply aE (h1) | eq_refl))
   ·rfl
   ·rfl
  ·(repeat' (first | infer_instance | with_reducible apply aE (h2) | with_reducible apply aE (h3) | eq_refl))
 ·rfl
set_option tactic.hygienic true in
theorem iz {ps:List Pt} (g:GoodSh ps):ba [(Shd ps,.z)]=some (.ok (.non,.z),[(Shd ps,.z)]):=by
 have h1:=mD g
 apply F_nx (ρ:=[some (Shd ps,.z)]) rfl rfl
 ·apply d7
  ·(repeat' (first | infer_instance | with_reducible apply aE (h1) | eq_refl))
  ·rfl
  ·rfl
 ·rfl
noncomputable def fI (p q r:Pt):Int:=if 0 < aq p q r then 1 else -1
set_option tactic.hygienic true in
theorem n4 {S:List L3.D} {i j k:Int} {p q r:Pt} (a1:aH (.tup S) (.int i)=some (Pd p,.z)) (a2:aH (.tup S) (.int j)=some (Pd q,.z)) (a3:aH (.tup S) (.int k)=some (Pd r,.z)) (hp:Small p) (hq:Small q):eL [(.tup S,.z),(.tup [.int i,.int j,.int k],.z)]=some (.ok (.int (fI p q r),.z),[(.tup S,.z),(.tup [.int i,.int j,.int k],.z)]):=by
 have b:=kR p q r (Small.sub hp hq).1 (Small.sub hp hq).2
 by_cases h:0 < aq p q r
 ·rw [show fI p q r=1 from if_pos h]
  apply bx (ρ:=[some (.tup S,.z),some (.tup [.int i,.int j,.int k],.z)]) rfl rfl
  ·apply d6
   ·apply yi
    ·(repeat' (first | infer_instance | with_reducible apply aE (b) | exact a1 | exact a2 | exact a3 | eq_refl))
    ·exact zd h
    ·exact i_c
   ·rfl
  ·rfl
 ·rw [show fI p q r = -1 from if_neg h]
  apply bx (ρ:=[some (.tup S,.z),some (.tup [.int i,.int j,.int k],.z)]) rfl rfl
  ·apply d6
   ·apply yj
    ·(repeat' (first | infer_instance | with_reducible apply aE (b) | exact a1 | exact a2 | exact a3 | eq_refl))
    ·exact ze h
    ·(repeat' (first | infer_instance | eq_refl))
   ·rfl
  ·rfl
set_option tactic.hygienic true in
theorem mB (n m:Int) (h:0 < m/\m < 1073741824):bU [(.lst [.int n],.u),(.int m,.z)]=some (.ok (.int (n % m),.z),[(.lst [.int (n / m)],.u),(.int m,.z)]):=by
 have hd:t5 [.int n,.int m]=some (.tup [.int (n / m),.int (n % m)],.z):=by simp [c2,nb,h]
 apply bx (ρ:=[some (.lst [.int n],.u),some (.int m,.z),none,none]) rfl rfl
 ·apply al
  ·(repeat' (first | infer_instance | exact hd | eq_refl))
  ·apply al
   ·(repeat' (first | infer_instance | eq_refl))
   ·(repeat' (first | infer_instance | eq_refl))
 ·rfl
set_option tactic.hygienic true in
theorem mE (p q r:Int × Int) (h1:-18446744073709551616 < q.1 - p.1/\q.1 - p.1 < 18446744073709551616) (h2:-18446744073709551616 < q.2 - p.2/\q.2 - p.2 < 18446744073709551616):dR [(Pd p,.z),(Pd q,.z),(Pd r,.z)]=some (.ok (.int (aq p q r),.z),[(Pd p,.z),(Pd q,.z),(Pd r,.z)]):=by
 apply bx (ρ:=[some (Pd p,.z),some (Pd q,.z),some (Pd r,.z),none]) rfl rfl
 ·apply al
  ·(repeat' (first | infer_instance | exact fR h1 | eq_refl))
  ·(repeat' (first | infer_instance | exact fR h2 | eq_refl))
 ·rfl
theorem d8 (c:Int) (m:Int) (h:0 < m):0<=c % m/\c % m < m:=⟨Int.emod_nonneg _ (by omega),Int.emod_lt_of_pos _ h⟩
set_option tactic.hygienic true in
theorem ug (S kk:L3.D) (c n j:Int) (v5:Option (L3.D × Fl)):∃ n' p',fh [some (S,.z),some (kk,.z),some (.int c,.z),some (.int n,.z),some (.int j,.z),v5]=some (.ok .nx,[some (S,.z),some (kk,.z),some (.int c,.z),some (.int n',.z),some (.int j,.z),some (.int p',.z)]):=by
 have b:∀ x:Int,-18446744073709551616 < x % 2147483647/\x % 2147483647 < 18446744073709551616:=fun x=>by have:=d8 x 2147483647 (by decide);omega
 have b2:∀ x:Int,-18446744073709551616 < x % 2147483629/\x % 2147483629 < 18446744073709551616:=fun x=>by have:=d8 x 2147483629 (by decide);omega
 apply Exists.intro
 apply Exists.intro
 apply al
 ·(repeat' (first | infer_instance | exact tq (by decide) | exact fR (by decide) | eq_refl))
 ·apply al
  ·(repeat' (first | infer_instance | exact fR (b _) | eq_refl))
  ·(repeat' (first | infer_instance | exact tq (by decide) | exact fR (b2 _) | eq_refl))
set_option tactic.hygienic true in
theorem nJ (S kk:L3.D) (c:Int):∃ (n:Int) (v3 v4 v5:Option (L3.D × Fl)),(aK (sIf (cB (ai eqX (ai mR (ad 2) (mC (.int 2))) (mC (.int 0)))) (bD 2 (fG (ab (ai yw (ad 2) (mC (.int 2))) ak))) fE) (aK (bp 3 (mC (.int 0))) (aK (du (bI c5 (ab (mC (.int 16)) ak)) (am 4) fh) (bD 2 (fG (ab (ad 3) ak)))))) [some (S,.z),some (kk,.z),some (.int c,.z),none,none,none]=some (.ok (.rt (.lst [.int n]) .u),[some (S,.z),some (kk,.z),some (.int c,.z),v3,v4,v5]):=by
 by_cases h:c % 2=0
 ·refine ⟨c / 2,none,none,none,?_⟩
  apply jJ
  apply i9
  ·(repeat' (first | infer_instance | eq_refl))
  ·exact zd h
  ·(repeat' (first | infer_instance | eq_refl))
 ·obtain ⟨ρ',e,n,v4,v5,rfl⟩:=bT (bnd:=am 4) (b:=fh) (fun _ ρ=>∃ (n:Int) (v4 v5:Option (L3.D × Fl)),ρ=[some (S,.z),some (kk,.z),some (.int c,.z),some (.int n,.z),v4,v5]) (ds:=aY 0 16) (ρ:=[some (S,.z),some (kk,.z),some (.int c,.z),some (.int 0,.z),none,none]) (k:=0) ⟨0,none,none,rfl⟩ (by
   rintro i d ρ hd ⟨n,v4,v5,rfl⟩
   obtain ⟨hi,rfl⟩:=b7 hd
   obtain ⟨n',p',e⟩:=ug S kk c n (0+(i:Int)) v5
   exact ⟨_,_,rfl,.inl e,_,_,_,rfl⟩)
  refine ⟨n,some (.int n,.z),v4,v5,?_⟩
  apply al
  ·apply d7
   ·(repeat' (first | infer_instance | eq_refl))
   ·exact ze h
   ·rfl
  apply al
  ·(repeat' (first | infer_instance | eq_refl))
  apply al
  ·apply fA
   ·exact eI (by (repeat' (first | infer_instance | eq_refl))) rfl (cU (n:=16) (by decide) (by decide))
   ·rfl
   ·exact e
  ·(repeat' (first | infer_instance | eq_refl))
set_option tactic.hygienic true in
theorem uZ (ns:List Int) (k:Nat):∃ n:Int,jD [(.fls (ns.map .int),.z),(.int k,.z)]=some (.ok (.lst [.int n],.u),[(.fls (ns.map .int),.z),(.int k,.z)]):=by
 by_cases h:k < ns.length
 ·obtain ⟨n,v3,v4,v5,e⟩:=nJ (.fls (ns.map .int)) (.int k) ns[k]
  refine ⟨n,?_⟩
  have a:aH (.fls (ns.map .int)) (.int (k:Int))=some (.int ns[k],.z):=by
   have:L2.atI (ns.map L3.D.int) (k:Int)=some (.int ns[k]):=jB (by simp [h])
   simp [orD,ixD,this]
  have hk:(k:Int) < ((ns.map L3.D.int).length:Int):=by simp;omega
  generalize (k:Int)=kk at *
  apply bx (ρ:=[some (.fls (ns.map .int),.z),some (.int kk,.z),none,none,none,none]) rfl rfl
  ·apply al
   ·(repeat' (first | infer_instance | exact fR (by decide) | eq_refl))
   apply al
   ·apply i9
    ·(repeat' (first | infer_instance | eq_refl))
    ·exact zd hk
    ·(repeat' (first | infer_instance | exact a | eq_refl))
   ·exact e
  ·rfl
 ·obtain ⟨n,v3,v4,v5,e⟩:=nJ (.fls (ns.map .int)) (.int k) (7919 * (k:Int)+13)
  refine ⟨n,?_⟩
  have hk:¬ (k:Int) < ((ns.map L3.D.int).length:Int):=by simp;omega
  generalize (k:Int)=kk at *
  apply bx (ρ:=[some (.fls (ns.map .int),.z),some (.int kk,.z),none,none,none,none]) rfl rfl
  ·apply al
   ·(repeat' (first | infer_instance | exact fR (by decide) | eq_refl))
   apply al
   ·apply d7
    ·(repeat' (first | infer_instance | eq_refl))
    ·exact ze hk
    ·rfl
   ·exact e
  ·rfl
set_option tactic.hygienic true in
theorem vS {X Z:L3.D} {f:Fl} {k j:Int} {p q z:L3.D} {b:Int} (a1:aH X (.int j)=some (p,.z)) (a2:aH X (.int k)=some (q,.z)) (hb:dR [(p,.z),(q,.z),(Z,.z)]=some (.ok (.int b,.z),[(p,.z),(q,.z),(Z,.z)])) :
  dZ [some (X,f),some (Z,.z),some (.int k,.z),some (.int j,.z)]=some (.ok (if b=0 then .rt (.bl false) .z else .nx),[some (X,f),some (Z,.z),some (.int k,.z),some (.int j,.z)]):=by
 by_cases h:b=0
 ·rw [if_pos h]
  apply i9
  ·(repeat' (first | infer_instance | with_reducible apply aE (hb) | exact a1 | exact a2 | eq_refl))
  ·exact zd h
  ·(repeat' (first | infer_instance | eq_refl))
 ·rw [if_neg h]
  apply d7
  ·(repeat' (first | infer_instance | with_reducible apply aE (hb) | exact a1 | exact a2 | eq_refl))
  ·exact ze h
  ·rfl
set_option tactic.hygienic true in
theorem q5 (ps:List Pt) (z:Pt) (hs:∀ p ∈ ps,Small p) (hl:ps.length<=24) {X:L3.D} {f:Fl} (hlen:df [X]=some (.int (ps.length:Int),.z)) (hix:∀ (i:Nat) (p:Pt),ps[i]?=some p->aH X (.int i)=some (Pd p,.z)) :
  ∃ (b:Bool) (v2 v3:Option (L3.D × Fl)),m6 [some (X,f),some (Pd z,.z),none,none]=some (.ok (.rt (.bl b) .z),[some (X,f),some (Pd z,.z),v2,v3])/\(b=true->rF ps z)/\(b=false->∃ (i j:Nat) (p q:Pt),i < j/\ps[i]?=some p/\ps[j]?=some q/\aq p q z=0):=by
 have inner:∀ (i:Nat) (q:Pt) (v3:Option (L3.D × Fl)),ps[i]?=some q->∃ v3',bQ [some (X,f),some (Pd z,.z),some (.int (0+(i:Int)),.z),v3]=some (.ok .nx,[some (X,f),some (Pd z,.z),some (.int (0+(i:Int)),.z),v3'])/\(∀ j p,j < i->ps[j]?=some p->aq p q z ≠ 0) \/
   bQ [some (X,f),some (Pd z,.z),some (.int (0+(i:Int)),.z),v3]=some (.ok (.rt (.bl false) .z),[some (X,f),some (Pd z,.z),some (.int (0+(i:Int)),.z),v3'])/\∃ j p,j < i/\ps[j]?=some p/\aq p q z=0:=by
  intro i q v3 hq
  have hi:i < ps.length:=(yX.mp hq).1
  have hq2:aH X (.int (0+(i:Int)))=some (Pd q,.z):=by rw [Int.zero_add];exact hix i q hq
  have hr:c5 [.int (0+(i:Int))]=some (aY 0 i):=cU (by omega) (by omega)
  obtain ⟨ρ',h⟩:=jz (bnd:=am 3) (b:=dZ) (fun m ρ=>∃ v3,ρ=[some (X,f),some (Pd z,.z),some (.int (0+(i:Int)),.z),v3]/\∀ j p,j < m->ps[j]?=some p->aq p q z ≠ 0)
   (fun m r fl ρ=>r=.bl false/\fl=.z/\∃ v3,ρ=[some (X,f),some (Pd z,.z),some (.int (0+(i:Int)),.z),v3]/\∃ p,ps[m]?=some p/\aq p q z=0)
   (ds:=aY 0 i) (ρ:=[some (X,f),some (Pd z,.z),some (.int (0+(i:Int)),.z),v3]) (k:=0) ⟨v3,rfl,fun j p h=>absurd h (Nat.not_lt_zero _)⟩ (by
    rintro m d ρ hd ⟨v3,rfl,hn⟩
    obtain ⟨hm,rfl⟩:=b7 hd
    have hp:ps[m]?=some (ps[m]'(by omega)):=yS _
    generalize (ps[m]'(by omega))=p at hp
    have hp2:aH X (.int (0+(m:Int)))=some (Pd p,.z):=by rw [Int.zero_add];exact hix m p hp
    have sm:=Small.sub (hs p (yY hp)) (hs q (yY hq))
    have rb:=vS (f:=f) (z:=.non) hp2 hq2 (mE p q z sm.1 sm.2)
    by_cases h0:aq p q z=0
    ·rw [if_pos h0] at rb
     exact ⟨_,_,rfl,.inr ⟨.bl false,.z,rb,rfl,rfl,_,rfl,p,by rw [zg];exact hp,h0⟩⟩
    ·rw [if_neg h0] at rb
     refine ⟨_,_,rfl,.inl ⟨.inl rb,_,rfl,fun j p' hj hp1=>?_⟩⟩
     by_cases e:j=m
     ·subst e;rw [hp] at hp1;cases hp1;exact h0
     ·exact hn j p' (by omega) hp1)
  have wrap:∀ {o:Except L3.D Flw} {ρ2:Sto},eJ (am 3) dZ (aY 0 i) [some (X,f),some (Pd z,.z),some (.int (0+(i:Int)),.z),v3]=some (o,ρ2)->bQ [some (X,f),some (Pd z,.z),some (.int (0+(i:Int)),.z),v3]=some (o,ρ2):=fun e=>by
   apply fA
   ·(repeat' (first | with_reducible apply eI (h3:=hr) | infer_instance | eq_refl))
   ·rfl
   ·exact e
  rcases h with ⟨e,v3',rfl,h⟩ | ⟨m,r,fl,hm,e,rfl,rfl,v3',rfl,p,hp,h0⟩
  ·exact ⟨v3',.inl ⟨wrap e,fun j p hj=>h j p (by rw [cz];omega)⟩⟩
  ·exact ⟨v3',.inr ⟨wrap e,m,p,by rw [cz] at hm;exact hm,by rw [zg] at hp;exact hp,h0⟩⟩
 obtain ⟨ρ',h⟩:=jz (bnd:=am 2) (b:=bQ) (fun m ρ=>∃ v2 v3,ρ=[some (X,f),some (Pd z,.z),v2,v3]/\∀ i j p q,i < j->j < m->ps[i]?=some p->ps[j]?=some q->aq p q z ≠ 0)
   (fun m r fl ρ=>r=.bl false/\fl=.z/\∃ v2 v3,ρ=[some (X,f),some (Pd z,.z),v2,v3]/\∃ (i j:Nat) (p q:Pt),i < j/\ps[i]?=some p/\ps[j]?=some q/\aq p q z=0)
   (ds:=aY 0 ps.length) (ρ:=[some (X,f),some (Pd z,.z),none,none]) (k:=0) ⟨_,_,rfl,fun i j p q _ h=>absurd h (Nat.not_lt_zero _)⟩ (by
    rintro m d ρ hd ⟨v2,v3,rfl,hn⟩
    obtain ⟨hm,rfl⟩:=b7 hd
    have hq:ps[m]?=some (ps[m]'(by omega)):=yS _
    generalize (ps[m]'(by omega))=q at hq
    obtain ⟨v3',h⟩:=inner m q v3 hq
    rcases h with ⟨e,h⟩ | ⟨e,j,p,hj,hp,h0⟩
    ·refine ⟨_,_,rfl,.inl ⟨.inl e,_,_,rfl,fun i j p q' hij hj hi hj'=>?_⟩⟩
     by_cases ej:j=m
     ·subst ej;rw [hq] at hj';cases hj';exact h i p hij hi
     ·exact hn i j p q' hij (by omega) hi hj'
    ·exact ⟨_,_,rfl,.inr ⟨.bl false,.z,e,rfl,rfl,_,_,rfl,j,m,p,q,hj,hp,hq,h0⟩⟩)
 have hr:c5 [.int (ps.length:Int)]=some (aY 0 ps.length):=cU (by omega) (by omega)
 have hf:∀ {o:Except L3.D Flw} {ρ2:Sto},eJ (am 2) bQ (aY 0 ps.length) [some (X,f),some (Pd z,.z),none,none]=some (o,ρ2)->du (bI c5 (ab (aC df (ab (ad 0) ak)) ak)) (am 2) bQ [some (X,f),some (Pd z,.z),none,none]=some (o,ρ2):=fun e=>by
  apply fA
  ·exact eI (b5 (c3 (b5 (bJ rfl) cO) rfl hlen) cO) rfl hr
  ·rfl
  ·exact e
 rcases h with ⟨e,v2,v3,rfl,h⟩ | ⟨m,r,fl,hm,e,rfl,rfl,v2,v3,rfl,hx⟩
 ·refine ⟨true,v2,v3,?_,fun _ i j p q hij hi hj=>h i j p q hij ?_ hi hj,fun h=>by cases h⟩
  ·apply al
   ·exact hf e
   ·(repeat' (first | infer_instance | eq_refl))
  ·have:=(yX.mp hj).1
   rw [cz];omega
 ·refine ⟨false,v2,v3,?_,fun h=>(by cases h),fun _=>hx⟩
  apply jJ
  exact hf e
theorem sh (ps:List Pt) (z:Pt) (hs:∀ p ∈ ps,Small p) (hl:ps.length<=24):∃ b:Bool,iu [(.lst (ps.map Pd),.u),(Pd z,.z)]=some (.ok (.bl b,.z),[(.lst (ps.map Pd),.u),(Pd z,.z)])/\(b=true->rF ps z)/\(b=false->∃ (i j:Nat) (p q:Pt),i < j/\ps[i]?=some p/\ps[j]?=some q/\aq p q z=0):=by
 obtain ⟨b,v2,v3,e,h1,h2⟩:=q5 ps z hs hl (X:=.lst (ps.map Pd)) (f:=.u) (by simp [c1,xY]) (fun i p h=>gO (o3 h))
 refine ⟨b,?_,h1,h2⟩
 apply bx (ρ:=[some (.lst (ps.map Pd),.u),some (Pd z,.z),none,none]) rfl rfl
 ·exact e
 ·rfl
noncomputable abbrev dm (n most many kd x:Int) (ps:List Pt) (v6 v7 v8:Option (L3.D × Fl)):Sto:=[some (.lst [.int n],.u),some (.int most,.z),some (.int many,.z),some (.int kd,.z),some (.int x,.z),some (.lst (ps.map Pd),.u),v6,v7,v8]
theorem rC (ps:List Pt) (x y:Int) (hl:ps.length<=12):above ps x y<=144:=by
 have h1:=ux ps x y
 have h2:ps.length * ps.length<=12 * 12:=Nat.mul_le_mul hl hl
 omega
set_option tactic.hygienic true in
theorem n6 {n most many kd x y0:Int} {ps:List Pt} {v6 v7:Option (L3.D × Fl)} (R:Rising ps) (hs:∀ p ∈ ps,Small p) (hl:ps.length<=12) :
  ∃ y,cw cD dz (dm n most many kd x ps v6 v7 (some (.int y0,.z)))=some (.ok .nx,dm n most many kd x ps v6 v7 (some (.int y,.z)))/\rF ps (x,y)/\y0<=y/\y<=y0+144:=by
 have ablt:=rC ps x y0 hl
 obtain ⟨ρ',e,y,rfl,hf,h1,h2⟩:=en (c:=cD) (b:=dz) (fun m ρ=>∃ y:Int,ρ=dm n most many kd x ps v6 v7 (some (.int y,.z))/\m=above ps x y/\y0<=y/\y+(above ps x y:Int)<=y0+(above ps x y0:Int))
  (fun ρ=>∃ y:Int,ρ=dm n most many kd x ps v6 v7 (some (.int y,.z))/\rF ps (x,y)/\y0<=y/\y<=y0+144) (ρ:=dm n most many kd x ps v6 v7 (some (.int y0,.z))) ⟨y0,rfl,rfl,Int.le_refl _,Int.le_refl _⟩ (by
   rintro m ρ ⟨y,rfl,rfl,h1,h2⟩
   obtain ⟨b,eb,ht,hf⟩:=sh ps (x,y) hs (by omega)
   have et:cD (dm n most many kd x ps v6 v7 (some (.int y,.z)))=some (.ok (!b),dm n most many kd x ps v6 v7 (some (.int y,.z))):=by
    unfold cD
    (repeat' (first | infer_instance | with_reducible apply aE (eb) | eq_refl))
   cases b with
   | true=>exact .inl ⟨_,et,y,rfl,ht rfl,h1,by omega⟩
   | false =>
    obtain ⟨i,j,p,q,hij,e1,e2,h0⟩:=hf rfl
    have hlt:=uw R hij e1 e2 h0
    exact .inr ⟨_,dm n most many kd x ps v6 v7 (some (.int (y+1),.z)),_,et,.inl (by unfold dz;(repeat' (first | infer_instance | eq_refl))),hlt,y+1,rfl,rfl,by omega,by omega⟩)
 exact ⟨y,e,hf,h1,h2⟩
theorem sq_le {x:Int} (h0:-40<=x) (h1:x<=40):0<=x * x/\x * x<=1600:=by
 have a:x * x=(x.natAbs * x.natAbs:Nat):=by rw [Int.natCast_mul];exact (Int.natAbs_mul_self' x).symm
 have b:x.natAbs * x.natAbs<=40 * 40:=Nat.mul_le_mul (by omega) (by omega)
 omega
theorem vY {x k:Int}:∃ b:Int,aH (.lst [.int (x * x),.int (0 - x * x)]) (.int (k % 2))=some (.int b,.z)/\(b=x * x\/b=0 - x * x):=by
 rcases Int.emod_two_eq k with e | e
 ·rw [e];exact ⟨_,rfl,.inl rfl⟩
 ·rw [e];exact ⟨_,rfl,.inr rfl⟩
theorem y_at {a b c d e kd:Int} (h0:0<=kd) (h1:kd < 5):∃ y:Int,aH (.lst [.int a,.int b,.int c,.int d,.int e]) (.int kd)=some (.int y,.z)/\(y=a\/y=b\/y=c\/y=d\/y=e):=by
 obtain ⟨j,rfl⟩:∃ j:Nat,kd=(j:Int):=⟨kd.toNat,by omega⟩
 match j,h1 with
 | 0,_=>exact ⟨_,rfl,.inl rfl⟩
 | 1,_=>exact ⟨_,rfl,.inr (.inl rfl)⟩
 | 2,_=>exact ⟨_,rfl,.inr (.inr (.inl rfl))⟩
 | 3,_=>exact ⟨_,rfl,.inr (.inr (.inr (.inl rfl)))⟩
 | 4,_=>exact ⟨_,rfl,.inr (.inr (.inr (.inr rfl)))⟩
 | j+5,h=>exact absurd h (by omega)
set_option tactic.hygienic true in
theorem sd {n most many kd x k:Int} {ps:List Pt} {v7 v8:Option (L3.D × Fl)} (R:Rising ps) (hs:∀ p ∈ ps,Small p) (hl:ps.length<=12) (k0:0<=kd) (k1:kd < 5) (x0:-9<=x) (x1:x<=36) :
  ∃ (n' d y:Int) (v7' v8':Option (L3.D × Fl)),dy (dm n most many kd x ps (some (.int k,.z)) v7 v8)=some (.ok .nx,dm n' most many kd (x+1+d) (ps ++ [(x+1+d,y)]) (some (.int k,.z)) v7' v8')/\0<=d/\d < 3/\rF ps (x+1+d,y)/\-2000<=y/\y<=2000:=by
 have d0:=d8 n 3 (by decide)
 have a0:=d8 (n / 3) 40 (by decide)
 have c0:=d8 (n / 3 / 40) 6 (by decide)
 have t:=mB
 generalize hX:x+1+n % 3=X at *
 have sq:=sq_le (x:=X) (by omega) (by omega)
 obtain ⟨bt,hb,hb2⟩:=vY (x:=X) (k:=k)
 obtain ⟨y0,hy,hy2⟩:=y_at (a:=n / 3 % 40) (b:=X * X) (c:=9 - X * X) (d:=bt) (e:=n / 3 / 40 % 6) k0 k1
 have hm:-18446744073709551616 < X/\X < 18446744073709551616:=by omega
 obtain ⟨y,ew,hf,h1,h2⟩:=n6 (n:=n / 3 / 40 / 6) (most:=most) (many:=many) (kd:=kd) (x:=X) (y0:=y0) (ps:=ps) (v6:=some (.int k,.z)) (v7:=some (.int bt,.z)) R hs hl
 have yb:-1700<=y0/\y0<=1700:=by
  rcases hb2 with e | e <;> rcases hy2 with e2 | e2 | e2 | e2 | e2 <;> omega
 refine ⟨n / 3 / 40 / 6,n % 3,y,some (.int bt,.z),some (.int y,.z),?_,d0.1,d0.2,by rw [hX];exact hf,by omega,by omega⟩
 rw [hX]
 have m3:(ps.map Pd).length < 16777216:=by simp;omega
 have ha:=l8 (d:=Pd (X,y)) m3
 rw [show ps.map Pd ++ [Pd (X,y)]=(ps ++ [(X,y)]).map Pd by simp] at ha
 apply al (ρ1:=dm (n / 3) most many kd X ps (some (.int k,.z)) v7 v8)
 ·rw [<- hX]
  (repeat' (first | infer_instance | with_reducible apply aE (t _ _ (by decide)) | eq_refl))
 apply al (ρ1:=dm (n / 3) most many kd X ps (some (.int k,.z)) (some (.int bt,.z)) v8)
 ·(repeat' (first | infer_instance | exact hb | exact fR hm | eq_refl))
 apply al (ρ1:=dm (n / 3 / 40 / 6) most many kd X ps (some (.int k,.z)) (some (.int bt,.z)) (some (.int y0,.z)))
 ·(repeat' (first | infer_instance | with_reducible apply aE (t _ _ (by decide)) | exact hy | exact fR hm | eq_refl))
 apply al
 ·exact ew
 ·(repeat' (first | infer_instance | exact ha | eq_refl))
set_option tactic.hygienic true in
theorem sg {n most many kd x:Int} (hm:0<=many/\many<=12) (k0:0<=kd) (k1:kd < 5) (x0:-8<=x) (x1:x<=0) :
  ∃ (n' x':Int) (ps:List Pt) (v6 v7 v8:Option (L3.D × Fl)),du (bI c5 (ab (ad 2) ak)) (am 6) dy (dm n most many kd x [] none none none)=some (.ok .nx,dm n' most many kd x' ps v6 v7 v8)/\(ps.length:Int)=many/\Rising ps/\NoLine ps/\(∀ q ∈ ps,-9<=q.1/\q.1<=100/\-2000<=q.2/\q.2<=2000):=by
 obtain ⟨ρ',e,n',x',ps,v6,v7,v8,rfl,hl,ris,nl,bnd,h1,h2⟩:=bT (bnd:=am 6) (b:=dy) (fun i ρ=>∃ (n x:Int) (ps:List Pt) (v6 v7 v8:Option (L3.D × Fl)),ρ=dm n most many kd x ps v6 v7 v8/\ps.length=i/\Rising ps/\NoLine ps/\(∀ q ∈ ps,q.1<=x/\-9<=q.1/\-2000<=q.2/\q.2<=2000)/\-8<=x/\x<=3 * (i:Int))
  (ds:=aY 0 many.toNat) (ρ:=dm n most many kd x [] none none none) (k:=0) ⟨n,x,[],none,none,none,rfl,rfl,fun _ _ _ _ _ e _=>by simp at e,fun _ _ _ _ _ _ _ _ e _ _=>by simp at e,fun _ e=>by simp at e,by omega,by omega⟩ (by
   rintro i d ρ hd ⟨n,x,ps,v6,v7,v8,rfl,hl,ris,nl,bnd,h1,h2⟩
   obtain ⟨hi,rfl⟩:=b7 hd
   have smp:∀ q ∈ ps,Small q:=fun q hq=>by
    obtain ⟨a1,a2,a3,a4⟩:=bnd q hq
    exact ⟨by omega,by omega,by omega,by omega⟩
   obtain ⟨n',dd,y,v7',v8',e,d0,d1,fr,y0,y1⟩:=sd (n:=n) (most:=most) (many:=many) (kd:=kd) (x:=x) (k:=0+(i:Int)) (ps:=ps) (v7:=v7) (v8:=v8) ris smp (by omega) k0 k1 (by omega) (by omega)
   refine ⟨_,_,rfl,.inl e,n',x+1+dd,ps ++ [(x+1+dd,y)],_,_,_,rfl,by simp;omega,ris.snoc fun q hq=>?_,nl.snoc fr,fun q hq=>?_,by omega,by omega⟩
   ·show q.1 < x+1+dd
    have:=(bnd q hq).1
    omega
   ·rcases yU.mp hq with hq | hq
    ·obtain ⟨a1,a2,a3,a4⟩:=bnd q hq
     exact ⟨by omega,by omega,by omega,by omega⟩
    ·have e:q=(x+1+dd,y):=by simpa using hq
     subst e
     exact ⟨Int.le_refl _,by show -9<=x+1+dd;omega,by show -2000<=y;omega,by show y<=2000;omega⟩)
 rw [cz] at hl h2
 have hr:c5 [.int many]=some (aY 0 many.toNat):=cU (by omega) rfl
 refine ⟨n',x',ps,v6,v7,v8,?_,by omega,ris,nl,fun q hq=>?_⟩
 ·apply fA
  ·(repeat' (first | with_reducible apply eI (h3:=hr) | infer_instance | eq_refl))
  ·rfl
  ·exact e
 ·obtain ⟨a1,a2,a3,a4⟩:=bnd q hq
  exact ⟨by omega,by omega,by omega,by omega⟩
noncomputable def ce (p:Pt):Pt:=(p.1 * 1000000000000,p.2 * 1000000000000000+7)
theorem nM (p q r:Pt):aq (ce p) (ce q) (ce r)=1000000000000000000000000000 * aq p q r:=by
 unfold aq ce
 dsimp only
 have e1:q.1 * 1000000000000 - p.1 * 1000000000000=(q.1 - p.1) * 1000000000000:=by omega
 have e2:r.1 * 1000000000000 - p.1 * 1000000000000=(r.1 - p.1) * 1000000000000:=by omega
 have e3:r.2 * 1000000000000000+7 - (p.2 * 1000000000000000+7)=(r.2 - p.2) * 1000000000000000:=by omega
 have e4:q.2 * 1000000000000000+7 - (p.2 * 1000000000000000+7)=(q.2 - p.2) * 1000000000000000:=by omega
 rw [e1,e2,e3,e4]
 generalize q.1 - p.1=a
 generalize r.2 - p.2=b
 generalize q.2 - p.2=c
 generalize r.1 - p.1=d
 have h:∀ a b:Int,a * 1000000000000 * (b * 1000000000000000)=1000000000000000000000000000 * (a * b):=fun a b=>by
  rw [Int.mul_assoc,Int.mul_left_comm 1000000000000 b,<- Int.mul_assoc,show (1000000000000:Int) * 1000000000000000=1000000000000000000000000000 from rfl,Int.mul_comm]
 rw [h,Int.mul_comm (c * 1000000000000000),h,Int.mul_comm d c,<- Int.mul_sub]
theorem oj {ps:List Pt} (R:Rising ps):Rising (ps.map ce):=fun i j p q hij h1 h2=>by
 rw [y7] at h1 h2
 obtain ⟨p',e1,rfl⟩:=yO.mp h1
 obtain ⟨q',e2,rfl⟩:=yO.mp h2
 have:=R i j p' q' hij e1 e2
 show p'.1 * 1000000000000 < q'.1 * 1000000000000
 omega
theorem oF {ps:List Pt} (N:NoLine ps):NoLine (ps.map ce):=fun i j k p q r hij hjk h1 h2 h3=>by
 rw [y7] at h1 h2 h3
 obtain ⟨p',e1,rfl⟩:=yO.mp h1
 obtain ⟨q',e2,rfl⟩:=yO.mp h2
 obtain ⟨r',e3,rfl⟩:=yO.mp h3
 rw [nM]
 exact Int.mul_ne_zero (by decide) (N i j k p' q' r' hij hjk e1 e2 e3)
theorem pow12:sO (.int 10) (.int 12)=some (.int 1000000000000,.z):=rfl
theorem pow15:sO (.int 10) (.int 15)=some (.int 1000000000000000,.z):=rfl
set_option tactic.hygienic true in
theorem qx (ps:List Pt) (hl:ps.length<=24) {n most many kd x:Int} {v6 v7 v8:Option (L3.D × Fl)}:bp 5 dw (dm n most many kd x ps v6 v7 v8)=some (.ok .nx,dm n most many kd x (ps.map ce) v6 v7 v8):=by
 obtain ⟨τ',e,a,b,rfl⟩:=b8 (bnd:=um 2 (jc (am 0) (jc (am 1) uo))) (c:=dB) (elt:=fg) (fun τ=>∃ a b,τ=[a,b]) Pd (fun _=>true) (fun p=>Pd (ce p)) (xs:=ps) (τ:=[none,none]) ⟨none,none,rfl⟩ (by
  rintro p hp τ ⟨a,b,rfl⟩
  exact ⟨[some (.int p.1,.z),some (.int p.2,.z)],_,rfl,rfl,(fun h=>by cases h),fun _=>⟨.val (Pd (ce p)) .z,[some (.int p.1,.z),some (.int p.2,.z)],(Pd (ce p),.z),_,by unfold fg;(repeat' (first | infer_instance | exact pow12 | exact pow15 | exact tq (by decide) | eq_refl)),rfl,rfl,_,_,rfl⟩⟩)
 rw [zw.mpr (fun _ _=>rfl)] at e
 have e2:dw (dm n most many kd x ps v6 v7 v8)=some (.ok (.val (.lst (ps.map fun p=>Pd (ce p))) .u),dm n most many kd x ps v6 v7 v8):=bq (rs:=[.pl 5]) (ρ1:=dm n most many kd x ps v6 v7 v8) (ρ2:=[some (.lst [.int n],.u),some (.int most,.z),some (.int many,.z),some (.int kd,.z),some (.int x,.z),some (.lst (ps.map Pd),.l),v6,v7,v8]) rfl e (by simp;omega) rfl
 rw [show (ps.map fun p=>Pd (ce p))=(ps.map ce).map Pd by simp] at e2
 exact pU e2 rfl (Nat.le_of_ble_eq_true rfl) rfl
set_option tactic.hygienic true in
theorem qw (n most:Int) (h1:1<=most) (h2:most<=12):∃ (n':Int) (ps:List Pt),gp [(.lst [.int n],.u),(.int most,.z)]=some (.ok (.tup (ps.map Pd),.z),[(.lst [.int n'],.u),(.int most,.z)])/\GoodSh ps/\(ps.length:Int)<=most/\∀ q ∈ ps,-(2 ^ 61) < q.2/\q.2 < 2 ^ 61:=by
 have t:=mB
 have a0:=d8 n most (by omega)
 have b0:=d8 (n / most) 5 (by decide)
 have x9:=d8 (n / most / 5) 9 (by decide)
 obtain ⟨n',x',ps,v6,v7,v8,e,hl,ris,nln,bnd⟩:=sg (n:=n / most / 5 / 9) (most:=most) (many:=1+n % most) (kd:=n / most % 5) (x:=0 - n / most / 5 % 9) ⟨by omega,by omega⟩ b0.1 b0.2 (by omega) (by omega)
 have good:GoodSh ps:=⟨by omega,by omega,fun q hq=>by
  obtain ⟨a1,a2,a3,a4⟩:=bnd q hq
  exact ⟨by omega,by omega,by omega,by omega⟩,ris,nln⟩
 have goodS:GoodSh (ps.map ce):=⟨by simpa using good.pos,by simpa using good.most,fun q hq=>by
  obtain ⟨r,hr,rfl⟩:=y6.mp hq
  obtain ⟨a1,a2,a3,a4⟩:=bnd r hr
  exact ⟨by show -(2 ^ 62) < r.1 * 1000000000000;omega,by show r.1 * 1000000000000 < 2 ^ 62;omega,by show -(2 ^ 62) < r.2 * 1000000000000000+7;omega,by show r.2 * 1000000000000000+7 < 2 ^ 62;omega⟩,oj ris,oF nln⟩
 have pre:∀ {r:Option (Except L3.D Flw × Sto)},aK (sIf (cB (ai eqX (aA bU (ab (ad 0) (ab (mC (.int 6)) ak))) (mC (.int 5)))) (bp 5 dw) fE) (bD 2 (aC kr (ab (ad 5) ak))) (dm n' most (1+n % most) (n / most % 5) x' ps v6 v7 v8)=r->k6 [some (.lst [.int n],.u),some (.int most,.z),none,none,none,none,none,none,none]=r:=by
  intro r hr
  apply al (ρ1:=[some (.lst [.int (n / most)],.u),some (.int most,.z),some (.int (1+n % most),.z),none,none,none,none,none,none])
  ·(repeat' (first | infer_instance | with_reducible apply aE (t n most (by omega)) | eq_refl))
  apply al (ρ1:=[some (.lst [.int (n / most / 5)],.u),some (.int most,.z),some (.int (1+n % most),.z),some (.int (n / most % 5),.z),none,none,none,none,none])
  ·(repeat' (first | infer_instance | with_reducible apply aE (t _ _ (by decide)) | eq_refl))
  apply al (ρ1:=[some (.lst [.int (n / most / 5 / 9)],.u),some (.int most,.z),some (.int (1+n % most),.z),some (.int (n / most % 5),.z),some (.int (0 - n / most / 5 % 9),.z),none,none,none,none])
  ·(repeat' (first | infer_instance | with_reducible apply aE (t _ _ (by decide)) | eq_refl))
  apply al (ρ1:=dm (n / most / 5 / 9) most (1+n % most) (n / most % 5) (0 - n / most / 5 % 9) [] none none none)
  ·(repeat' (first | infer_instance | eq_refl))
  exact al e hr
 by_cases h5:n' % 6=5
 ·refine ⟨n' / 6,ps.map ce,?_,goodS,by rw [yW];omega,fun q hq=>?_⟩
  ·apply bx (ρ:=[some (.lst [.int n],.u),some (.int most,.z),none,none,none,none,none,none,none]) rfl rfl
   ·apply pre
    apply al
    ·apply i9
     ·(repeat' (first | infer_instance | with_reducible apply aE (t _ _ (by decide)) | eq_refl))
     ·exact zd h5
     ·exact qx ps (by omega)
    ·(repeat' (first | infer_instance | eq_refl))
   ·rfl
  ·obtain ⟨r,hr,rfl⟩:=y6.mp hq
   obtain ⟨a1,a2,a3,a4⟩:=bnd r hr
   exact ⟨by show -(2 ^ 61) < r.2 * 1000000000000000+7;omega,by show r.2 * 1000000000000000+7 < 2 ^ 61;omega⟩
 ·refine ⟨n' / 6,ps,?_,good,by omega,fun q hq=>?_⟩
  ·apply bx (ρ:=[some (.lst [.int n],.u),some (.int most,.z),none,none,none,none,none,none,none]) rfl rfl
   ·apply pre
    apply al
    ·apply d7
     ·(repeat' (first | infer_instance | with_reducible apply aE (t _ _ (by decide)) | eq_refl))
     ·exact ze h5
     ·rfl
    ·(repeat' (first | infer_instance | eq_refl))
   ·rfl
  ·obtain ⟨a1,a2,a3,a4⟩:=bnd q hq
   exact ⟨by omega,by omega⟩
theorem ow {b B s:Int} (hb:0 < b) (e:b * B=s) (hs:0 < s):0 < B:=by
 rcases Int.lt_or_le 0 B with h | h
 ·exact h
 ·have:=Int.mul_le_mul_of_nonneg_left h (Int.le_of_lt hb)
  rw [Int.mul_zero] at this
  omega
theorem lG {b B s:Int} (hb:0 < b) (e:b * B=s) (hs:s<=0):¬ 0 < B:=fun h=>by
 have:=Int.mul_pos hb h
 omega
theorem lI {u v A C:Int} (hu:0 < u) (hv:0 < v) (hA:0 < A) (hC:0 < C):0 < u * A+v * C:=by
 have h1:=Int.mul_pos hu hA
 have h2:=Int.mul_pos hv hC
 omega
theorem jV {u v A C:Int} (hu:0 < u) (hv:0 < v) (hA:¬ 0 < A) (hC:¬ 0 < C):u * A+v * C<=0:=by
 have h1:=Int.mul_le_mul_of_nonneg_left (show A<=0 by omega) (Int.le_of_lt hu)
 have h2:=Int.mul_le_mul_of_nonneg_left (show C<=0 by omega) (Int.le_of_lt hv)
 rw [Int.mul_zero] at h1 h2
 omega
theorem quad1 (h i j k:Pt):(j.1 - h.1) * aq h i k=(k.1 - h.1) * aq h i j+(i.1 - h.1) * aq h j k:=by
 simp only [aq];grind
theorem quad2 (h i j k:Pt):(k.1 - i.1) * aq h j k=(k.1 - h.1) * aq i j k+(k.1 - j.1) * aq h i k:=by
 simp only [aq];grind
theorem quad3 (h i j k:Pt):(j.1 - i.1) * aq h i k=(k.1 - i.1) * aq h i j+(i.1 - h.1) * aq i j k:=by
 simp only [aq];grind
noncomputable def chg (a b c d:Int):Nat:=(if a=b then 0 else 1)+(if b=c then 0 else 1)+(if c=d then 0 else 1)
theorem yy {h i j k:Pt} (h1:h.1 < i.1) (h2:i.1 < j.1) (h3:j.1 < k.1):chg (fI h i j) (fI h i k) (fI h j k) (fI i j k)<=1:=by
 have q1:=quad1 h i j k
 have q2:=quad2 h i j k
 have q3:=quad3 h i j k
 have p1:0 < j.1 - h.1:=by omega
 have p2:0 < k.1 - h.1:=by omega
 have p3:0 < i.1 - h.1:=by omega
 have p4:0 < k.1 - i.1:=by omega
 have p5:0 < k.1 - j.1:=by omega
 have p6:0 < j.1 - i.1:=by omega
 unfold fI
 generalize aq h i j=A at *
 generalize aq h i k=B at *
 generalize aq h j k=C at *
 generalize aq i j k=D at *
 by_cases a:0 < A <;> by_cases b:0 < B <;> by_cases c:0 < C <;> by_cases d:0 < D <;> simp only [a,b,c,d,if_true,if_false] <;> first
  | decide
  | exact absurd (ow p1 q1 (lI p2 p3 a c)) b
  | exact absurd b (lG p1 q1 (jV p2 p3 a c))
  | exact absurd (ow p4 q2 (lI p2 p5 d b)) c
  | exact absurd c (lG p4 q2 (jV p2 p5 d b))
  | exact absurd (ow p6 q3 (lI p4 p3 a d)) b
  | exact absurd b (lG p6 q3 (jV p4 p3 a d))
noncomputable abbrev Tn:=Nat->Nat->Nat->Bool
noncomputable def wI (a b c d:Bool):Prop:=(a=c->b=a)/\(b=d->c=b)/\(a=d->b=a/\c=a)
noncomputable def Sg (t:Tn) (n:Nat):Prop:=∀ h i j k,h < i->i < j->j < k->k < n->wI (t h i j) (t h i k) (t h j k) (t i j k)
noncomputable def o6 (t:Tn) (w:Bool) (m a b:Nat):Prop:=(∀ i,i < a->t i a b=w)/\(∀ i,a < i->i < b->t a i b = !w)/\(∀ i,b < i->i < m->t a b i=w)
noncomputable def Hl (t:Tn) (w:Bool) (m:Nat):List Nat->Prop
 | []=>False
 | [a]=>a=0
 | b :: a :: s=>a < b/\o6 t w m a b/\Hl t w m (a :: s)
theorem Hl.up {t:Tn} {w:Bool} {n m:Nat} (S:Sg t n) (hm:m < n):∀ {s:List Nat} {a b:Nat},Hl t w m (b :: a :: s)->b < m->t a b m=w->Hl t w (m+1) (b :: a :: s)
 | [],a,b,h,hb,e=>by
  obtain ⟨h1,⟨e1,e2,e3⟩,h3⟩:=h
  refine ⟨h1,⟨e1,e2,fun i hi hm=>?_⟩,h3⟩
  by_cases hi':i=m
  ·subst hi';exact e
  ·exact e3 i hi (by omega)
 | c :: s,a,b,h,hb,e=>by
  obtain ⟨h1,⟨e1,e2,e3⟩,h3⟩:=h
  refine ⟨h1,⟨e1,e2,fun i hi hm=>?_⟩,?_⟩
  ·by_cases hi':i=m
   ·subst hi';exact e
   ·exact e3 i hi (by omega)
  ·refine Hl.up S hm h3 (by omega) ?_
   have h4:=h3.2.1.2.2 b h1 hb
   have:=(S c a b m h3.1 h1 hb hm).2.2 (h4.trans e.symm)
   rw [this.1];exact h4
noncomputable def rD (t:Tn) (w:Bool) (m:Nat) (s:List Nat):Prop:=∃ b r,s=b :: r/\b < m/\∀ i,b < i->i < m->t b i m = !w
theorem Hl.pop {t:Tn} {w:Bool} {n m a b:Nat} {s:List Nat} (S:Sg t n) (hm:m < n) (h:Hl t w m (b :: a :: s)) (T:rD t w m (b :: a :: s)) (e:t a b m = !w):Hl t w m (a :: s)/\rD t w m (a :: s):=by
 obtain ⟨b',r,e0,hb,T⟩:=T
 cases e0
 obtain ⟨h1,⟨e1,e2,e3⟩,h3⟩:=h
 refine ⟨h3,a,s,rfl,by omega,fun i hi him=>?_⟩
 rcases Nat.lt_trichotomy i b with hib | rfl | hib
 ·have h4:=e2 i hi hib
  have:=(S a i b m hi hib hb hm).1 (h4.trans e.symm)
  rw [this];exact h4
 ·exact e
 ·have h4:=T i hib him
  have:=(S a b i m h1 hib him hm).2.1 (e.trans h4.symm)
  rw [this];exact e
theorem Hl.push1 {t:Tn} {w:Bool} {m a:Nat} (h:Hl t w m [a]) (T:rD t w m [a]):Hl t w (m+1) [m,a]:=by
 obtain ⟨b',r,e0,hb,T⟩:=T
 cases e0
 have h:a=0:=h
 subst h
 exact ⟨hb,⟨fun i hi=>absurd hi (by omega),fun i h1 h2=>T i h1 h2,fun i h1 h2=>absurd h1 (by omega)⟩,rfl⟩
theorem Hl.push {t:Tn} {w:Bool} {n m a b:Nat} {s:List Nat} (S:Sg t n) (hm:m < n) (h:Hl t w m (b :: a :: s)) (T:rD t w m (b :: a :: s)) (e:t a b m=w):Hl t w (m+1) (m :: b :: a :: s):=by
 obtain ⟨b',r,e0,hb,T⟩:=T
 cases e0
 refine ⟨hb,⟨fun i hi=>?_,fun i h1 h2=>T i h1 h2,fun i h1 h2=>absurd h1 (by omega)⟩,Hl.up S hm h hb e⟩
 obtain ⟨h1,⟨e1,e2,e3⟩,h3⟩:=h
 rcases Nat.lt_trichotomy i a with hia | rfl | hia
 ·have h4:=e1 i hia
  have:=(S i a b m hia h1 hb hm).2.2 (h4.trans e.symm)
  rw [this.2];exact h4
 ·exact e
 ·have h4:=e2 i hia hi
  cases h5:t i b m with
  | true =>
   cases w with
   | true=>rfl
   | false =>
    have:=(S a i b m hia hi hb hm).2.2 (h4.trans h5.symm)
    rw [e,h4] at this;exact absurd this.2 (by decide)
  | false =>
   cases w with
   | false=>rfl
   | true =>
    have:=(S a i b m hia hi hb hm).2.2 (h4.trans h5.symm)
    rw [e,h4] at this;exact absurd this.2 (by decide)
theorem Hl.zero {t:Tn} {w:Bool} {m:Nat}:∀ {s:List Nat},Hl t w m s->0 ∈ s
 | [a],h=>by have h:a=0:=h;subst h;exact yK
 | b :: a :: s,h=>yM _ (Hl.zero h.2.2)
theorem Hl.desc {t:Tn} {w:Bool} {m:Nat}:∀ {s:List Nat},Hl t w m s->s.Pairwise (· > ·)
 | [a],h=>by simp
 | b :: a :: s,h=>by
  have ih:=Hl.desc h.2.2
  refine List.pairwise_cons.mpr ⟨fun x hx=>?_,ih⟩
  rcases yR.mp hx with rfl | hx
  ·exact h.1
  ·have:=(List.pairwise_cons.mp ih).1 x hx
   have:=h.1
   omega
theorem Hl.left {t:Tn} {w:Bool} {m:Nat}:∀ {s:List Nat} {p:Nat},Hl t w m s->p ∈ s->p ≠ 0->∃ a,a < p/\o6 t w m a p
 | [a],p,h,hp,h0=>by
  have h:a=0:=h
  subst h
  exact absurd (zo.mp hp) h0
 | b :: a :: s,p,h,hp,h0=>by
  rcases yR.mp hp with rfl | hp
  ·exact ⟨a,h.1,h.2.1⟩
  ·exact Hl.left h.2.2 hp h0
theorem Hl.some {t:Tn} {w:Bool} {m:Nat}:∀ {s:List Nat} {b:Nat},Hl t w m (b :: s)->b ≠ 0->∃ q,q<=b/\0 < q/\o6 t w m 0 q
 | [],b,h,h0=>absurd h h0
 | a :: s,b,h,h0=>by
  by_cases ha:a=0
  ·subst ha;exact ⟨b,y8 _,h.1,h.2.1⟩
  ·obtain ⟨q,h1,h2⟩:=Hl.some h.2.2 ha
   exact ⟨q,by have:=h.1;omega,h2⟩
theorem Hl.gap {t:Tn} {w:Bool} {m:Nat}:∀ {s:List Nat} {b p:Nat},Hl t w m (b :: s)->p < b->p ∉ b :: s->∃ a c,a < p/\p < c/\c<=b/\o6 t w m a c
 | [],b,p,h,hp,hn=>by have h:b=0:=h;omega
 | a :: s,b,p,h,hp,hn=>by
  rcases Nat.lt_trichotomy a p with h1 | rfl | h1
  ·exact ⟨a,b,h1,hp,y8 _,h.2.1⟩
  ·exact absurd (yM _ yK) hn
  ·obtain ⟨c,d,h2,h3,h4,h5⟩:=Hl.gap h.2.2 h1 (fun hm=>hn (yM _ hm))
   exact ⟨c,d,h2,h3,by have:=h.1;omega,h5⟩
noncomputable def End (t:Tn) (w:Bool) (n p:Nat):Prop:=∃ q,q < n/\((p < q/\o6 t w n p q)\/(q < p/\o6 t w n q p))
theorem dG {b:Bool} (h:b = !b):False:=by cases b <;> cases h
theorem Hl.mem_iff {t:Tn} {w:Bool} {n p b:Nat} {s:List Nat} (S:Sg t n) (h:Hl t w n (b :: s)) (hb:b+1=n) (h2:2<=n) (hp:p < n):p ∈ b :: s ↔ End t w n p:=by
 constructor
 ·intro hm
  by_cases h0:p=0
  ·subst h0
   obtain ⟨q,q1,q2,q3⟩:=Hl.some h (by omega)
   exact ⟨q,by omega,.inl ⟨q2,q3⟩⟩
  ·obtain ⟨a,a1,a2⟩:=Hl.left h hm h0
   exact ⟨a,by omega,.inr ⟨a1,a2⟩⟩
 ·rintro ⟨q,hq,hE⟩
  refine Decidable.byContradiction fun hn=>?_
  have hpb:p < b:=by
   have:p ≠ b:=fun e=>hn (by rw [e];exact yK)
   omega
  obtain ⟨a,c,h1,h2,h3,⟨g1,g2,g3⟩⟩:=Hl.gap h hpb hn
  have k:=g2 p h1 h2
  rcases hE with ⟨hpq,e1,e2,e3⟩ | ⟨hpq,e1,e2,e3⟩
  ·rcases Nat.lt_trichotomy q c with hqc | rfl | hqc
   ·have u1:=e1 a h1
    have u2:=e3 c hqc (by omega)
    have:=(S a p q c h1 hpq hqc (by omega)).2.2 (u1.trans u2.symm)
    exact dG (u1.symm.trans (this.1.symm.trans k))
   ·have u1:=e1 a h1
    exact dG (u1.symm.trans k)
   ·have u1:=e1 a h1
    have u2:=e2 c h2 hqc
    have:=(S a p c q h1 h2 hqc hq).2.2 (k.trans u2.symm)
    exact dG (u1.symm.trans (this.1.trans k))
  ·rcases Nat.lt_trichotomy q a with hqc | rfl | hqc
   ·have u1:=e2 a hqc h1
    have u2:=e3 c h2 (by omega)
    have:=(S q a p c hqc h1 h2 (by omega)).2.2 (u1.trans k.symm)
    exact dG (u2.symm.trans (this.2.trans u1))
   ·have u2:=e3 c h2 (by omega)
    exact dG (u2.symm.trans k)
   ·have u1:=e1 a hqc
    have u2:=e3 c h2 (by omega)
    have:=(S a q p c hqc hpq h2 (by omega)).2.2 (u1.trans u2.symm)
    exact dG (u1.symm.trans (this.2.symm.trans k))
theorem Hl.apart {t:Tn} {n p b b':Nat} {s s':List Nat} (S:Sg t n) (h:Hl t true n (b :: s)) (h':Hl t false n (b' :: s')) (h0:p ≠ 0) (hp:p+1 < n) (m1:p ∈ b :: s) (m2:p ∈ b' :: s'):False:=by
 have one:∀ w {b:Nat} {s:List Nat},Hl t w n (b :: s)->p ∈ b :: s->t 0 p (n - 1)=w:=fun w b s h m=>by
  obtain ⟨a,a1,e1,e2,e3⟩:=Hl.left h m h0
  have u:=e3 (n - 1) (by omega) (by omega)
  by_cases ha:a=0
  ·subst ha;exact u
  ·have v:=e1 0 (by omega)
   have:=(S 0 a p (n - 1) (by omega) a1 (by omega) (by omega)).2.2 (v.trans u.symm)
   rw [this.2];exact v
 have:=(one _ h m1).symm.trans (one _ h' m2)
 cases this
noncomputable def aM (ps:List Pt) (i:Nat):Pt:=ps.getD i (0,0)
theorem aT {ps:List Pt} {i:Nat} (h:i < ps.length):ps[i]?=some (aM ps i):=by
 simp [aM,List.getD,h]
theorem dH {ps:List Pt} {i:Nat} (hs:∀ p ∈ ps,Small p) (h:i < ps.length):Small (aM ps i):=hs _ (yY (aT h))
theorem gB {ps:List Pt} {i:Nat} (h:i < ps.length):aH (Shd ps) (.int i)=some (Pd (aM ps i),.z):=by
 exact iy (o3 (aT h))
noncomputable def up (qs:List Pt):Tn:=fun i j k=>decide (0 < aq (aM qs i) (aM qs j) (aM qs k))
theorem rK {qs:List Pt} (R:Rising qs):Sg (up qs) qs.length:=fun h i j k h1 h2 h3 h4=>by
 have x1:(aM qs h).1 < (aM qs i).1:=R h i _ _ h1 (aT (by omega)) (aT (by omega))
 have x2:(aM qs i).1 < (aM qs j).1:=R i j _ _ h2 (aT (by omega)) (aT (by omega))
 have x3:(aM qs j).1 < (aM qs k).1:=R j k _ _ h3 (aT (by omega)) (aT (by omega))
 have hc:=yy x1 x2 x3
 unfold fI at hc
 unfold wI up
 generalize aq (aM qs h) (aM qs i) (aM qs j)=A at *
 generalize aq (aM qs h) (aM qs i) (aM qs k)=B at *
 generalize aq (aM qs h) (aM qs j) (aM qs k)=C at *
 generalize aq (aM qs i) (aM qs j) (aM qs k)=D at *
 by_cases a:0 < A <;> by_cases b:0 < B <;> by_cases c:0 < C <;> by_cases d:0 < D <;> simp only [a,b,c,d,if_true,if_false,decide_true,decide_false] at hc ⊢ <;> first
  | decide
  | exact absurd hc (by decide)
theorem nN (p q r:Pt):aq p q r=aq q r p:=by
 simp only [aq];grind
theorem qk (p q r:Pt):aq p q r = - aq q p r:=by
 simp only [aq];grind
theorem ko (p q r:Pt):aq p q r = - aq p r q:=by
 simp only [aq];grind
theorem lV {x:Int} (h:x ≠ 0):decide (0 < -x) = !decide (0 < x):=by
 by_cases h1:0 < x
 ·rw [zd h1];exact ze (by omega)
 ·rw [ze h1];exact zd (by omega)
theorem iF {qs:List Pt} (N:NoLine qs) {i j k:Nat} (h1:i < j) (h2:j < k) (h3:k < qs.length):aq (aM qs i) (aM qs j) (aM qs k) ≠ 0:=N i j k _ _ _ h1 h2 (aT (by omega)) (aT (by omega)) (aT h3)
noncomputable def wc (qs:List Pt) (p q:Nat) (w:Bool):Prop:=∀ o,o < qs.length->o ≠ p->o ≠ q->decide (0 < aq (aM qs p) (aM qs q) (aM qs o))=w
theorem lH {qs:List Pt} (N:NoLine qs) {i j k:Nat} (h1:i ≠ j) (h2:j ≠ k) (h3:i ≠ k) (hi:i < qs.length) (hj:j < qs.length) (hk:k < qs.length):aq (aM qs i) (aM qs j) (aM qs k) ≠ 0:=by
 have sw:∀ {p q r:Pt},aq q p r ≠ 0->aq p q r ≠ 0:=fun h e=>h (by rw [qk] at e;omega)
 have sw2:∀ {p q r:Pt},aq p r q ≠ 0->aq p q r ≠ 0:=fun h e=>h (by rw [ko] at e;omega)
 rcases Nat.lt_or_gt_of_ne h1 with a | a <;> rcases Nat.lt_or_gt_of_ne h2 with b | b <;> rcases Nat.lt_or_gt_of_ne h3 with c | c
 ·exact iF N a b hk
 ·omega
 ·exact sw2 (iF N c b hj)
 ·exact sw2 (sw (iF N c a hj))
 ·exact sw (iF N a c hk)
 ·exact sw (sw2 (iF N b c hi))
 ·omega
 ·exact sw (sw2 (sw (iF N b a hi)))
theorem ik {qs:List Pt} (N:NoLine qs) {p q:Nat} {w:Bool} (h:p < q) (hq:q < qs.length):o6 (up qs) w qs.length p q ↔ wc qs p q w:=by
 constructor
 ·rintro ⟨e1,e2,e3⟩ o ho h1 h2
  rcases Nat.lt_trichotomy o p with c | c | c
  ·rw [<- nN];exact e1 o c
  ·exact absurd c h1
  ·rcases Nat.lt_trichotomy o q with d | d | d
   ·have:=e2 o c d
    unfold up at this
    rw [ko,lV (lH N (by omega) (by omega) (by omega) (by omega) (by omega) (by omega))] at this
    cases w <;> simpa using this
   ·exact absurd d h2
   ·exact e3 o d ho
 ·intro s
  refine ⟨fun o c=>?_,fun o c d=>?_,fun o d ho=>s o ho (by omega) (by omega)⟩
  ·have:=s o (by omega) (by omega) (by omega)
   unfold up
   rw [nN];exact this
  ·have:=s o (by omega) (by omega) (by omega)
   unfold up
   rw [ko,lV (lH N (by omega) (by omega) (by omega) (by omega) (by omega) (by omega)),this]
theorem o9 {qs:List Pt} (N:NoLine qs) {p q:Nat} {w:Bool} (h:p ≠ q) (hp:p < qs.length) (hq:q < qs.length) (s:wc qs p q w):wc qs q p (!w):=fun o ho h1 h2=>by
 have:=s o ho h2 h1
 rw [qk,lV (lH N (by omega) (by omega) (by omega) (by omega) (by omega) (by omega)),this]
noncomputable def Cn (qs:List Pt) (p:Nat):Prop:=∃ q,q < qs.length/\q ≠ p/\∃ w,wc qs p q w
theorem lW {qs:List Pt} (N:NoLine qs) {p:Nat} (hp:p < qs.length):Cn qs p ↔ End (up qs) true qs.length p\/End (up qs) false qs.length p:=by
 have one:∀ w,End (up qs) w qs.length p->Cn qs p:=by
  rintro w ⟨q,hq,⟨h,e⟩ | ⟨h,e⟩⟩
  ·exact ⟨q,hq,by omega,w,(ik N h hq).mp e⟩
  ·exact ⟨q,hq,by omega,!w,o9 N (by omega) hq hp ((ik N h hp).mp e)⟩
 constructor
 ·rintro ⟨q,hq,hn,w,s⟩
  have:∃ w,End (up qs) w qs.length p:=by
   rcases Nat.lt_or_gt_of_ne hn with h | h
   ·exact ⟨!w,q,hq,.inr ⟨h,(ik N h hp).mpr (o9 N (by omega) hp hq s)⟩⟩
   ·exact ⟨w,q,hq,.inl ⟨h,(ik N h hq).mpr s⟩⟩
  obtain ⟨w,h⟩:=this
  cases w with
  | true=>exact .inl h
  | false=>exact .inr h
 ·rintro (h | h)
  ·exact one _ h
  ·exact one _ h
noncomputable def el (L:List Nat) (i:Nat):Nat:=L.getD i 0
theorem gJ {L:List Nat} {i:Nat} (h:i < L.length):L[i]?=some (el L i):=by simp [el,List.getD,h]
theorem eg {L:List Nat} {i:Nat} (h:i < L.length):el L i ∈ L:=yY (gJ h)
theorem tz {L:List Nat} {x:Nat} (h:x ∈ L):∃ i,i < L.length/\el L i=x:=by
 obtain ⟨i,hi,e⟩:=List.getElem_of_mem h
 refine ⟨i,hi,?_⟩
 have:=gJ hi
 rw [yS hi,e] at this
 exact (zx this).symm
structure Sub (ps:List Pt) (L:List Nat):Prop where
 inc:L.Pairwise (· < ·)
 lt:∀ x ∈ L,x < ps.length
 len:L.length<=24
theorem Sub.el_lt {ps:List Pt} {L:List Nat} (s:Sub ps L) {i j:Nat} (h:i < j) (hj:j < L.length):el L i < el L j:=by
 have:=List.pairwise_iff_getElem.mp s.inc i j (by omega) hj h
 have h1:=gJ (L:=L) (i:=i) (by omega)
 have h2:=gJ hj
 rw [yS (by omega)] at h1 h2
 rw [zx h1,zx h2] at this
 exact this
theorem Sub.el_inj {ps:List Pt} {L:List Nat} (s:Sub ps L) {i j:Nat} (hi:i < L.length) (hj:j < L.length) (e:el L i=el L j):i=j:=by
 rcases Nat.lt_trichotomy i j with h | h | h
 ·have:=s.el_lt h hj;omega
 ·exact h
 ·have:=s.el_lt h hi;omega
theorem Sub.filter {ps:List Pt} {L:List Nat} (s:Sub ps L) (f:Nat->Bool):Sub ps (L.filter f) :=
 ⟨s.inc.filter f,fun x hx=>s.lt x (zq.mp hx).1,zv (List.length_filter_le _ _) s.len⟩
noncomputable def gP (ps:List Pt) (L:List Nat):List Pt:=L.map (aM ps)
theorem bb (ps:List Pt) (L:List Nat):(gP ps L).length=L.length:=by simp [gP]
theorem eO {ps:List Pt} {L:List Nat} {i:Nat} (h:i < L.length):aM (gP ps L) i=aM ps (el L i):=by
 have h1:=aT (ps:=gP ps L) (i:=i) (by rw [bb];exact h)
 unfold gP at h1
 rw [y7,gJ h] at h1
 exact (zx h1).symm
theorem fJ {ps:List Pt} {L:List Nat} {i:Nat} {p:Pt} (h:(gP ps L)[i]?=some p):i < L.length/\p=aM ps (el L i):=by
 have hi:i < L.length:=by
  have:=(yX.mp h).1
  rw [bb] at this;exact this
 rw [aT (by rw [bb];exact hi),eO hi] at h
 exact ⟨hi,(zx h).symm⟩
theorem Sub.good {ps:List Pt} {L:List Nat} (s:Sub ps L) (g:GoodSh ps) (h0:0 < L.length):GoodSh (gP ps L) where
 pos:=by rw [bb];exact h0
 most:=by rw [bb];exact s.len
 small:=fun p hp=>by
  obtain ⟨x,hx,rfl⟩:=y6.mp hp
  exact dH g.small (s.lt x hx)
 rising:=fun i j p q hij h1 h2=>by
  obtain ⟨a1,rfl⟩:=fJ h1
  obtain ⟨a2,rfl⟩:=fJ h2
  exact g.rising _ _ _ _ (s.el_lt hij a2) (aT (s.lt _ (eg a1))) (aT (s.lt _ (eg a2)))
 noline:=fun i j k p q r hij hjk h1 h2 h3=>by
  obtain ⟨a1,rfl⟩:=fJ h1
  obtain ⟨a2,rfl⟩:=fJ h2
  obtain ⟨a3,rfl⟩:=fJ h3
  exact g.noline _ _ _ _ _ _ (s.el_lt hij a2) (s.el_lt hjk a3) (aT (s.lt _ (eg a1))) (aT (s.lt _ (eg a2))) (aT (s.lt _ (eg a3)))
noncomputable def av (L:List Nat) (p:Nat):List Nat:=L.filter fun o=>!decide (o=p)
noncomputable def bo (ps:List Pt) (L:List Nat) (p q:Nat):List Bool:=(av (av L p) q).map fun o=>decide (0 < aq (aM ps p) (aM ps q) (aM ps o))
noncomputable def same (l:List Bool):Bool:=l.all id || l.all (!·)
noncomputable def aS (ps:List Pt) (L:List Nat) (p:Nat):Bool:=decide ((av L p).length < 3) || (av L p).any fun q=>same (bo ps L p q)
theorem mem_others {L:List Nat} {p x:Nat}:x ∈ av L p ↔ x ∈ L/\x ≠ p:=by simp [av]
theorem oD {ps:List Pt} {L:List Nat} (s:Sub ps L) {p:Nat} (h:p ∈ L):(av L p).length=L.length - 1:=by
 have nd:L.Nodup:=s.inc.imp fun h=>by omega
 have:av L p=L.erase p:=by
  rw [nd.erase_eq_filter]
  unfold av
  exact List.filter_congr fun x _=>by cases h:decide (x=p) <;> simp_all
 rw [this,List.length_erase_of_mem h]
theorem same_iff {l:List Bool}:same l=true ↔ ∃ w,∀ b ∈ l,b=w:=by
 unfold same
 rw [Bool.or_eq_true,List.all_eq_true,List.all_eq_true]
 constructor
 ·rintro (h | h)
  ·exact ⟨true,fun b hb=>h b hb⟩
  ·exact ⟨false,fun b hb=>by have:=h b hb;simpa using this⟩
 ·rintro ⟨w,h⟩
  cases w with
  | true=>exact .inl fun b hb=>h b hb
  | false=>exact .inr fun b hb=>by rw [h b hb];rfl
theorem ke {ps:List Pt} {L:List Nat} (s:Sub ps L) (h3:3<=L.length) {i:Nat} (hi:i < L.length):aS ps L (el L i)=true ↔ Cn (gP ps L) i:=by
 have hl:=oD s (eg hi)
 by_cases h4:L.length=3
 ·have t:aS ps L (el L i)=true:=by
   unfold aS
   rw [zd (by omega)];rfl
  refine ⟨fun _=>?_,fun _=>t⟩
  have:∃ q o,q < 3/\q ≠ i/\∀ x,x < 3->x ≠ i->x ≠ q->x=o:=by
   by_cases i0:i=0
   ·exact ⟨1,2,by omega,by omega,fun x=>by omega⟩
   ·by_cases i1:i=1
    ·exact ⟨0,2,by omega,by omega,fun x=>by omega⟩
    ·exact ⟨0,1,by omega,by omega,fun x=>by omega⟩
  obtain ⟨q,o,hq,hqi,ho⟩:=this
  refine ⟨q,by rw [bb];omega,hqi,decide (0 < aq (aM (gP ps L) i) (aM (gP ps L) q) (aM (gP ps L) o)),fun x hx h1 h2=>?_⟩
  rw [bb,h4] at hx
  rw [ho x hx h1 h2]
 ·have f:decide ((av L (el L i)).length < 3)=false:=ze (by omega)
  unfold aS
  rw [f,Bool.false_or,List.any_eq_true]
  constructor
  ·rintro ⟨q,hq,hs⟩
   obtain ⟨hq1,hq2⟩:=mem_others.mp hq
   obtain ⟨j,hj,rfl⟩:=tz hq1
   obtain ⟨w,hw⟩:=same_iff.mp hs
   refine ⟨j,by rw [bb];exact hj,fun e=>hq2 (by rw [e]),w,fun o ho h1 h2=>?_⟩
   rw [bb] at ho
   rw [eO hi,eO hj,eO ho]
   exact hw _ (y6.mpr ⟨el L o,mem_others.mpr ⟨mem_others.mpr ⟨eg ho,fun e=>h1 (s.el_inj ho hi e)⟩,fun e=>h2 (s.el_inj ho hj e)⟩,rfl⟩)
  ·rintro ⟨j,hj,hji,w,hw⟩
   rw [bb] at hj
   refine ⟨el L j,mem_others.mpr ⟨eg hj,fun e=>hji (s.el_inj hj hi e)⟩,same_iff.mpr ⟨w,fun b hb=>?_⟩⟩
   obtain ⟨x,hx,rfl⟩:=y6.mp hb
   obtain ⟨hx1,hx2⟩:=mem_others.mp hx
   obtain ⟨hx1,hx3⟩:=mem_others.mp hx1
   obtain ⟨o,ho,rfl⟩:=tz hx1
   have:=hw o (by rw [bb];exact ho) (fun e=>hx3 (by rw [e])) (fun e=>hx2 (by rw [e]))
   rw [eO hi,eO hj,eO ho] at this
   exact this
noncomputable abbrev Nd (l:List Nat):List L3.D:=l.map fun (i:Nat)=>L3.D.int (i:Int)
noncomputable def wy (w:Bool):Int:=if w then 1 else -1
theorem uD (qs:List Pt) (i j k:Nat):fI (aM qs i) (aM qs j) (aM qs k)=wy (up qs i j k):=by
 unfold fI wy up
 by_cases h:0 < aq (aM qs i) (aM qs j) (aM qs k) <;> simp [h]
theorem wy_ne {x w:Bool}:neX (.int (wy x)) (.int (wy w))=some (.bl (!decide (x=w)),.z):=by
 cases x <;> cases w <;> rfl
theorem at_m1 {b:Nat} {s:List Nat}:aH (.lst (Nd (b :: s).reverse)) (.int (-1))=some (.int b,.z):=by
 refine gO ?_
 have h:(Nd (b :: s).reverse).length=s.length+1:=by simp
 unfold L2.atI ixN
 rw [h,if_neg (by omega),if_pos (by omega)]
 rw [show ((-1:Int)+((s.length+1:Nat):Int)).toNat=s.length by omega]
 simp [Nd]
theorem at_m2 {a b:Nat} {s:List Nat}:aH (.lst (Nd (b :: a :: s).reverse)) (.int (-2))=some (.int a,.z):=by
 refine gO ?_
 have h:(Nd (b :: a :: s).reverse).length=s.length+2:=by simp
 unfold L2.atI ixN
 rw [h,if_neg (by omega),if_pos (by omega)]
 rw [show ((-2:Int)+((s.length+2:Nat):Int)).toNat=s.length by omega]
 simp [Nd,List.getElem?_append]
noncomputable abbrev stR (qs:List Pt) (w:Bool) (s:List Nat) (v:Option (L3.D × Fl)):Sto:=[some (Shd qs,.z),some (.int (wy w),.z),some (.lst (Nd s.reverse),.u),v]
set_option tactic.hygienic true in
theorem so {qs:List Pt} (g:GoodSh qs) {w:Bool} {a b m:Nat} {s:List Nat} (ha:a < qs.length) (hb:b < qs.length) (hm:m < qs.length):aP (stR qs w (b :: a :: s) (some (.int m,.z)))=some (.ok (!decide (up qs a b m=w)),stR qs w (b :: a :: s) (some (.int m,.z))):=by
 have f:eL [(Shd qs,.z),(.tup [.int a,.int b,.int m],.z)]=some (.ok (.int (wy (up qs a b m)),.z),[(Shd qs,.z),(.tup [.int a,.int b,.int m],.z)]):=by
  rw [<- uD]
  exact n4 (gB ha) (gB hb) (gB hm) (dH g.small ha) (dH g.small hb)
 have h1:=at_m1 (b:=b) (s:=a :: s)
 have h2:=at_m2 (a:=a) (b:=b) (s:=s)
 have h3:=wy_ne (x:=up qs a b m) (w:=w)
 have hl:(1:Int) < ((Nd (b :: a :: s).reverse).length:Int):=by simp;omega
 unfold aP stR
 generalize Nd (b :: a :: s).reverse=X at *
 apply yl
 ·(repeat' (first | infer_instance | eq_refl))
 ·exact zd hl
 ·(repeat' (first | infer_instance | with_reducible apply aE (f) | exact h1 | exact h2 | exact h3 | eq_refl))
set_option tactic.hygienic true in
theorem pe {qs:List Pt} {w:Bool} {s:List Nat} {v:Option (L3.D × Fl)} (hs:s.length<=1):aP (stR qs w s v)=some (.ok false,stR qs w s v):=by
 have hl:¬ (1:Int) < ((Nd s.reverse).length:Int):=by simp;omega
 unfold aP stR
 generalize Nd s.reverse=X at *
 apply ym
 ·(repeat' (first | infer_instance | eq_refl))
 ·exact ze hl
theorem xz {b:Nat} {s:List Nat}:vp (.lst (Nd (b :: s).reverse)) []=some (.lst (Nd s.reverse),.int b):=by
 have h1:Nd (b :: s).reverse=Nd s.reverse ++ [.int b]:=by simp [Nd]
 rw [h1]
 unfold vp
 simp
set_option tactic.hygienic true in
theorem u3 {qs:List Pt} {w:Bool} {b:Nat} {s:List Nat} {v:Option (L3.D × Fl)}:bf (stR qs w (b :: s) v)=some (.ok .nx,stR qs w s v):=by
 have h:=xz (b:=b) (s:=s)
 unfold bf stR
 generalize Nd (b :: s).reverse=X at *
 (repeat' (first | infer_instance | exact h | eq_refl))
theorem Hl.lt {t:Tn} {w:Bool} {m b:Nat} {s:List Nat} (h:Hl t w m (b :: s)) {x:Nat} (hx:x ∈ b :: s):x<=b:=by
 rcases yR.mp hx with rfl | hx
 ·exact y8 _
 ·have:=(List.pairwise_cons.mp h.desc).1 x hx
  omega
theorem qA {qs:List Pt} (g:GoodSh qs) {w:Bool} {m:Nat} (hm:m < qs.length) {s:List Nat} (h:Hl (up qs) w m s) (T:rD (up qs) w m s):∃ s',cw aP bf (stR qs w s (some (.int m,.z)))=some (.ok .nx,stR qs w s' (some (.int m,.z)))/\Hl (up qs) w (m+1) (m :: s'):=by
 have S:=rK g.rising
 obtain ⟨ρ',e,s',rfl,h'⟩:=en (c:=aP) (b:=bf) (fun k ρ=>∃ s,k=s.length/\ρ=stR qs w s (some (.int m,.z))/\Hl (up qs) w m s/\rD (up qs) w m s) (fun ρ=>∃ s,ρ=stR qs w s (some (.int m,.z))/\Hl (up qs) w (m+1) (m :: s)) (n:=s.length) ⟨s,rfl,rfl,h,T⟩ (by
  rintro k ρ ⟨s,rfl,rfl,h,T⟩
  match s,h,T with
  | [],h,T=>exact h.elim
  | [a],h,T=>exact .inl ⟨_,pe (by simp),[a],rfl,h.push1 T⟩
  | b :: a :: s,h,T =>
   have hb:b < m:=by
    obtain ⟨b',r,e0,hb,_⟩:=T
    cases e0;exact hb
   have ha:a < b:=h.1
   have e:=so g (w:=w) (a:=a) (b:=b) (m:=m) (s:=s) (by omega) (by omega) hm
   by_cases hu:up qs a b m=w
   ·rw [zd hu] at e
    exact .inl ⟨_,e,_,rfl,h.push S hm T hu⟩
   ·rw [ze hu] at e
    have hu':up qs a b m = !w:=by
     revert hu
     cases up qs a b m <;> cases w <;> simp
    obtain ⟨h1,h2⟩:=h.pop S hm T hu'
    exact .inr ⟨_,_,(a :: s).length,e,.inl u3,by simp,a :: s,rfl,rfl,h1,h2⟩)
 exact ⟨s',e,h'⟩
set_option tactic.hygienic true in
theorem u5 {qs:List Pt} {w:Bool} {m:Nat} {s:List Nat} (hs:s.length < 1000):dg (ic isL jq 2 (ab (ad 3) ak)) (stR qs w s (some (.int m,.z)))=some (.ok .nx,stR qs w (m :: s) (some (.int m,.z))):=by
 have h:jq (.lst (Nd s.reverse)) [.int m]=some (.lst (Nd (m :: s).reverse),.non):=by
  rw [l8 (by simp;omega)]
  simp [Nd]
 unfold stR
 generalize Nd (m :: s).reverse=Y at *
 generalize Nd s.reverse=X at *
 (repeat' (first | infer_instance | exact h | eq_refl))
theorem Hl.len {t:Tn} {w:Bool} {m b:Nat} {s:List Nat} (h:Hl t w m (b :: s)):s.length<=b:=by
 have:∀ (l:List Nat) (b:Nat),(b :: l).Pairwise (· > ·)->l.length<=b:=by
  intro l
  induction l with
  | nil=>intro b _;exact Nat.zero_le _
  | cons a l ih =>
   intro b hp
   obtain ⟨h1,h2⟩:=List.pairwise_cons.mp hp
   have:=ih a h2
   have:=h1 a yK
   simp only [zj]
   omega
 exact this s b h.desc
set_option tactic.hygienic true in
theorem lz {qs:List Pt} (g:GoodSh qs) (w:Bool):∃ b s,bz [(Shd qs,.z),(.int (wy w),.z)]=some (.ok (.tup (Nd (b :: s).reverse),.z),[(Shd qs,.z),(.int (wy w),.z)])/\b+1=qs.length/\Hl (up qs) w qs.length (b :: s):=by
 have g1:=g.pos
 have g2:=g.most
 obtain ⟨ρ',e,s,v,rfl,h⟩:=bT (bnd:=am 3) (b:=dI) (fun m ρ=>∃ s v,ρ=stR qs w s v/\((m=0/\s=[])\/∃ b r,s=b :: r/\b+1=m/\Hl (up qs) w m s)) (ds:=aY 0 qs.length) (ρ:=stR qs w [] none) (k:=0) ⟨[],none,rfl,.inl ⟨rfl,rfl⟩⟩ (by
  rintro m d ρ hd ⟨s,v,rfl,h⟩
  obtain ⟨hm,rfl⟩:=b7 hd
  rw [Int.zero_add]
  rw [zg] at *
  have step:∃ s',cw aP bf (stR qs w s (some (.int m,.z)))=some (.ok .nx,stR qs w s' (some (.int m,.z)))/\Hl (up qs) w (m+1) (m :: s'):=by
   rcases h with ⟨rfl,rfl⟩ | ⟨b,r,rfl,hb,h⟩
   ·obtain ⟨ρ',e,rfl⟩:=en (c:=aP) (b:=bf) (fun _ ρ=>ρ=stR qs w [] (some (.int (0:Nat),.z))) (fun ρ=>ρ=stR qs w [] (some (.int (0:Nat),.z))) (n:=0) rfl (by
     rintro k ρ rfl
     exact .inl ⟨_,pe (by simp),rfl⟩)
    exact ⟨[],e,rfl⟩
   ·exact qA g hm h ⟨b,r,rfl,by omega,fun i h1 h2=>absurd h1 (by omega)⟩
  obtain ⟨s',e,h'⟩:=step
  have hl:=h'.len
  refine ⟨stR qs w s (some (.int m,.z)),stR qs w (m :: s') (some (.int m,.z)),rfl,.inl ?_,_,_,rfl,.inr ⟨m,s',rfl,rfl,h'⟩⟩
  unfold dI
  exact al e (u5 (by omega)))
 rw [cz,zg] at *
 rcases h with ⟨h,_⟩ | ⟨b,r,rfl,hb,h⟩
 ·omega
 ·refine ⟨b,r,?_,hb,h⟩
  have hr:c5 [.int ((qs.map Pd).length:Int)]=some (aY 0 qs.length):=cU (by simp;omega) (by simp)
  apply bx (ρ:=[some (Shd qs,.z),some (.int (wy w),.z),none,none]) rfl rfl
  ·unfold i5
   apply al (ρ1:=stR qs w [] none)
   ·(repeat' (first | infer_instance | eq_refl))
   apply al
   ·apply fA
    ·(repeat' (first | with_reducible apply eI (h3:=hr) | infer_instance | eq_refl))
    ·rfl
    ·exact e
   ·apply d6
    ·(repeat' (first | infer_instance | eq_refl))
    ·rfl
  ·rfl
theorem cQ (x:Int):∀ l:List Int,(jl x l).Perm (x :: l)
 | []=>List.Perm.refl _
 | y :: l=>by
  unfold jl
  split
  ·exact List.Perm.refl _
  ·exact ((cQ x l).cons y).trans (List.Perm.swap x y l)
theorem eB:∀ l:List Int,(srt l).Perm l
 | []=>List.Perm.refl _
 | x :: l=>by
  unfold srt
  exact (cQ x _).trans ((eB l).cons x)
set_option tactic.hygienic true in
theorem nc {x:Int}:∀ {l:List Int},l.Pairwise (· < ·)->x ∉ l->(jl x l).Pairwise (· < ·)
 | [],_,_=>by simp [jl]
 | y :: l,h,hn=>by
  obtain ⟨h1,h2⟩:=List.pairwise_cons.mp h
  have hy:x ≠ y:=fun e=>hn (by rw [e];exact yK)
  unfold jl
  split
  ·rename_i hxy
   refine List.pairwise_cons.mpr ⟨fun z hz=>?_,h⟩
   rcases yR.mp hz with rfl | hz
   ·omega
   ·have:=h1 z hz;omega
  ·rename_i hxy
   refine List.pairwise_cons.mpr ⟨fun z hz=>?_,nc h2 fun hm=>hn (yM _ hm)⟩
   rcases yR.mp ((cQ x l).mem_iff.mp hz) with rfl | hz
   ·omega
   ·exact h1 z hz
theorem o8:∀ {l:List Int},l.Nodup->(srt l).Pairwise (· < ·)
 | [],_=>by simp [srt]
 | x :: l,h=>by
  obtain ⟨h1,h2⟩:=List.nodup_cons.mp h
  unfold srt
  exact nc (o8 h2) fun hm=>h1 ((eB l).mem_iff.mp hm)
theorem pS:∀ {l m:List Int},l.Pairwise (· < ·)->m.Pairwise (· < ·)->(∀ x,x ∈ l ↔ x ∈ m)->l=m
 | [],[],_,_,_=>rfl
 | [],y :: m,_,_,h=>absurd ((h y).mpr yK) (by simp)
 | x :: l,[],_,_,h=>absurd ((h x).mp yK) (by simp)
 | x :: l,y :: m,h1,h2,h=>by
  obtain ⟨a1,a2⟩:=List.pairwise_cons.mp h1
  obtain ⟨b1,b2⟩:=List.pairwise_cons.mp h2
  have e:x=y:=by
   rcases yR.mp ((h x).mp yK) with e | hx
   ·exact e
   ·rcases yR.mp ((h y).mpr yK) with e | hy
    ·exact e.symm
    ·have:=b1 x hx
     have:=a1 y hy
     omega
  subst e
  congr 1
  refine pS a2 b2 fun z=>⟨fun hz=>?_,fun hz=>?_⟩
  ·rcases yR.mp ((h z).mp (yM _ hz)) with e | hm
   ·have:=a1 z hz;omega
   ·exact hm
  ·rcases yR.mp ((h z).mpr (yM _ hz)) with e | hm
   ·have:=b1 z hz;omega
   ·exact hm
noncomputable abbrev cst (l:List Nat):List Int:=l.map fun (i:Nat)=>(i:Int)
theorem jx:∀ l:List Nat,bZ (Nd l)=some (cst l)
 | []=>rfl
 | x :: l=>by
  show (bZ (Nd l)).map _=_
  rw [jx l];rfl
theorem yG (l:List Nat):(cst l).map L3.D.int=Nd l:=by simp [Nd,Function.comp_def]
theorem jw {l:List Nat} {x:Int}:x ∈ cst l ↔ ∃ i,i ∈ l/\(i:Int)=x:=by simp [cst]
theorem uQ {A C:List Nat} (hn:A.Nodup) (hl:A.length < 64) (hC:C.Pairwise (· < ·)) (hm:∀ x,x ∈ C ↔ x ∈ A):rX [.tup (Nd A)]=some (.lst (Nd C),.u):=by
 have e:srt (cst A)=cst C:=by
  refine pS (o8 ?_) ?_ fun x=>?_
  ·unfold List.Nodup
   rw [List.pairwise_map]
   exact hn.imp fun h e=>h (by omega)
  ·rw [List.pairwise_map]
   exact hC.imp fun h=>by omega
  ·rw [(eB _).mem_iff,jw,jw]
   exact ⟨fun ⟨i,h1,h2⟩=>⟨i,(hm i).mpr h1,h2⟩,fun ⟨i,h1,h2⟩=>⟨i,(hm i).mp h1,h2⟩⟩
 show ((bZ (Nd A)).bind fun ns=>if ns.length < 64 then some ((.lst ((srt ns).map .int),.u):L3.D × Fl) else none)=_
 rw [jx]
 show (if (cst A).length < 64 then some ((.lst ((srt (cst A)).map .int),.u):L3.D × Fl) else none)=_
 rw [if_pos (by simpa using hl),e,yG]
theorem Hl.bot {t:Tn} {w:Bool} {m:Nat}:∀ {s:List Nat} {b:Nat},Hl t w m (b :: s)->b ≠ 0->∃ s1,s=s1 ++ [0]
 | [],b,h,h0=>absurd h h0
 | a :: s,b,h,h0=>by
  by_cases ha:a=0
  ·subst ha
   match s,h.2.2 with
   | [],_=>exact ⟨[],rfl⟩
   | c :: s,h=>exact absurd h.1 (by omega)
  ·obtain ⟨s1,e⟩:=Hl.bot h.2.2 ha
   exact ⟨a :: s1,by rw [e];rfl⟩
theorem vU {z b:Nat} {M:List Nat}:slD (.tup (Nd (z :: (M ++ [b])))) (some 1) (some (-1))=some (.tup (Nd M),.z):=by
 have h:kG (Nd (z :: (M ++ [b]))) (some 1) (some (-1))=Nd M:=by
  have hl:(Nd (z :: (M ++ [b]))).length=M.length+2:=by simp
  have e1:HT.sIx (M.length+2) 0 (some 1)=1:=by
   show min (1:Int).toNat (M.length+2)=1
   rw [show (1:Int).toNat=1 from rfl];omega
  have e2:HT.sIx (M.length+2) (M.length+2) (some (-1))=M.length+1:=by
   show ((-1:Int)+((M.length+2:Nat):Int)).toNat=M.length+1
   omega
  unfold kG
  rw [hl,e1,e2]
  simp [Nd,List.take_append]
 show some ((.tup (kG (Nd (z :: (M ++ [b]))) (some 1) (some (-1))),.z):L3.D × Fl)=_
 rw [h]
set_option tactic.hygienic true in
theorem uW {A M C:List Nat} {z b:Nat} (hn:(A ++ M).Nodup) (hl:(A ++ M).length < 64) (hC:C.Pairwise (· < ·)) (hm:∀ x,x ∈ C ↔ x ∈ A ++ M):cJ [(.tup (Nd A),.z),(.tup (Nd (z :: (M ++ [b]))),.z)]=some (.ok (.tup (Nd C),.z),[(.tup (Nd A),.z),(.tup (Nd (z :: (M ++ [b]))),.z)]):=by
 have h1:=vU (z:=z) (b:=b) (M:=M)
 have h2:fj (.tup (Nd A)) (.tup (Nd M))=some (.tup (Nd (A ++ M)),.z):=by
  rw [vX (by simp at hl ⊢;omega)]
  simp [Nd]
 have h3:=uQ hn hl hC hm
 generalize Nd (z :: (M ++ [b]))=X at *
 generalize Nd (A ++ M)=Y at *
 generalize Nd A=A' at *
 generalize Nd M=M' at *
 generalize Nd C=C' at *
 apply bx (ρ:=[some (.tup A',.z),some (.tup X,.z)]) rfl rfl
 ·apply d6
  ·(repeat' (first | infer_instance | exact h1 | exact h2 | exact h3 | eq_refl))
  ·rfl
 ·rfl
set_option tactic.hygienic true in
theorem sf {qs:List Pt} (g:GoodSh qs) (h3:3<=qs.length) {c:Nat->Bool} (hc:∀ i,i < qs.length->(c i=true ↔ Cn qs i)):dD [(Shd qs,.z)]=some (.ok (.tup (Nd ((List.range qs.length).filter c)),.z),[(Shd qs,.z)]):=by
 have S:=rK g.rising
 have g2:=g.most
 obtain ⟨b1,s1,r1,hb1,H1⟩:=lz g true
 obtain ⟨b2,s2,r2,hb2,H2⟩:=lz g false
 obtain ⟨M,hM⟩:=H2.bot (by omega)
 have d1:=H1.desc
 have d2:=H2.desc
 have ck:=iz g
 have e2:(b2 :: s2).reverse=0 :: (M.reverse ++ [b2]):=by rw [hM];simp
 have m2:∀ x,x ∈ M ↔ x ∈ b2 :: s2/\x ≠ b2/\x ≠ 0:=by
  intro x
  obtain ⟨p1,p2⟩:=List.pairwise_cons.mp d2
  rw [hM] at p1 p2 ⊢
  constructor
  ·intro hx
   have q1:=p1 x (yP _ hx)
   have q2:=(List.pairwise_append.mp p2).2.2 x hx 0 yK
   exact ⟨yM _ (yP _ hx),by omega,by omega⟩
  ·rintro ⟨hx,n1,n2⟩
   rcases yR.mp hx with e | hx
   ·exact absurd e n1
   ·rcases yU.mp hx with hx | hx
    ·exact hx
    ·exact absurd (zo.mp hx) n2
 have lt1:∀ x ∈ b1 :: s1,x < qs.length:=fun x hx=>by have:=H1.lt hx;omega
 have lt2:∀ x ∈ b2 :: s2,x < qs.length:=fun x hx=>by have:=H2.lt hx;omega
 have nd1:(b1 :: s1).reverse.Nodup:=List.pairwise_reverse.mpr (d1.imp fun h=>by omega)
 have nd2:M.reverse.Nodup:=by
  have:=(List.pairwise_cons.mp d2).2
  rw [hM] at this
  exact List.pairwise_reverse.mpr ((List.pairwise_append.mp this).1.imp fun h=>by omega)
 have nd:((b1 :: s1).reverse ++ M.reverse).Nodup:=by
  refine List.nodup_append.mpr ⟨nd1,nd2,fun x hx y hy e=>?_⟩
  subst e
  obtain ⟨q1,q2,q3⟩:=(m2 x).mp (List.mem_reverse.mp hy)
  have:=lt2 x q1
  exact Hl.apart S H1 H2 q3 (by omega) (List.mem_reverse.mp hx) q1
 have len:((b1 :: s1).reverse ++ M.reverse).length < 64:=by
  have l1:=H1.len
  have l2:=H2.len
  rw [hM] at l2
  simp at l2 ⊢
  omega
 have hmem:∀ x,x ∈ (List.range qs.length).filter c ↔ x ∈ (b1 :: s1).reverse ++ M.reverse:=by
  intro x
  rw [zq,List.mem_range,yU,List.mem_reverse,List.mem_reverse]
  constructor
  ·rintro ⟨hx,h⟩
   rcases (lW g.noline hx).mp ((hc x hx).mp h) with h | h
   ·exact .inl ((H1.mem_iff S hb1 (by omega) hx).mpr h)
   ·have hm:=(H2.mem_iff S hb2 (by omega) hx).mpr h
    by_cases x0:x=0
    ·subst x0;exact .inl H1.zero
    ·by_cases xb:x=b2
     ·refine .inl ?_
      rw [show x=b1 by omega]
      exact yK
     ·exact .inr ((m2 x).mpr ⟨hm,xb,x0⟩)
  ·rintro (h | h)
   ·have hx:=lt1 x h
    exact ⟨hx,(hc x hx).mpr ((lW g.noline hx).mpr (.inl ((H1.mem_iff S hb1 (by omega) hx).mp h)))⟩
   ·obtain ⟨h,_,_⟩:=(m2 x).mp h
    have hx:=lt2 x h
    exact ⟨hx,(hc x hx).mpr ((lW g.noline hx).mpr (.inr ((H2.mem_iff S hb2 (by omega) hx).mp h)))⟩
 have ror:=uW (z:=0) (b:=b2) nd len (List.pairwise_lt_range.filter c) hmem
 rw [e2] at r2
 have r1:bz [(Shd qs,.z),(.int 1,.z)]=some (.ok (.tup (Nd (b1 :: s1).reverse),.z),[(Shd qs,.z),(.int 1,.z)]):=r1
 have r2:bz [(Shd qs,.z),(.int (-1),.z)]=some (.ok (.tup (Nd (0 :: (M.reverse ++ [b2]))),.z),[(Shd qs,.z),(.int (-1),.z)]):=r2
 have hl:¬ ((qs.map Pd).length:Int) < 3:=by simp;omega
 generalize Nd ((List.range qs.length).filter c)=C' at *
 generalize Nd (b1 :: s1).reverse=A' at *
 generalize Nd (0 :: (M.reverse ++ [b2]))=B' at *
 have l1:aA bz (ab (ad 0) (ab (mC (.int 1)) ak)) [some (Shd qs,.z)]=some (.ok (.val (.tup A') .z),[some (Shd qs,.z)]):=by (repeat' (first | infer_instance | with_reducible apply aE (r1) | eq_refl))
 have l2:aA bz (ab (ad 0) (ab (mC (.int (-1))) ak)) [some (Shd qs,.z)]=some (.ok (.val (.tup B') .z),[some (Shd qs,.z)]):=by (repeat' (first | infer_instance | with_reducible apply aE (r2) | eq_refl))
 apply bx (ρ:=[some (Shd qs,.z)]) rfl rfl
 ·unfold gY
  apply al (ρ1:=[some (Shd qs,.z)])
  ·(repeat' (first | infer_instance | with_reducible apply aE (ck) | eq_refl))
  apply al (ρ1:=[some (Shd qs,.z)])
  ·apply d7
   ·(repeat' (first | infer_instance | eq_refl))
   ·exact ze hl
   ·rfl
  ·apply d6
   ·(repeat' (first | with_reducible exact l1 | with_reducible exact l2 | infer_instance | with_reducible apply aE (ror) | eq_refl))
   ·rfl
 ·rfl
noncomputable def aR (ps:List Pt) (L:List Nat):List Nat:=L.filter (aS ps L)
theorem t3 (L:List Nat):(List.range L.length).map (el L)=L:=by
 apply List.ext_getElem?
 intro i
 rw [y7]
 by_cases h:i < L.length
 ·rw [List.getElem?_range h,gJ h];rfl
 ·rw [List.getElem?_eq_none (by simp;omega),List.getElem?_eq_none (by omega)];rfl
theorem q9 (L:List Nat) (f:Nat->Bool):((List.range L.length).filter fun i=>f (el L i)).map (el L)=L.filter f:=by
 conv=>rhs;rw [<- t3 L,List.filter_map]
 rfl
theorem xg {L:List Nat} {i:Nat} (h:i < L.length):aH (.lst (Nd L)) (.int i)=some (.int (el L i),.z):=by
 refine gO (jB ?_)
 rw [y7,gJ h];rfl
set_option tactic.hygienic true in
theorem n9 {ps:List Pt} (g:GoodSh ps) {L:List Nat} (s:Sub ps L):cK [(Shd ps,.z),(.lst (Nd L),.u)]=some (.ok (.tup (Nd (aR ps L)),.z),[(Shd ps,.z),(.lst (Nd L),.u)]):=by
 by_cases h3:L.length < 3
 ·have e:aR ps L=L:=zw.mpr fun x hx=>by
   unfold aS
   have:=List.length_filter_le (fun o=>!decide (o=x)) L
   have h:(av L x).length < 3:=by unfold av;omega
   rw [zd h];rfl
  rw [e]
  have hl:((Nd L).length:Int) < 3:=by simp;omega
  generalize Nd L=X at *
  apply bx (ρ:=[some (Shd ps,.z),some (.lst X,.u),none]) rfl rfl
  ·unfold dJ
   apply jJ
   apply i9
   ·(repeat' (first | infer_instance | eq_refl))
   ·exact zd hl
   ·apply d6
    ·(repeat' (first | infer_instance | eq_refl))
    ·rfl
  ·rfl
 ·have gq:=s.good g (by omega)
  have hL:=s.len
  have rr:=sf gq (by rw [bb];omega) (c:=fun i=>aS ps L (el L i)) (fun i hi=>ke s (by omega) (by rw [bb] at hi;exact hi))
  rw [bb] at rr
  obtain ⟨τ1,e1,a1,rfl⟩:=b8 (bnd:=am 0) (c:=dB) (elt:=bP) (fun τ=>∃ a,τ=[a,some (Shd ps,.z)]) (fun x:Nat=>L3.D.int x) (fun _=>true) (fun x=>Pd (aM ps x)) (xs:=L) (τ:=[none,some (Shd ps,.z)]) ⟨none,rfl⟩ (by
   rintro x hx τ ⟨a,rfl⟩
   have hs:=gB (s.lt x hx)
   exact ⟨[some (.int x,.z),some (Shd ps,.z)],_,rfl,rfl,(fun h=>by cases h),fun _=>⟨.val (Pd (aM ps x)) .z,[some (.int x,.z),some (Shd ps,.z)],(Pd (aM ps x),.z),[some (.int x,.z),some (Shd ps,.z)],by unfold bP;(repeat' (first | infer_instance | exact hs | eq_refl)),rfl,rfl,_,rfl⟩⟩)
  have o1:(L.filter fun _=>true).map (fun x=>Pd (aM ps x))=(gP ps L).map Pd:=by
   rw [zw.mpr fun _ _=>rfl]
   simp [gP]
  rw [o1] at e1
  obtain ⟨τ2,e2,a2,rfl⟩:=b8 (bnd:=am 0) (c:=dB) (elt:=bO) (fun τ=>∃ a,τ=[a,some (.lst (Nd L),.u)]) (fun x:Nat=>L3.D.int x) (fun _=>true) (fun x=>.int (el L x)) (xs:=(List.range L.length).filter fun i=>aS ps L (el L i)) (τ:=[none,some (.lst (Nd L),.u)]) ⟨none,rfl⟩ (by
   rintro x hx τ ⟨a,rfl⟩
   have hs:=xg (L:=L) (i:=x) (List.mem_range.mp (zq.mp hx).1)
   generalize Nd L=X at *
   exact ⟨[some (.int x,.z),some (.lst X,.u)],_,rfl,rfl,(fun h=>by cases h),fun _=>⟨.val (.int (el L x)) .z,[some (.int x,.z),some (.lst X,.u)],(.int (el L x),.z),[some (.int x,.z),some (.lst X,.u)],by unfold bO;(repeat' (first | infer_instance | exact hs | eq_refl)),rfl,rfl,_,rfl⟩⟩)
  have o2:(((List.range L.length).filter fun i=>aS ps L (el L i)).filter fun _=>true).map (fun x=>L3.D.int (el L x:Nat))=Nd (aR ps L):=by
   rw [zw.mpr fun _ _=>rfl]
   unfold aR
   rw [<- q9 L (aS ps L)]
   simp [Nd]
  rw [o2] at e2
  have hr:((List.range L.length).filter fun i=>aS ps L (el L i)).length<=L.length:=by
   have:=List.length_filter_le (fun i=>aS ps L (el L i)) (List.range L.length)
   rw [List.length_range] at this;exact this
  have hlr:(Nd ((List.range L.length).filter fun i=>aS ps L (el L i))).length < 16777216:=by rw [yW];omega
  have hlL:(Nd L).length < 16777216:=by rw [yW];omega
  have hl:¬ ((Nd L).length:Int) < 3:=by simp;omega
  generalize Nd (aR ps L)=out at *
  change bE (am 0) dB bO (Nd ((List.range L.length).filter fun i=>aS ps L (el L i))) _=_ at e2
  change bE (am 0) dB bP (Nd L) _=_ at e1
  generalize Nd ((List.range L.length).filter fun i=>aS ps L (el L i))=R at *
  generalize Nd L=X at *
  have c1:dY [some (Shd ps,.z),some (.lst X,.u),none]=some (.ok (.val (.lst ((gP ps L).map Pd)) .u),[some (Shd ps,.z),some (.lst X,.u),none]):=bq (ρ1:=[some (Shd ps,.z),some (.lst X,.u),none]) (ρ2:=[some (Shd ps,.z),some (.lst X,.l),none]) (rs:=[.pl 1]) (by (repeat' (first | infer_instance | eq_refl))) e1 hlL rfl
  have c2:dX [some (Shd ps,.z),some (.lst X,.u),some (.tup R,.z)]=some (.ok (.val (.lst out) .u),[some (Shd ps,.z),some (.lst X,.u),some (.tup R,.z)]):=bq (ρ1:=[some (Shd ps,.z),some (.lst X,.u),some (.tup R,.z)]) (ρ2:=[some (Shd ps,.z),some (.lst X,.u),some (.tup R,.z)]) (rs:=[.pl 2]) (by (repeat' (first | infer_instance | eq_refl))) e2 hlr rfl
  apply bx (ρ:=[some (Shd ps,.z),some (.lst X,.u),none]) rfl rfl
  ·unfold dJ
   apply al (ρ1:=[some (Shd ps,.z),some (.lst X,.u),none])
   ·apply d7
    ·(repeat' (first | infer_instance | eq_refl))
    ·exact ze hl
    ·rfl
   apply al (ρ1:=[some (Shd ps,.z),some (.lst X,.u),some (.tup R,.z)])
   ·(repeat' (first | with_reducible exact c1 | infer_instance | with_reducible apply aE (rr) | eq_refl))
   ·apply d6
    ·(repeat' (first | with_reducible exact c2 | infer_instance | eq_refl))
    ·rfl
  ·rfl
noncomputable def cM (ps:List Pt) (L:List Nat):List Nat:=L.filter fun x=>!decide (x ∈ aR ps L)
noncomputable def plF (ps:List Pt):Nat->List Nat->List (List Nat)
 | 0,_=>[]
 | m+1,L=>if L=[] then [] else aR ps L :: plF ps m (cM ps L)
theorem pC (ps:List Pt):∀ m,plF ps m []=[]
 | 0=>rfl
 | m+1=>rfl
theorem fQ {ps:List Pt} {m:Nat} {L:List Nat} (h:L ≠ []):plF ps (m+1) L=aR ps L :: plF ps m (cM ps L):=if_neg h
theorem qF {ps:List Pt} (g:GoodSh ps) {L:List Nat} (s:Sub ps L) (h:L ≠ []):∃ x,x ∈ L/\x ∈ aR ps L:=by
 have h0:0 < L.length:=List.length_pos_iff.mpr h
 refine ⟨el L 0,eg h0,zq.mpr ⟨eg h0,?_⟩⟩
 by_cases h3:3<=L.length
 ·refine (ke s h3 h0).mpr ?_
  have gq:=s.good g h0
  have hl:=bb ps L
  obtain ⟨b,r,_,hb,H⟩:=lz gq true
  exact (lW gq.noline gq.pos).mpr (.inl ((H.mem_iff (rK gq.rising) hb (by omega) gq.pos).mp H.zero))
 ·unfold aS
  have:=List.length_filter_le (fun o=>!decide (o=el L 0)) L
  have h:(av L (el L 0)).length < 3:=by unfold av;omega
  rw [zd h];rfl
theorem pj {ps:List Pt} (g:GoodSh ps) {L:List Nat} (s:Sub ps L) (h:L ≠ []):(cM ps L).length < L.length:=by
 obtain ⟨x,h1,h2⟩:=qF g s h
 exact List.length_filter_lt_length_iff_exists.mpr ⟨x,h1,by simp [h2]⟩
noncomputable abbrev Pl (l:List (List Nat)):List L3.D:=l.map fun p=>L3.D.tup (Nd p)
noncomputable abbrev a8 (ps:List Pt):List (List Nat):=plF ps ps.length (List.range ps.length)
theorem in_is {x:Nat} {l:List Nat}:inD (.int x) (.tup (Nd l))=some (.bl (decide (x ∈ l)),.z):=by
 show (bZ (Nd l)).map (fun ns=>((.bl (if false then !decide ((x:Int) ∈ ns) else decide ((x:Int) ∈ ns)),.z):L3.D × Fl))=_
 rw [jx]
 show some ((.bl (decide ((x:Int) ∈ cst l)),.z):L3.D × Fl)=_
 have:decide ((x:Int) ∈ cst l)=decide (x ∈ l):=by
  refine decide_eq_decide.mpr ?_
  rw [jw]
  exact ⟨fun ⟨i,h1,h2⟩=>by rw [<- show i=x by omega];exact h1,fun h=>⟨x,h,rfl⟩⟩
 rw [this]
theorem xR {x:Nat} {l:List Nat}:vD (.int x) (.tup (Nd l))=some (.bl (!decide (x ∈ l)),.z):=by
 show (bZ (Nd l)).map (fun ns=>((.bl (if true then !decide ((x:Int) ∈ ns) else decide ((x:Int) ∈ ns)),.z):L3.D × Fl))=_
 rw [jx]
 show some ((.bl (!decide ((x:Int) ∈ cst l)),.z):L3.D × Fl)=_
 have:decide ((x:Int) ∈ cst l)=decide (x ∈ l):=by
  refine decide_eq_decide.mpr ?_
  rw [jw]
  exact ⟨fun ⟨i,h1,h2⟩=>by rw [<- show i=x by omega];exact h1,fun h=>⟨x,h,rfl⟩⟩
 rw [this]
set_option tactic.hygienic true in
theorem kU {c:M3 Bool} {elt:EM} (hc:c=cB (ai vD (ad 0) (ad 1))) (he:elt=ad 0) (ps:List Pt) (L:List Nat):∃ v,bE (am 0) c elt (Nd L) [none,some (.tup (Nd (aR ps L)),.z)]=some (.ok (Nd (cM ps L)),[v,some (.tup (Nd (aR ps L)),.z)]):=by
 obtain ⟨τ1,e1,a1,rfl⟩:=b8 (bnd:=am 0) (c:=c) (elt:=elt) (fun τ=>∃ a,τ=[a,some (.tup (Nd (aR ps L)),.z)]) (fun x:Nat=>L3.D.int x) (fun x=>!decide (x ∈ aR ps L)) (fun x=>.int x) (xs:=L) (τ:=[none,some (.tup (Nd (aR ps L)),.z)]) ⟨none,rfl⟩ (by
  rintro x hx τ ⟨a,rfl⟩
  have hs:=xR (x:=x) (l:=aR ps L)
  generalize Nd (aR ps L)=X at *
  subst hc he
  exact ⟨[some (.int x,.z),some (.tup X,.z)],[some (.int x,.z),some (.tup X,.z)],rfl,by (repeat' (first | infer_instance | exact hs | eq_refl)),fun _=>⟨_,rfl⟩,fun _=>⟨.pl 0,[some (.int x,.z),some (.tup X,.z)],(.int x,.z),[some (.int x,.z),some (.tup X,.z)],rfl,rfl,rfl,_,rfl⟩⟩)
 exact ⟨a1,e1⟩
noncomputable abbrev stP (ps:List Pt) (done:List (List Nat)) (L:List Nat) (v:Option (L3.D × Fl)):Sto:=[some (Shd ps,.z),some (.lst (Pl done),.u),some (.lst (Nd L),.u),v]
theorem ut {done:List (List Nat)} {p:List Nat} (h:done.length < 1000):jq (.lst (Pl done)) [.tup (Nd p)]=some (.lst (Pl (done ++ [p])),.non):=by
 rw [l8 (by simp;omega)]
 simp [Pl]
set_option tactic.hygienic true in
theorem oB {ps:List Pt} (g:GoodSh ps) {done:List (List Nat)} {L:List Nat} {v:Option (L3.D × Fl)} (s:Sub ps L) (h:done.length < 1000):∃ v',fe (stP ps done L v)=some (.ok .nx,stP ps (done ++ [aR ps L]) (cM ps L) v'):=by
 have f:=n9 g s
 have ha:=ut (done:=done) (p:=aR ps L) h
 obtain ⟨a,e⟩:=kU (c:=j2) (elt:=j1) rfl rfl ps L
 have hl:(Nd L).length < 16777216:=by have:=s.len;rw [yW];omega
 refine ⟨some (.tup (Nd (aR ps L)),.z),?_⟩
 unfold stP
 generalize Nd (aR ps L)=X at *
 generalize Pl (done ++ [aR ps L])=P2 at *
 generalize Pl done=P1 at *
 generalize Nd (cM ps L)=R at *
 generalize Nd L=Y at *
 have c:j0 [some (Shd ps,.z),some (.lst P2,.u),some (.lst Y,.u),some (.tup X,.z)]=some (.ok (.val (.lst R) .u),[some (Shd ps,.z),some (.lst P2,.u),some (.lst Y,.u),some (.tup X,.z)]):=bq (ρ1:=[some (Shd ps,.z),some (.lst P2,.u),some (.lst Y,.u),some (.tup X,.z)]) (ρ2:=[some (Shd ps,.z),some (.lst P2,.u),some (.lst Y,.l),some (.tup X,.z)]) (rs:=[.pl 2]) (by (repeat' (first | infer_instance | eq_refl))) e hl rfl
 unfold fe
 apply al (ρ1:=[some (Shd ps,.z),some (.lst P1,.u),some (.lst Y,.u),some (.tup X,.z)])
 ·(repeat' (first | infer_instance | with_reducible apply aE (f) | eq_refl))
 apply al (ρ1:=[some (Shd ps,.z),some (.lst P2,.u),some (.lst Y,.u),some (.tup X,.z)])
 ·(repeat' (first | infer_instance | exact ha | eq_refl))
 ·(repeat' (first | with_reducible exact c | infer_instance | eq_refl))
theorem kX {ps:List Pt} (g:GoodSh ps):Sub ps (List.range ps.length):=⟨List.pairwise_lt_range,fun x hx=>List.mem_range.mp hx,by rw [List.length_range];exact g.most⟩
theorem pM {n:Nat} (h:n<=1000):wA [.int n]=some (.lst (Nd (List.range n)),.u):=by
 show (if decide (-4611686018427387904<=(n:Int)/\(n:Int)<=16777216)=true then some ((.lst (aY 0 (n:Int).toNat),.u):L3.D × Fl) else none)=_
 rw [if_pos (zd (by omega))]
 simp [aY,Nd]
set_option tactic.hygienic true in
theorem kQ {ps:List Pt} (g:GoodSh ps):gl [(Shd ps,.z)]=some (.ok (.lst (Pl (a8 ps)),.u),[(Shd ps,.z)]):=by
 have ck:=iz g
 have g2:=g.most
 obtain ⟨ρ',e,L,v,rfl⟩:=en (c:=fc) (b:=fe) (fun m ρ=>∃ done L v,ρ=stP ps done L v/\Sub ps L/\L.length<=m/\done.length+L.length<=24/\done ++ plF ps m L=a8 ps) (fun ρ=>∃ L v,ρ=stP ps (a8 ps) L v) (n:=ps.length) (ρ:=stP ps [] (List.range ps.length) none) ⟨[],_,none,rfl,kX g,by simp,by simp;omega,rfl⟩ (by
  rintro m ρ ⟨done,L,v,rfl,s,hl,hd,he⟩
  by_cases h:L=[]
  ·subst h
   rw [pC,List.append_nil] at he
   subst he
   refine .inl ⟨stP ps (a8 ps) [] v,?_,[],v,rfl⟩
   unfold fc
   exact lR (gb (c3 (b5 (bJ rfl) cO) rfl rfl) i_c rfl rfl rfl) rfl
  ·have hp:(0:Int) < ((Nd L).length:Int):=by
    have:=List.length_pos_iff.mpr h
    simp;omega
   obtain ⟨v',eb⟩:=oB g (v:=v) s (by omega:done.length < 1000)
   have hr:=pj g s h
   match m,hl with
   | 0,hl=>have:=List.length_pos_iff.mpr h;omega
   | m+1,hl =>
    refine .inr ⟨stP ps done L v,_,m,?_,.inl eb,by omega,_,_,_,rfl,s.filter _,by omega,?_,?_⟩
    ·have ht:gtI (.int ((Nd L).length:Int)) (.int 0)=some (.bl true,.z):=by simp [eG];have:=List.length_pos_iff.mpr h;omega
     unfold fc stP
     generalize Nd L=Y at *
     exact lR (gb (c3 (b5 (bJ rfl) cO) rfl rfl) i_c rfl rfl ht) rfl
    ·rw [zi]
     show done.length+1+_<=_
     omega
    ·rw [fQ h] at he
     rw [List.append_assoc];exact he)
 have hr:=pM (n:=ps.length) (by omega)
 rw [show (ps.length:Int)=((ps.map Pd).length:Int) by rw [yW]] at hr
 apply bx (ρ:=[some (Shd ps,.z),none,none,none]) rfl rfl
 ·unfold pJ
  apply al (ρ1:=[some (Shd ps,.z),none,none,none])
  ·(repeat' (first | infer_instance | with_reducible apply aE (ck) | eq_refl))
  apply al (ρ1:=[some (Shd ps,.z),some (.lst [],.u),none,none])
  ·(repeat' (first | infer_instance | eq_refl))
  apply al (ρ1:=stP ps [] (List.range ps.length) none)
  ·unfold stP
   generalize Nd (List.range ps.length)=X at *
   (repeat' (first | infer_instance | exact hr | eq_refl))
  apply al
  ·exact e
  ·apply d6
   ·exact bJ rfl
   ·rfl
 ·rfl
theorem lD {ps:List Pt} {x:Nat}:∀ {m:Nat} {L:List Nat} {k:Nat} {p:List Nat},(plF ps m L)[k]?=some p->x ∈ p->x ∈ L
 | 0,L,k,p,h,hx=>by simp [plF] at h
 | m+1,L,k,p,h,hx=>by
  by_cases hL:L=[]
  ·subst hL;simp [plF] at h
  ·rw [fQ hL] at h
   match k,h with
   | 0,h =>
    simp at h
    subst h
    exact (zq.mp hx).1
   | k+1,h =>
    rw [List.getElem?_cons_succ] at h
    exact (zq.mp (lD h hx)).1
theorem pD {ps:List Pt} {x:Nat}:∀ {m:Nat} {L:List Nat} {k:Nat} {p:List Nat},(plF ps m L)[k]?=some p->x ∈ p->((plF ps m L).map fun p=>decide (x ∈ p)).findIdx id=k
 | 0,L,k,p,h,hx=>by simp [plF] at h
 | m+1,L,k,p,h,hx=>by
  by_cases hL:L=[]
  ·subst hL;simp [plF] at h
  ·rw [fQ hL] at h ⊢
   rw [zc,List.findIdx_cons]
   match k,h with
   | 0,h =>
    simp at h
    subst h
    simp [hx]
   | k+1,h =>
    rw [List.getElem?_cons_succ] at h
    have h1:=(zq.mp (lD h hx)).2
    have h2:x ∉ aR ps L:=by simpa using h1
    have ih:=pD h hx
    simp only [h2,decide_false,id,cond_false]
    have ih':List.findIdx id ((plF ps m (cM ps L)).map fun p=>decide (x ∈ p))=k:=ih
    show List.findIdx id _+1=_
    rw [ih']
theorem qi {α:Type} (f:α->Bool):∀ l:List α,fB (l.map fun x=>L3.D.bl (f x))=some (l.map f)
 | []=>rfl
 | x :: l=>by
  show (fB (l.map fun x=>L3.D.bl (f x))).map _=_
  rw [qi f l];rfl
theorem iq {ps:List Pt}:∀ {m:Nat} {L:List Nat},(plF ps m L).length<=m
 | 0,L=>by simp [plF]
 | m+1,L=>by
  by_cases hL:L=[]
  ·subst hL;simp [plF]
  ·rw [fQ hL,zj]
   have:=iq (ps:=ps) (m:=m) (L:=cM ps L)
   omega
set_option tactic.hygienic true in
theorem si {x n:Int} (h0:0<=x) (h1:x < n):c4 [(.int x,.z),(.int n,.z)]=some (.ok (.non,.z),[(.int x,.z),(.int n,.z)]):=by
 have f:=kP x
 have l1:leI (.int 0) (.int x)=some (.bl true,.z):=by simp [eG,h0]
 have l2:ltI (.int x) (.int n)=some (.bl true,.z):=by simp [eG,h1]
 have p:ft [(.int x,.z),(.int n,.z)]=some (.ok (.bl true,.z),[(.int x,.z),(.int n,.z)]):=by
  apply bx (ρ:=[some (.int x,.z),some (.int n,.z)]) rfl rfl
  ·apply d6
   ·apply lP (b:=true)
    ·(repeat' (first | infer_instance | with_reducible apply aE (f) | eq_refl))
    ·rfl
    ·rfl
    ·exact pV i_c (bJ rfl) rfl rfl l1 (bJ rfl) rfl rfl l2
   ·rfl
  ·rfl
 apply F_nx (ρ:=[some (.int x,.z),some (.int n,.z)]) rfl rfl
 ·apply d7
  ·(repeat' (first | infer_instance | with_reducible apply aE (p) | eq_refl))
  ·rfl
  ·rfl
 ·rfl
set_option tactic.hygienic true in
theorem qz {ps:List Pt} (g:GoodSh ps) {k x:Nat} {p:List Nat} (h:(a8 ps)[k]?=some p) (hx:x ∈ p):jC [(Shd ps,.z),(.int x,.z)]=some (.ok (.int k,.z),[(Shd ps,.z),(.int x,.z)]):=by
 have ck:=iz g
 have g2:=g.most
 have hn:=List.mem_range.mp (lD h hx)
 have cp:=si (x:=(x:Int)) (n:=((ps.map Pd).length:Int)) (by omega) (by simp;omega)
 have f:=kQ g
 have hk:=(yX.mp h).1
 have hl:(a8 ps).length<=ps.length:=iq
 have hi:=pD h hx
 obtain ⟨τ1,e1,a1,rfl⟩:=b8 (bnd:=am 0) (c:=dB) (elt:=ff) (fun τ=>∃ a,τ=[a,some (.int x,.z)]) (fun p:List Nat=>L3.D.tup (Nd p)) (fun _=>true) (fun p=>.bl (decide (x ∈ p))) (xs:=a8 ps) (τ:=[none,some (.int x,.z)]) ⟨none,rfl⟩ (by
  rintro q hq τ ⟨a,rfl⟩
  have hs:=in_is (x:=x) (l:=q)
  generalize Nd q=X at *
  exact ⟨[some (.tup X,.z),some (.int x,.z)],_,rfl,rfl,(fun h=>by cases h),fun _=>⟨.val (.bl (decide (x ∈ q))) .z,[some (.tup X,.z),some (.int x,.z)],(.bl (decide (x ∈ q)),.z),[some (.tup X,.z),some (.int x,.z)],by unfold ff;(repeat' (first | infer_instance | exact hs | eq_refl)),rfl,rfl,_,rfl⟩⟩)
 rw [zw.mpr fun _ _=>rfl] at e1
 have hd:yg [.lst ((a8 ps).map fun p=>.bl (decide (x ∈ p))),.bl true]=some (.int k,.z):=by
  show ((fB ((a8 ps).map fun p=>L3.D.bl (decide (x ∈ p)))).bind fun bs=>if bs.findIdx id < bs.length then some ((.int (bs.findIdx id:Nat),.z):L3.D × Fl) else none)=_
  rw [qi (fun p:List Nat=>decide (x ∈ p))]
  show (if ((a8 ps).map fun p=>decide (x ∈ p)).findIdx id < ((a8 ps).map fun p=>decide (x ∈ p)).length then some ((.int (((a8 ps).map fun p=>decide (x ∈ p)).findIdx id:Nat),.z):L3.D × Fl) else none)=_
  rw [hi,if_pos (by simpa using hk)]
 have hlP:(Pl (a8 ps)).length < 16777216:=by rw [yW];omega
 change bE (am 0) dB ff (Pl (a8 ps)) _=_ at e1
 generalize (a8 ps).map (fun p=>L3.D.bl (decide (x ∈ p)))=O at *
 generalize Pl (a8 ps)=P1 at *
 generalize L3.D.int (x:Int)=xd at *
 have c:j3 [some (Shd ps,.z),some (xd,.z)]=some (.ok (.val (.lst O) .u),[some (Shd ps,.z),some (xd,.z)]):=bq (ρ1:=[some (Shd ps,.z),some (xd,.z)]) (ρ2:=[some (Shd ps,.z),some (xd,.z)]) (rs:=[.val (.lst P1) .u]) (by (repeat' (first | infer_instance | with_reducible apply aE (f) | eq_refl))) e1 hlP rfl
 apply bx (ρ:=[some (Shd ps,.z),some (xd,.z)]) rfl rfl
 ·unfold pK
  apply al (ρ1:=[some (Shd ps,.z),some (xd,.z)])
  ·(repeat' (first | infer_instance | with_reducible apply aE (ck) | eq_refl))
  apply al (ρ1:=[some (Shd ps,.z),some (xd,.z)])
  ·(repeat' (first | infer_instance | with_reducible apply aE (cp) | eq_refl))
  ·apply d6
   ·exact yh c rfl rfl (b5 i_c cO) rfl hd
   ·rfl
 ·rfl
noncomputable abbrev Bd (l:List Bool):List L3.D:=l.map fun b=>L3.D.bl b
theorem om:∀ l:List Bool,gW (Bd l)=some (l.map PyData.bool)
 | []=>rfl
 | b :: l=>by
  show (match pyD (.bl b),gW (Bd l) with | some p,some ps=>some (p :: ps) | _,_=>none)=_
  rw [om l];rfl
theorem pQ:∀ l:List Bool,PyData.canLayAll0 (l.map PyData.bool)=true
 | []=>rfl
 | b :: l=>by simp [PyData.canLayAll0,PyData.canLay0,pQ l]
theorem lU:∀ l:List Bool,PyData.depthAll (l.map PyData.bool)<=20
 | []=>by decide
 | b :: l=>by
  have:=lU l
  simp [PyData.depthAll,PyData.depth];omega
theorem p7:∀ l m:List Bool,PyData.eqvAll (l.map PyData.bool) (m.map PyData.bool)=decide (l=m)
 | [],[]=>by simp [PyData.eqvAll]
 | [],_ :: _=>by simp [PyData.eqvAll]
 | _ :: _,[]=>by simp [PyData.eqvAll]
 | a :: l,b :: m=>by
  rw [zc,zc,PyData.eqvAll,p7 l m]
  by_cases h:a=b
  ·subst h
   simp [PyData.eqv]
  ·have:PyData.eqv (.bool a) (.bool b)=false:=by cases a <;> cases b <;> first | rfl | exact absurd rfl h
   simp [this,h]
theorem tY (l m:List Bool):eqX (.lst (Bd l)) (.lst (Bd m))=some (.bl (decide (l=m)),.z):=by
 have h:eqP (.lst (Bd l)) (.lst (Bd m))=some (decide (l=m)):=by
  have p1:pyD (.lst (Bd l))=some (.list (l.map PyData.bool)):=by unfold pyD;rw [om];rfl
  have p2:pyD (.lst (Bd m))=some (.list (m.map PyData.bool)):=by unfold pyD;rw [om];rfl
  unfold eqP
  rw [p1,p2]
  have d1:=lU l
  have d2:=lU m
  have:((PyData.list (l.map PyData.bool)).canLay0 && (PyData.list (m.map PyData.bool)).canLay0 && decide (min (PyData.list (l.map PyData.bool)).depth (PyData.list (m.map PyData.bool)).depth<=30))=true:=by
   simp [PyData.canLay0,pQ,PyData.depth];omega
  show (if _ then _ else _)=_
  rw [if_pos this,PyData.eqv,p7]
 show (eqA (.lst (Bd l)) (.lst (Bd m))).map _=_
 have h1:eqA (.lst (Bd l)) (.lst (Bd m))=some (decide (l=m)):=h
 rw [h1];rfl
theorem u8 {xs:List L3.D} {k:Int} (h:-(2 ^ 63)<=k/\k < 2 ^ 63/\xs.length * k.toNat<=16777216):ol (.lst xs) (.int k)=some (.lst (List.replicate k.toNat xs).flatten,.u):=if_pos (zd h)
theorem sy (w:Bool) (n:Nat) (h:n<=1000):ol (.lst [.bl w]) (.int n)=some (.lst (Bd (List.replicate n w)),.u):=by
 rw [u8 ⟨by omega,by omega,by simp;omega⟩]
 have:∀ n:Nat,(List.replicate n [L3.D.bl w]).flatten=Bd (List.replicate n w):=fun n=>by
  induction n with
  | zero=>rfl
  | succ n ih=>rw [List.replicate_succ,List.flatten_cons,ih,List.replicate_succ];rfl
 rw [this,Int.toNat_natCast]
theorem vZ (l:List Bool) (w:Bool):decide (l=List.replicate l.length w)=l.all (· == w):=by
 induction l with
 | nil=>rfl
 | cons a l ih =>
  rw [zj,List.replicate_succ,List.all_cons,<- ih]
  by_cases h:a=w <;> simp [h]
theorem sV (L:List Nat) (p:Nat) {c:M3 Bool} {elt:EM} {a1:Option (L3.D × Fl)} (P:Sto->Prop) {τ:Sto} (h0:P τ) (hs:∀ x:Nat,∀ τ,P τ->∃ τ1,am 0 (.int x) τ=some τ1/\c τ1=some (.ok (!decide (x=p)),τ1)/\elt τ1=some (.ok (.pl 0),τ1)/\eA (.pl 0) τ1=some (.ok (.int x,.z),τ1)/\P τ1):∃ τ',bE (am 0) c elt (Nd L) τ=some (.ok (Nd (av L p)),τ')/\P τ':=by
 obtain ⟨τ1,e1,h1⟩:=b8 (bnd:=am 0) (c:=c) (elt:=elt) P (fun x:Nat=>L3.D.int x) (fun x=>!decide (x=p)) (fun x=>.int x) (xs:=L) (τ:=τ) h0 (by
  intro x hx τ hp
  obtain ⟨τ1,e1,e2,e3,e4,h1⟩:=hs x τ hp
  exact ⟨τ1,τ1,e1,e2,fun _=>h1,fun _=>⟨_,_,_,_,e3,e4,rfl,h1⟩⟩)
 exact ⟨τ1,e1,h1⟩
theorem tj {x p:Nat}:neX (.int x) (.int p)=some (.bl (!decide (x=p)),.z):=by
 rw [pI]
 have:decide ((x:Int)=(p:Int))=decide (x=p):=decide_eq_decide.mpr (by omega)
 rw [this]
set_option tactic.hygienic true in
theorem qt {ps:List Pt} (g:GoodSh ps) {L:List Nat} (s:Sub ps L) {p q:Nat} (hp:p < ps.length) (hq:q < ps.length):∃ v,bE (am 0) cY cX (Nd (av L p)) [none,some (Shd ps,.z),some (.int p,.z),some (.int q,.z)]=some (.ok (Bd (bo ps L p q)),[v,some (Shd ps,.z),some (.int p,.z),some (.int q,.z)]):=by
 obtain ⟨τ1,e1,a1,rfl⟩:=b8 (bnd:=am 0) (c:=cY) (elt:=cX) (fun τ=>∃ a,τ=[a,some (Shd ps,.z),some (.int p,.z),some (.int q,.z)]) (fun x:Nat=>L3.D.int x) (fun x=>!decide (x=q)) (fun x=>.bl (decide (0 < aq (aM ps p) (aM ps q) (aM ps x)))) (xs:=av L p) (τ:=[none,some (Shd ps,.z),some (.int p,.z),some (.int q,.z)]) ⟨none,rfl⟩ (by
  rintro x hx τ ⟨a,rfl⟩
  have hxl:=s.lt x (mem_others.mp hx).1
  have hn:=tj (x:=x) (p:=q)
  have sm:=Small.sub (dH g.small hp) (dH g.small hq)
  have b:=mE (aM ps p) (aM ps q) (aM ps x) sm.1 sm.2
  have s1:=gB hp
  have s2:=gB hq
  have s3:=gB hxl
  refine ⟨[some (.int x,.z),some (Shd ps,.z),some (.int p,.z),some (.int q,.z)],[some (.int x,.z),some (Shd ps,.z),some (.int p,.z),some (.int q,.z)],rfl,?_,fun _=>⟨_,rfl⟩,fun _=>⟨.val (.bl (decide (0 < aq (aM ps p) (aM ps q) (aM ps x)))) .z,[some (.int x,.z),some (Shd ps,.z),some (.int p,.z),some (.int q,.z)],(.bl (decide (0 < aq (aM ps p) (aM ps q) (aM ps x))),.z),[some (.int x,.z),some (Shd ps,.z),some (.int p,.z),some (.int q,.z)],?_,rfl,rfl,_,rfl⟩⟩
  ·generalize Shd ps=S at *
   unfold cY
   (repeat' (first | infer_instance | exact hn | eq_refl))
  ·generalize Shd ps=S at *
   generalize L3.D.int (p:Int)=pd at *
   generalize L3.D.int (q:Int)=qd at *
   generalize L3.D.int (x:Int)=xd at *
   unfold cX
   (repeat' (first | infer_instance | with_reducible apply aE (b) | exact s1 | exact s2 | exact s3 | eq_refl)))
 refine ⟨a1,?_⟩
 rw [e1]
 unfold bo Bd
 rw [List.map_map]
 rfl
set_option tactic.hygienic true in
theorem nz {ps:List Pt} (g:GoodSh ps) {L:List Nat} (s:Sub ps L) {p q:Nat} {f:Fl} {v:Option (L3.D × Fl)} (hp:p < ps.length) (hq:q < ps.length):∃ v',cZ [some (Shd ps,.z),some (.lst (Nd L),f),some (.int p,.z),some (.lst (Nd (av L p)),.l),some (.int q,.z),v]=some (.ok (if same (bo ps L p q)=true then .rt (.bl true) .z else .nx),[some (Shd ps,.z),some (.lst (Nd L),f),some (.int p,.z),some (.lst (Nd (av L p)),.l),some (.int q,.z),v']):=by
 obtain ⟨a,e⟩:=qt g s hp hq
 have hL:=s.len
 have ho:(av L p).length<=L.length:=List.length_filter_le _ _
 have hs:(bo ps L p q).length<=1000:=by
  unfold bo
  rw [yW]
  have:(av (av L p) q).length<=(av L p).length:=List.length_filter_le _ _
  omega
 have hl:(Nd (av L p)).length < 16777216:=by rw [yW];omega
 have r1:=sy true (bo ps L p q).length hs
 have r2:=sy false (bo ps L p q).length hs
 have hlen:df [.lst (Bd (bo ps L p q))]=some (.int ((bo ps L p q).length:Nat),.z):=by simp [xY,c1]
 have q1:=tY (bo ps L p q) (List.replicate (bo ps L p q).length true)
 have q2:=tY (bo ps L p q) (List.replicate (bo ps L p q).length false)
 rw [vZ] at q1 q2
 have sm:same (bo ps L p q)=((bo ps L p q).all (· == true) || (bo ps L p q).all (· == false)):=by
  unfold same
  rw [show (id:Bool->Bool)=(· == true) from funext fun b=>by cases b <;> rfl,show (fun b:Bool=>!b)=(· == false) from funext fun b=>by cases b <;> rfl]
 rw [sm]
 generalize (bo ps L p q).all (· == true)=b1 at *
 generalize (bo ps L p q).all (· == false)=b2 at *
 generalize Bd (List.replicate (bo ps L p q).length true)=T1 at *
 generalize Bd (List.replicate (bo ps L p q).length false)=T2 at *
 generalize Bd (bo ps L p q)=W at *
 generalize (((bo ps L p q).length:Nat):Int)=k at *
 generalize Nd (av L p)=O at *
 generalize Nd L=Y at *
 generalize Shd ps=S at *
 generalize L3.D.int (p:Int)=pd at *
 generalize L3.D.int (q:Int)=qd at *
 refine ⟨some (.lst W,.u),?_⟩
 have c:gv [some (S,.z),some (.lst Y,f),some (pd,.z),some (.lst O,.l),some (qd,.z),v]=some (.ok (.val (.lst W) .u),[some (S,.z),some (.lst Y,f),some (pd,.z),some (.lst O,.l),some (qd,.z),v]):=bq (ρ1:=[some (S,.z),some (.lst Y,f),some (pd,.z),some (.lst O,.l),some (qd,.z),v]) (ρ2:=[some (S,.z),some (.lst Y,f),some (pd,.z),some (.lst O,.l),some (qd,.z),v]) (rs:=[.pl 3]) (by (repeat' (first | infer_instance | eq_refl))) e hl rfl
 have t1:cB (ai eqX (ad 5) (ai ol (fG (ab (mC (.bl true)) ak)) (aC df (ab (ad 5) ak)))) [some (S,.z),some (.lst Y,f),some (pd,.z),some (.lst O,.l),some (qd,.z),some (.lst W,.u)]=some (.ok b1,[some (S,.z),some (.lst Y,f),some (pd,.z),some (.lst O,.l),some (qd,.z),some (.lst W,.u)]):=lR (gb (bJ rfl) (gb (j7 (b5 i_c cO) rfl (Nat.le_of_ble_eq_true rfl)) (c3 (b5 (bJ rfl) cO) rfl hlen) rfl rfl r1) rfl rfl q1) rfl
 have t2:cB (ai eqX (ad 5) (ai ol (fG (ab (mC (.bl false)) ak)) (aC df (ab (ad 5) ak)))) [some (S,.z),some (.lst Y,f),some (pd,.z),some (.lst O,.l),some (qd,.z),some (.lst W,.u)]=some (.ok b2,[some (S,.z),some (.lst Y,f),some (pd,.z),some (.lst O,.l),some (qd,.z),some (.lst W,.u)]):=lR (gb (bJ rfl) (gb (j7 (b5 i_c cO) rfl (Nat.le_of_ble_eq_true rfl)) (c3 (b5 (bJ rfl) cO) rfl hlen) rfl rfl r2) rfl rfl q2) rfl
 unfold cZ
 apply al (ρ1:=[some (S,.z),some (.lst Y,f),some (pd,.z),some (.lst O,.l),some (qd,.z),some (.lst W,.u)])
 ·(repeat' (first | with_reducible exact c | infer_instance | eq_refl))
 ·cases b1 with
  | true=>exact i9 (i_orT t1 rfl) rfl rfl
  | false =>
   cases b2 with
   | true=>exact i9 (la t1 rfl t2) rfl rfl
   | false=>exact d7 (la t1 rfl t2) rfl rfl
set_option tactic.hygienic true in
theorem og {ps:List Pt} (g:GoodSh ps) {L:List Nat} (s:Sub ps L) {p:Nat} (hp:p < ps.length):fm [(Shd ps,.z),(.lst (Nd L),.l),(.int p,.z)]=some (.ok (.bl (aS ps L p),.z),[(Shd ps,.z),(.lst (Nd L),.l),(.int p,.z)]):=by
 have hL:=s.len
 have ho:(av L p).length<=L.length:=List.length_filter_le _ _
 have hn:=fun x:Nat=>tj (x:=x) (p:=p)
 obtain ⟨τ1,e1,a1,rfl⟩:=sV L p (c:=d9) (elt:=gx) (a1:=none) (fun τ=>∃ a,τ=[a,some (.int p,.z)]) (τ:=[none,some (.int p,.z)]) ⟨none,rfl⟩ (by
  rintro x τ ⟨a,rfl⟩
  have h:=hn x
  exact ⟨[some (.int x,.z),some (.int p,.z)],rfl,by unfold d9;(repeat' (first | infer_instance | exact h | eq_refl)),rfl,rfl,_,rfl⟩)
 have hl:(Nd L).length < 16777216:=by rw [yW];omega
 have c:gw [some (Shd ps,.z),some (.lst (Nd L),.l),some (.int p,.z),none,none,none]=some (.ok (.val (.lst (Nd (av L p))) .u),[some (Shd ps,.z),some (.lst (Nd L),.l),some (.int p,.z),none,none,none]):=by
  generalize Nd (av L p)=O at *
  generalize Nd L=Y at *
  exact bq (ρ1:=[some (Shd ps,.z),some (.lst Y,.l),some (.int p,.z),none,none,none]) (ρ2:=[some (Shd ps,.z),some (.lst Y,.l),some (.int p,.z),none,none,none]) (rs:=[.pl 1]) (by (repeat' (first | infer_instance | eq_refl))) e1 hl rfl
 by_cases h3:(av L p).length < 3
 ·have ec:aS ps L p=true:=by unfold aS;rw [zd h3];rfl
  rw [ec]
  have hl3:((Nd (av L p)).length:Int) < 3:=by simp;omega
  generalize Nd (av L p)=O at *
  generalize Nd L=Y at *
  apply bx (ρ:=[some (Shd ps,.z),some (.lst Y,.l),some (.int p,.z),none,none,none]) rfl rfl
  ·unfold gH
   apply al (ρ1:=[some (Shd ps,.z),some (.lst Y,.l),some (.int p,.z),some (.lst O,.u),none,none])
   ·(repeat' (first | with_reducible exact c | infer_instance | eq_refl))
   apply jJ
   apply i9
   ·(repeat' (first | infer_instance | eq_refl))
   ·exact zd hl3
   ·apply d6
    ·exact i_c
    ·rfl
  ·rfl
 ·have ec:aS ps L p=(av L p).any fun q=>same (bo ps L p q):=by unfold aS;rw [ze h3];rfl
  rw [ec]
  have hl3:¬ ((Nd (av L p)).length:Int) < 3:=by simp;omega
  obtain ⟨ρ',h⟩:=jz (bnd:=am 4) (b:=cZ) (fun m ρ=>∃ v4 v5,ρ=[some (Shd ps,.z),some (.lst (Nd L),.l),some (.int p,.z),some (.lst (Nd (av L p)),.l),v4,v5]/\∀ (j:Nat) (q:Nat),j < m->(av L p)[j]?=some q->same (bo ps L p q)=false)
   (fun m r fl ρ=>r=.bl true/\fl=.z/\(∃ v4 v5,ρ=[some (Shd ps,.z),some (.lst (Nd L),.l),some (.int p,.z),some (.lst (Nd (av L p)),.l),v4,v5])/\∃ q,q ∈ av L p/\same (bo ps L p q)=true)
   (ds:=Nd (av L p)) (ρ:=[some (Shd ps,.z),some (.lst (Nd L),.l),some (.int p,.z),some (.lst (Nd (av L p)),.l),none,none]) (k:=0) ⟨none,none,rfl,fun j q h=>absurd h (Nat.not_lt_zero _)⟩ (by
    rintro m d ρ hd ⟨v4,v5,rfl,hb⟩
    rw [y7] at hd
    obtain ⟨q,hq,rfl⟩:=yO.mp hd
    have hm:=yY hq
    obtain ⟨v',eb⟩:=nz g s (p:=p) (q:=q) (f:=.l) (v:=v5) hp (s.lt q (mem_others.mp hm).1)
    by_cases hsm:same (bo ps L p q)=true
    ·rw [if_pos hsm] at eb
     exact ⟨_,_,rfl,.inr ⟨_,_,eb,rfl,rfl,⟨_,_,rfl⟩,q,hm,hsm⟩⟩
    ·rw [if_neg hsm] at eb
     refine ⟨_,_,rfl,.inl ⟨.inl eb,_,_,rfl,fun j q' hj hq'=>?_⟩⟩
     by_cases e:j=m
     ·subst e
      rw [hq] at hq'
      cases hq'
      simpa using hsm
     ·exact hb j q' (by omega) hq')
  have hlO:(Nd (av L p)).length=(av L p).length:=by rw [yW]
  apply bx (ρ:=[some (Shd ps,.z),some (.lst (Nd L),.l),some (.int p,.z),none,none,none]) (ρ1:=aJ fD [3] ρ') rfl rfl
  ·unfold gH
   apply al (ρ1:=[some (Shd ps,.z),some (.lst (Nd L),.l),some (.int p,.z),some (.lst (Nd (av L p)),.u),none,none])
   ·generalize Nd (av L p)=O at *
    generalize Nd L=Y at *
    (repeat' (first | with_reducible exact c | infer_instance | eq_refl))
   apply al (ρ1:=[some (Shd ps,.z),some (.lst (Nd L),.l),some (.int p,.z),some (.lst (Nd (av L p)),.u),none,none])
   ·generalize Nd (av L p)=O at *
    generalize Nd L=Y at *
    apply d7
    ·(repeat' (first | infer_instance | eq_refl))
    ·exact ze hl3
    ·rfl
   ·rcases h with ⟨e,v4,v5,rfl,h⟩ | ⟨i,r,fl,hi,e,rfl,rfl,⟨v4,v5,rfl⟩,q,hq,hsm⟩
    ·have ea:((av L p).any fun q=>same (bo ps L p q))=false:=by
      rw [List.any_eq_false]
      intro q hq
      obtain ⟨j,hj,e⟩:=List.getElem_of_mem hq
      rw [h j q (by omega) (by rw [yS hj,e])]
      simp
     rw [ea]
     generalize Nd (av L p)=O at *
     generalize Nd L=Y at *
     apply al (ρ1:=[some (Shd ps,.z),some (.lst Y,.l),some (.int p,.z),some (.lst O,.u),v4,v5])
     ·exact tO (is:=[3]) (ρ1:=[some (Shd ps,.z),some (.lst Y,.l),some (.int p,.z),some (.lst O,.u),none,none]) (jy (bJ rfl) rfl rfl) rfl e
     ·exact d6 i_c rfl
    ·have ea:((av L p).any fun q=>same (bo ps L p q))=true:=List.any_eq_true.mpr ⟨q,hq,hsm⟩
     rw [ea]
     generalize Nd (av L p)=O at *
     generalize Nd L=Y at *
     apply jJ
     exact tO (is:=[3]) (ρ1:=[some (Shd ps,.z),some (.lst Y,.l),some (.int p,.z),some (.lst O,.u),none,none]) (jy (bJ rfl) rfl rfl) rfl e
  ·rcases h with ⟨e,v4,v5,rfl,h⟩ | ⟨i,r,fl,hi,e,rfl,rfl,⟨v4,v5,rfl⟩,q,hq,hsm⟩
   ·rfl
   ·rfl
theorem tp {d:L3.D} {p:PyData} (hS:eqS d d=none) (h:pyD d=some p) (hc:p.canLay0=true) (hd:p.depth<=30):neX d d=some (.bl false,.z):=by
 have h1:eqA d d=some true:=by
  unfold eqA
  rw [hS]
  exact t0 h hc hd
 show (eqA d d).map _=_
 rw [h1];rfl
theorem sI:∀ l:List Nat,∃ qs,gW (Nd l)=some qs/\PyData.canLayAll0 qs=true/\PyData.depthAll qs<=10/\qs.length=l.length
 | []=>⟨[],rfl,rfl,by decide,rfl⟩
 | x :: l=>by
  obtain ⟨qs,e1,e2,e3,e4⟩:=sI l
  refine ⟨.int x :: qs,?_,?_,?_,?_⟩
  ·show (match pyD (.int x),gW (Nd l) with | some p,some ps=>some (p :: ps) | _,_=>none)=_
   rw [e1];rfl
  ·simp [PyData.canLayAll0,PyData.canLay0,e2]
  ·simp [PyData.depthAll,PyData.depth];omega
  ·simp [e4]
theorem wv:∀ l:List (List Nat),∃ qs,gW (Pl l)=some qs/\PyData.canLayAll0 qs=true/\PyData.depthAll qs<=20
 | []=>⟨[],rfl,rfl,by decide⟩
 | p :: l=>by
  obtain ⟨qs,e1,e2,e3⟩:=wv l
  obtain ⟨rs,f1,f2,f3,_⟩:=sI p
  refine ⟨.tuple rs :: qs,?_,?_,?_⟩
  ·show (match pyD (.tup (Nd p)),gW (Pl l) with | some p,some ps=>some (p :: ps) | _,_=>none)=_
   have:pyD (.tup (Nd p))=some (.tuple rs):=by unfold pyD;rw [f1];rfl
   rw [e1,this]
  ·simp [PyData.canLayAll0,PyData.canLay0,e2,f2]
  ·simp [PyData.depthAll,PyData.depth];omega
theorem ne_Pl (l:List (List Nat)):neX (.lst (Pl l)) (.lst (Pl l))=some (.bl false,.z):=by
 obtain ⟨qs,e1,e2,e3⟩:=wv l
 refine tp (p:=.list qs) rfl ?_ ?_ ?_
 ·unfold pyD;rw [e1];rfl
 ·simp [PyData.canLay0,e2]
 ·simp [PyData.depth];omega
theorem xS (L:List Nat):neX (.lst (Nd L)) (.lst [])=some (.bl (!decide (L=[])),.z):=by
 obtain ⟨qs,e1,e2,e3,e4⟩:=sI L
 have p1:pyD (.lst (Nd L))=some (.list qs):=by unfold pyD;rw [e1];rfl
 have h:eqP (.lst (Nd L)) (.lst [])=some (decide (L=[])):=by
  have p2:pyD (.lst [])=some (.list []):=rfl
  unfold eqP
  rw [p1,p2]
  have:((PyData.list qs).canLay0 && (PyData.list []).canLay0 && decide (min (PyData.list qs).depth (PyData.list []).depth<=30))=true:=by
   simp [PyData.canLay0,e2,PyData.depth,PyData.canLayAll0];omega
  show (if _ then _ else _)=_
  rw [if_pos this]
  cases L with
  | nil =>
   have:qs=[]:=List.length_eq_zero_iff.mp e4
   subst this
   rfl
  | cons x L =>
   cases qs with
   | nil=>simp at e4
   | cons y qs=>rfl
 show (eqA (.lst (Nd L)) (.lst [])).map _=_
 have h1:eqA (.lst (Nd L)) (.lst [])=some (decide (L=[])):=h
 rw [h1];rfl
set_option tactic.hygienic true in
theorem oe (i:Int):gm [(.int i,.z)]=some (.ok (.bl true,.z),[(.int i,.z)]):=by
 apply bx (ρ:=[some (.int i,.z)]) rfl rfl
 ·(repeat' (first | infer_instance | eq_refl))
 ·rfl
set_option tactic.hygienic true in
theorem qG {ps:List Pt} (g:GoodSh ps) {L:List Nat} (s:Sub ps L):∃ v,bE (am 0) gZ j5 (Nd L) [none,some (Shd ps,.z),some (.lst (Nd L),.l)]=some (.ok (Nd (aR ps L)),[v,some (Shd ps,.z),some (.lst (Nd L),.l)]):=by
 obtain ⟨τ1,e1,a1,rfl⟩:=b8 (bnd:=am 0) (c:=gZ) (elt:=j5) (fun τ=>∃ a,τ=[a,some (Shd ps,.z),some (.lst (Nd L),.l)]) (fun x:Nat=>L3.D.int x) (aS ps L) (fun x=>.int x) (xs:=L) (τ:=[none,some (Shd ps,.z),some (.lst (Nd L),.l)]) ⟨none,rfl⟩ (by
  rintro x hx τ ⟨a,rfl⟩
  have f:=og g s (s.lt x hx)
  generalize Nd L=Y at *
  generalize Shd ps=S at *
  exact ⟨[some (.int x,.z),some (S,.z),some (.lst Y,.l)],[some (.int x,.z),some (S,.z),some (.lst Y,.l)],rfl,by unfold gZ;(repeat' (first | infer_instance | with_reducible apply aE (f) | eq_refl)),fun _=>⟨_,rfl⟩,fun _=>⟨.pl 0,[some (.int x,.z),some (S,.z),some (.lst Y,.l)],(.int x,.z),[some (.int x,.z),some (S,.z),some (.lst Y,.l)],rfl,rfl,rfl,_,rfl⟩⟩)
 exact ⟨a1,e1⟩
noncomputable abbrev stL (S k:L3.D) (ps:List Pt) (L:List Nat) (done:List (List Nat)) (v5 v6 v7 v8 v9:Option (L3.D × Fl)):Sto:=[some (S,.z),some (k,.z),some (Shd ps,.z),some (.lst (Nd L),.u),some (.lst (Pl done),.u),v5,v6,v7,v8,v9]
set_option tactic.hygienic true in
theorem law_w {S k:L3.D} {ps:List Pt} (g:GoodSh ps) {L:List Nat} {done:List (List Nat)} {v5 v6 v7 v8 v9:Option (L3.D × Fl)} (s:Sub ps L) (h:done.length < 1000):∃ v7',fW (stL S k ps L done v5 v6 v7 v8 v9)=some (.ok .nx,stL S k ps (cM ps L) (done ++ [aR ps L]) v5 v6 v7' v8 v9):=by
 have ha:=ut (done:=done) (p:=aR ps L) h
 obtain ⟨a,e⟩:=kU (c:=m5) (elt:=m4) rfl rfl ps L
 obtain ⟨a',e'⟩:=qG g s
 have hl:(Nd L).length < 16777216:=by have:=s.len;rw [yW];omega
 refine ⟨some (.tup (Nd (aR ps L)),.z),?_⟩
 unfold stL
 generalize Nd (aR ps L)=X at *
 generalize Pl (done ++ [aR ps L])=P2 at *
 generalize Pl done=P1 at *
 generalize Nd (cM ps L)=R at *
 generalize Nd L=Y at *
 generalize Shd ps=D at *
 have c1:mZ [some (S,.z),some (k,.z),some (D,.z),some (.lst Y,.u),some (.lst P1,.u),v5,v6,v7,v8,v9]=some (.ok (.val (.lst X) .u),[some (S,.z),some (k,.z),some (D,.z),some (.lst Y,.u),some (.lst P1,.u),v5,v6,v7,v8,v9]):=bq (ρ1:=[some (S,.z),some (k,.z),some (D,.z),some (.lst Y,.u),some (.lst P1,.u),v5,v6,v7,v8,v9]) (ρ2:=[some (S,.z),some (k,.z),some (D,.z),some (.lst Y,.l),some (.lst P1,.u),v5,v6,v7,v8,v9]) (rs:=[.pl 3]) (by (repeat' (first | infer_instance | eq_refl))) e' hl rfl
 have c2:mY [some (S,.z),some (k,.z),some (D,.z),some (.lst Y,.u),some (.lst P2,.u),v5,v6,some (.tup X,.z),v8,v9]=some (.ok (.val (.lst R) .u),[some (S,.z),some (k,.z),some (D,.z),some (.lst Y,.u),some (.lst P2,.u),v5,v6,some (.tup X,.z),v8,v9]):=bq (ρ1:=[some (S,.z),some (k,.z),some (D,.z),some (.lst Y,.u),some (.lst P2,.u),v5,v6,some (.tup X,.z),v8,v9]) (ρ2:=[some (S,.z),some (k,.z),some (D,.z),some (.lst Y,.l),some (.lst P2,.u),v5,v6,some (.tup X,.z),v8,v9]) (rs:=[.pl 3]) (by (repeat' (first | infer_instance | eq_refl))) e hl rfl
 unfold fW
 apply al (ρ1:=[some (S,.z),some (k,.z),some (D,.z),some (.lst Y,.u),some (.lst P1,.u),v5,v6,some (.tup X,.z),v8,v9])
 ·(repeat' (first | with_reducible exact c1 | infer_instance | eq_refl))
 apply al (ρ1:=[some (S,.z),some (k,.z),some (D,.z),some (.lst Y,.u),some (.lst P2,.u),v5,v6,some (.tup X,.z),v8,v9])
 ·(repeat' (first | infer_instance | exact ha | eq_refl))
 ·(repeat' (first | with_reducible exact c2 | infer_instance | eq_refl))
theorem qT {S k:L3.D} {ps:List Pt} (g:GoodSh ps) {v5 v6 v7 v8 v9:Option (L3.D × Fl)}:∃ v7',cw fV fW (stL S k ps (List.range ps.length) [] v5 v6 v7 v8 v9)=some (.ok .nx,stL S k ps [] (a8 ps) v5 v6 v7' v8 v9):=by
 have g2:=g.most
 obtain ⟨ρ',e,v7',rfl⟩:=en (c:=fV) (b:=fW) (fun m ρ=>∃ done L v7,ρ=stL S k ps L done v5 v6 v7 v8 v9/\Sub ps L/\L.length<=m/\done.length+L.length<=24/\done ++ plF ps m L=a8 ps) (fun ρ=>∃ v7,ρ=stL S k ps [] (a8 ps) v5 v6 v7 v8 v9) (n:=ps.length) (ρ:=stL S k ps (List.range ps.length) [] v5 v6 v7 v8 v9) ⟨[],_,v7,rfl,kX g,by simp,by simp;omega,rfl⟩ (by
  rintro m ρ ⟨done,L,v7,rfl,s,hl,hd,he⟩
  have hne:=xS L
  have ht:fV (stL S k ps L done v5 v6 v7 v8 v9)=some (.ok (!decide (L=[])),stL S k ps L done v5 v6 v7 v8 v9):=by
   unfold fV stL
   generalize Nd L=Y at *
   exact lR (gb (bJ rfl) (j7 cO rfl (Nat.le_of_ble_eq_true rfl)) rfl rfl hne) rfl
  by_cases h:L=[]
  ·subst h
   rw [pC,List.append_nil] at he
   subst he
   exact .inl ⟨_,ht,v7,rfl⟩
  ·rw [ze h] at ht
   obtain ⟨v',eb⟩:=law_w (S:=S) (k:=k) (v5:=v5) (v6:=v6) (v7:=v7) (v8:=v8) (v9:=v9) g s (by omega:done.length < 1000)
   have hr:=pj g s h
   match m,hl with
   | 0,hl=>have:=List.length_pos_iff.mpr h;omega
   | m+1,hl =>
    refine .inr ⟨_,_,m,ht,.inl eb,by omega,_,_,_,rfl,s.filter _,by omega,?_,?_⟩
    ·rw [zi]
     show done.length+1+_<=_
     omega
    ·rw [fQ h] at he
     rw [List.append_assoc];exact he)
 exact ⟨v7',e⟩
set_option tactic.hygienic true in
theorem vN {S k:L3.D} {ps:List Pt} (g:GoodSh ps) {v5 v6 v7 v8 v9:Option (L3.D × Fl)}:∃ v8',ib (stL S k ps [] (a8 ps) v5 v6 v7 v8 v9)=some (.ok .nx,stL S k ps [] (a8 ps) v5 v6 v7 v8' v9):=by
 have f:=kQ g
 have hne:=ne_Pl (a8 ps)
 have g2:=g.most
 have hl:(a8 ps).length<=ps.length:=iq
 obtain ⟨τ1,e1,a1,rfl⟩:=eK (bnd:=am 0) (c:=dB) (elt:=j4) (fun τ=>∃ a,τ=[a]) (fun _=>true) (fun _=>.bl true) (ds:=Pl (a8 ps)) (τ:=[none]) ⟨none,rfl⟩ (by
  rintro d hd τ ⟨a,rfl⟩
  obtain ⟨t,_,rfl⟩:=y6.mp hd
  exact ⟨[some (.tup (Nd t),.z)],_,rfl,rfl,(fun h=>by cases h),fun _=>⟨.val (.bl true) .z,[some (.tup (Nd t),.z)],(.bl true,.z),[some (.tup (Nd t),.z)],by unfold j4;exact i_un (bJ rfl) rfl rfl,rfl,rfl,_,rfl⟩⟩)
 have a3:=iS (ds:=((Pl (a8 ps)).filter fun _=>true).map fun _=>.bl true) (fun d hd=>by obtain ⟨_,_,rfl⟩:=y6.mp hd;rfl)
 generalize ((Pl (a8 ps)).filter fun _=>true).map (fun _=>L3.D.bl true)=o1 at *
 have hlP:(Pl (a8 ps)).length < 16777216:=by rw [yW];omega
 have ha:jq (.lst (Pl (a8 ps))) [.int 0]=some (.lst (Pl (a8 ps) ++ [.int 0]),.non):=l8 hlP
 refine ⟨some (.lst (Pl (a8 ps) ++ [.int 0]),.u),?_⟩
 unfold stL
 generalize Pl (a8 ps)=P1 at *
 generalize Nd []=N0 at *
 have c1:mW [some (S,.z),some (k,.z),some (Shd ps,.z),some (.lst N0,.u),some (.lst P1,.u),v5,v6,v7,some (.lst P1,.u),v9]=some (.ok (.val (.lst o1) .u),[some (S,.z),some (k,.z),some (Shd ps,.z),some (.lst N0,.u),some (.lst P1,.u),v5,v6,v7,some (.lst P1,.u),v9]):=bq (ρ1:=[some (S,.z),some (k,.z),some (Shd ps,.z),some (.lst N0,.u),some (.lst P1,.u),v5,v6,v7,some (.lst P1,.u),v9]) (ρ2:=[some (S,.z),some (k,.z),some (Shd ps,.z),some (.lst N0,.u),some (.lst P1,.u),v5,v6,v7,some (.lst P1,.l),v9]) (rs:=[.pl 8]) (by (repeat' (first | infer_instance | eq_refl))) e1 hlP rfl
 unfold ib
 apply al (ρ1:=[some (S,.z),some (k,.z),some (Shd ps,.z),some (.lst N0,.u),some (.lst P1,.u),v5,v6,v7,some (.lst P1,.u),v9])
 ·(repeat' (first | infer_instance | with_reducible apply aE (f) | eq_refl))
 apply al (ρ1:=[some (S,.z),some (k,.z),some (Shd ps,.z),some (.lst N0,.u),some (.lst P1,.u),v5,v6,v7,some (.lst P1,.u),v9])
 ·apply d7
  ·apply la (b:=false)
   ·apply lQ (b:=true)
    (repeat' (first | infer_instance | eq_refl))
   ·rfl
   ·apply la (b:=false)
    ·exact lR (gb (bJ rfl) (bJ rfl) rfl rfl hne) rfl
    ·rfl
    ·exact lQ (lR (c3 (b5 c1 cO) rfl a3) rfl)
  ·rfl
  ·rfl
 ·(repeat' (first | infer_instance | exact ha | eq_refl))
set_option tactic.hygienic true in
theorem qU {S k:L3.D} {ps:List Pt} (g:GoodSh ps) {n x:Nat} {p:List Nat} (h:(a8 ps)[n]?=some p) (hx:x ∈ p) {v5 v7 v8:Option (L3.D × Fl)}:∃ v8',hV (stL S k ps [] (a8 ps) v5 (some (.int n,.z)) v7 v8 (some (.int x,.z)))=some (.ok .nx,stL S k ps [] (a8 ps) v5 (some (.int n,.z)) v7 v8' (some (.int x,.z))):=by
 have f:=qz g h hx
 have w:=oe (n:Int)
 have hn:neX (.int (n:Int)) (.int (n:Int))=some (.bl false,.z):=by rw [pI];simp
 refine ⟨some (.int n,.z),?_⟩
 unfold stL
 generalize Pl (a8 ps)=P1 at *
 generalize Nd []=N0 at *
 generalize L3.D.int (x:Int)=xd at *
 generalize L3.D.int (n:Int)=nd at *
 unfold hV
 apply al (ρ1:=[some (S,.z),some (k,.z),some (Shd ps,.z),some (.lst N0,.u),some (.lst P1,.u),v5,some (nd,.z),v7,some (nd,.z),some (xd,.z)])
 ·(repeat' (first | infer_instance | with_reducible apply aE (f) | eq_refl))
 ·apply d7
  ·apply la (b:=false)
   ·apply lQ (b:=true)
    (repeat' (first | infer_instance | with_reducible apply aE (w) | eq_refl))
   ·rfl
   ·exact lR (gb (bJ rfl) (bJ rfl) rfl rfl hn) rfl
  ·rfl
  ·rfl
theorem oP {S k:L3.D} {ps:List Pt} (g:GoodSh ps) {n:Nat} {p:List Nat} (h:(a8 ps)[n]?=some p) {v5 v7 v8 v9:Option (L3.D × Fl)}:∃ v8' v9',hU (stL S k ps [] (a8 ps) v5 (some (.int n,.z)) v7 v8 v9)=some (.ok .nx,stL S k ps [] (a8 ps) v5 (some (.int n,.z)) v7 v8' v9'):=by
 obtain ⟨ρ',e,v8',v9',rfl⟩:=bT (bnd:=am 9) (b:=hV) (fun _ ρ=>∃ v8 v9,ρ=stL S k ps [] (a8 ps) v5 (some (.int n,.z)) v7 v8 v9) (ds:=Nd p) (ρ:=stL S k ps [] (a8 ps) v5 (some (.int n,.z)) v7 v8 v9) (k:=0) ⟨v8,v9,rfl⟩ (by
  rintro i d ρ hd ⟨v8,v9,rfl⟩
  rw [y7] at hd
  obtain ⟨x,hx,rfl⟩:=yO.mp hd
  obtain ⟨v8',e⟩:=qU (S:=S) (k:=k) g h (yY hx) (v5:=v5) (v7:=v7) (v8:=v8)
  exact ⟨_,_,rfl,.inl e,_,_,rfl⟩)
 have hs:aH (.lst (Pl (a8 ps))) (.int n)=some (.tup (Nd p),.z):=gO (jB (by rw [y7,h];rfl))
 refine ⟨v8',v9',?_⟩
 unfold hU
 exact fA (jy (gb (bJ rfl) (bJ rfl) rfl rfl hs) rfl rfl) rfl e
set_option tactic.hygienic true in
theorem tJ {ns:List Int} (k:Nat) {v2 v3 v4 v5 v6 v7 v8 v9:Option (L3.D × Fl)} :
  ∃ w2 w3 w4 w5 w6 w7 w8 w9,hJ [some (.fls (ns.map .int),.z),some (.int k,.z),v2,v3,v4,v5,v6,v7,v8,v9]=some (.ok .nx,[some (.fls (ns.map .int),.z),some (.int k,.z),w2,w3,w4,w5,w6,w7,w8,w9]):=by
 obtain ⟨n,eb⟩:=uZ ns k
 obtain ⟨n2,ps,es,g,hm,_⟩:=qw n 12 (by decide) (by decide)
 have g2:=g.most
 have hal:(a8 ps).length<=ps.length:=iq
 generalize hS:L3.D.fls (ns.map .int)=S at *
 generalize hK:L3.D.int (k:Int)=kk at *
 obtain ⟨v7a,ew⟩:=qT (S:=S) (k:=kk) g (v5:=v5) (v6:=v6) (v7:=v7) (v8:=v8) (v9:=v9)
 obtain ⟨ρ1,e1,v5b,v8b,rfl⟩:=bT (bnd:=am 5) (b:=ib) (fun _ ρ=>∃ v5 v8,ρ=stL S kk ps [] (a8 ps) v5 v6 v7a v8 v9) (ds:=aY 0 2) (ρ:=stL S kk ps [] (a8 ps) v5 v6 v7a v8 v9) (k:=0) ⟨v5,v8,rfl⟩ (by
  rintro i d ρ hd ⟨v5,v8,rfl⟩
  obtain ⟨v8',e⟩:=vN (S:=S) (k:=kk) g (v5:=some (d,.z)) (v6:=v6) (v7:=v7a) (v8:=v8) (v9:=v9)
  exact ⟨_,_,rfl,.inl e,_,_,rfl⟩)
 obtain ⟨ρ2,e2,v6c,v8c,v9c,rfl⟩:=bT (bnd:=am 6) (b:=hU) (fun _ ρ=>∃ v6 v8 v9,ρ=stL S kk ps [] (a8 ps) v5b v6 v7a v8 v9) (ds:=aY 0 (a8 ps).length) (ρ:=stL S kk ps [] (a8 ps) v5b v6 v7a v8b v9) (k:=0) ⟨v6,v8b,v9,rfl⟩ (by
  rintro i d ρ hd ⟨v6,v8,v9,rfl⟩
  obtain ⟨hi,rfl⟩:=b7 hd
  rw [Int.zero_add]
  obtain ⟨v8',v9',e⟩:=oP (S:=S) (k:=kk) g (n:=i) (yS hi) (v5:=v5b) (v7:=v7a) (v8:=v8) (v9:=v9)
  exact ⟨_,_,rfl,.inl e,_,_,_,rfl⟩)
 have hr:=pM (n:=ps.length) (by omega)
 rw [show (ps.length:Int)=((ps.map Pd).length:Int) by rw [yW]] at hr
 have r2:c5 [.int 2]=some (aY 0 2):=cU (by decide) (by decide)
 have r3:c5 [.int ((Pl (a8 ps)).length:Int)]=some (aY 0 (a8 ps).length):=cU (by rw [yW];omega) (by rw [yW];omega)
 refine ⟨some (Shd ps,.z),some (.lst (Nd []),.u),some (.lst (Pl (a8 ps)),.u),v5b,v6c,v7a,v8c,v9c,?_⟩
 unfold hJ
 apply al (ρ1:=[some (S,.z),some (kk,.z),some (Shd ps,.z),v3,v4,v5,v6,v7,v8,v9])
 ·(repeat' (first | infer_instance | with_reducible apply aE (eb) | with_reducible apply aE (es) | eq_refl))
 apply al (ρ1:=[some (S,.z),some (kk,.z),some (Shd ps,.z),some (.lst (Nd (List.range ps.length)),.u),v4,v5,v6,v7,v8,v9])
 ·exact pU (c3 (b5 (c3 (b5 (bJ rfl) cO) rfl rfl) cO) rfl hr) rfl (Nat.le_of_ble_eq_true rfl) rfl
 apply al (ρ1:=stL S kk ps (List.range ps.length) [] v5 v6 v7 v8 v9)
 ·exact pU (j7 cO rfl (Nat.le_of_ble_eq_true rfl)) rfl (Nat.le_of_ble_eq_true rfl) rfl
 apply al
 ·exact ew
 apply al
 ·exact fA (eI (b5 i_c cO) rfl r2) rfl e1
 ·exact fA (eI (b5 (c3 (b5 (bJ rfl) cO) rfl rfl) cO) rfl r3) rfl e2
set_option tactic.hygienic true in
theorem uX (ns:List Int) (hn:ns.length<=63):wJ [(.fls (ns.map .int),.z)]=some (.ok (.bl true,.z),[(.fls (ns.map .int),.z)]):=by
 have hb:∃ m:Nat,(if (if ((4:Int) < ((ns.map L3.D.int).length:Int)) then (4:Int) else ((ns.map L3.D.int).length:Int)) > 1 then (if ((4:Int) < ((ns.map L3.D.int).length:Int)) then (4:Int) else ((ns.map L3.D.int).length:Int)) else (1:Int))=(m:Int)/\m<=4:=by
  refine ⟨max 1 (min ns.length 4),?_,by omega⟩
  simp only [yW]
  split <;> split <;> omega
 obtain ⟨m,hm,hm4⟩:=hb
 obtain ⟨ρ',e,v1,v2,v3,v4,v5,v6,v7,v8,v9,rfl⟩:=bT (bnd:=am 1) (b:=hJ) (fun _ ρ=>∃ v1 v2 v3 v4 v5 v6 v7 v8 v9,ρ=[some (.fls (ns.map .int),.z),v1,v2,v3,v4,v5,v6,v7,v8,v9]) (ds:=aY 0 m) (ρ:=[some (.fls (ns.map .int),.z),none,none,none,none,none,none,none,none,none]) (k:=0) ⟨_,_,_,_,_,_,_,_,_,rfl⟩ (by
  rintro i d ρ hd ⟨v1,v2,v3,v4,v5,v6,v7,v8,v9,rfl⟩
  obtain ⟨hi,rfl⟩:=b7 hd
  rw [Int.zero_add]
  obtain ⟨w2,w3,w4,w5,w6,w7,w8,w9,e⟩:=tJ (ns:=ns) i (v2:=v2) (v3:=v3) (v4:=v4) (v5:=v5) (v6:=v6) (v7:=v7) (v8:=v8) (v9:=v9)
  exact ⟨_,_,rfl,.inl e,_,_,_,_,_,_,_,_,_,rfl⟩)
 have hr:c5 [.int (if (if ((4:Int) < ((ns.map L3.D.int).length:Int)) then (4:Int) else ((ns.map L3.D.int).length:Int)) > 1 then (if ((4:Int) < ((ns.map L3.D.int).length:Int)) then (4:Int) else ((ns.map L3.D.int).length:Int)) else (1:Int))]=some (aY 0 m):=by
  rw [hm]
  exact cU (by omega) (by omega)
 apply bx (ρ:=[some (.fls (ns.map .int),.z),none,none,none,none,none,none,none,none,none]) rfl rfl
 ·apply al
  ·apply fA
   ·(repeat' (first | with_reducible apply eI (h3:=hr) | infer_instance | eq_refl))
   ·rfl
   ·exact e
  ·(repeat' (first | infer_instance | eq_refl))
 ·rfl
end Bn
end
namespace Bn
open PySem L2 L3
theorem yE {l : PySem.W.OpenLaw} {w : World} {K : FG} {h : Heap} {mg : Str -> Option Value} {fa : Addr} (X : K.In h) (G : h.Ns mainGlobals mg) (hfa : mg "law" = some (.ref fa)) (e : uU K = pW) :
  ∃ fd : FuncData, (∀ (s : Shared) (v : Value), BindsTo s fd ⟨[v], []⟩ [("_law_script", v)]) /\ ∀ base : Heap, K.In base -> base.Ns mainGlobals mg -> FnOk l.prog w K mg base CX0 10 fa fd ["_law_script"] (rW K) := by
 have e0 : dsL.map (fun p => nk K p.1) = dsL.map (fun p => kb p.1 p.2) := congrArg (fun x => x.1) e
 have e1 : blL.map (PySem.W.nsIn K mainGlobals) = blL.map (fun _ => some none) := congrArg (fun x => x.2.1) e
 have e2 : ciL.map (fun p => lO K p.1) = ciL.map (fun p => some p.2) := congrArg (fun x => x.2.2.1) e
 have e3 : csL.map (fun p => rV K p.1) = csL.map (fun p => some p.2) := congrArg (fun x => x.2.2.2) e
 have B : Bl mg := ⟨cn X G e1 0 rfl, cn X G e1 1 rfl, cn X G e1 2 rfl, cn X G e1 3 rfl, cn X G e1 4 rfl, cn X G e1 5 rfl, cn X G e1 6 rfl, cn X G e1 7 rfl, cn X G e1 8 rfl, cn X G e1 9 rfl, cn X G e1 10 rfl, cn X G e1 11 rfl, cn X G e1 12 rfl, cn X G e1 13 rfl, cn X G e1 14 rfl, cn X G e1 15 rfl, cn X G e1 16 rfl, cn X G e1 17 rfl, cn X G e1 18 rfl, cn X G e1 19 rfl⟩
 have D0 : Def K mg "is_whole" eQ := aW X G e0 0 rfl
 have D1 : Def K mg "is_point" eS := aW X G e0 1 rfl
 have D2 : Def K mg "is_place" eT := aW X G e0 2 rfl
 have D3 : Def K mg "check_place" cT := aW X G e0 3 rfl
 have D4 : Def K mg "are_points" dq := aW X G e0 4 rfl
 have D5 : Def K mg "has_rising_x" cv := aW X G e0 5 rfl
 have D6 : Def K mg "bend" lw := aW X G e0 6 rfl
 have D7 : Def K mg "threes" gQ := aW X G e0 7 rfl
 have D8 : Def K mg "first_on_line" b9 := aW X G e0 8 rfl
 have D9 : Def K mg "is_sheet" eR := aW X G e0 9 rfl
 have D10 : Def K mg "check_sheet" cS := aW X G e0 10 rfl
 have D11 : Def K mg "turn_at" gg := aW X G e0 11 rfl
 have D12 : Def K mg "outer_row" dS := aW X G e0 12 rfl
 have D13 : Def K mg "ring_of_rows" cr := aW X G e0 13 rfl
 have D14 : Def K mg "outer_ring" dn := aW X G e0 14 rfl
 have D15 : Def K mg "outer_places" cu := aW X G e0 15 rfl
 have D16 : Def K mg "peels" jr := aW X G e0 16 rfl
 have D17 : Def K mg "layer" js := aW X G e0 17 rfl
 have D18 : Def K mg "_law_box" jt := aW X G e0 18 rfl
 have D19 : Def K mg "_law_take" gR := aW X G e0 19 rfl
 have D20 : Def K mg "_law_whole" gh := aW X G e0 20 rfl
 have D21 : Def K mg "_law_bend" gT := aW X G e0 21 rfl
 have D22 : Def K mg "_law_free" gS := aW X G e0 22 rfl
 have D23 : Def K mg "_law_sheet" gi := aW X G e0 23 rfl
 have D24 : Def K mg "_law_corner" eP := aW X G e0 24 rfl
 obtain ⟨f, fd, F0, hf⟩ : Def K mg "law" fK := aW X G e0 25 rfl
 cases hfa.symm.trans hf
 have F := F0
 obtain ⟨oc, od, kV, doc, pm, an, cdv, ct, osl, ef, lk, hcd⟩ := F0.ex
 subst ef
 obtain ⟨tk0, Q0⟩ := lN X G e2 0 (n := "MOST_POINTS") (v := 24) rfl
 obtain ⟨tk1, Q1⟩ := lN X G e2 1 (n := "DOWN") (v := -1) rfl
 obtain ⟨tk2, Q2⟩ := lN X G e2 2 (n := "LEAST_CORNERS") (v := 3) rfl
 obtain ⟨tk3, Q3⟩ := lN X G e2 3 (n := "UP") (v := 1) rfl
 refine ⟨PySem.W.fnOf "law" "law" (bg fK) (aU fK) (ah fK) .none kV doc pm an cdv ct, fun s v => .of_eq rfl, fun base _ _ => ?_⟩
 have C_is_whole := lZ (P := l.prog) (w := w) (base := base) B D0
 have C_is_point := l4 (P := l.prog) (w := w) (base := base) B D1 C_is_whole
 have C_is_place := l5 (P := l.prog) (w := w) (base := base) B D2 C_is_whole
 have C_check_place := jo (P := l.prog) (w := w) (base := base) B D3 C_is_place
 have C_are_points := kj (P := l.prog) (w := w) (base := base) B D4 C_is_point Q0
 have C_has_rising_x := iQ (P := l.prog) (w := w) (base := base) B D5
 have C_bend := ue (P := l.prog) (w := w) (base := base) B D6
 have C_threes := oV (P := l.prog) (w := w) (base := base) B D7
 have C_first_on_line := io (P := l.prog) (w := w) (base := base) B D8 C_bend C_threes
 have C_is_sheet := l0 (P := l.prog) (w := w) (base := base) B D9 C_are_points C_first_on_line C_has_rising_x
 have C_check_sheet := jn (P := l.prog) (w := w) (base := base) B D10 C_is_sheet
 have C_turn_at := nG (P := l.prog) (w := w) (base := base) B D11 C_bend
 have C_outer_row := kI (P := l.prog) (w := w) (base := base) B D12 C_turn_at
 have C_ring_of_rows := iO (P := l.prog) (w := w) (base := base) B D13
 have C_outer_ring := ki (P := l.prog) (w := w) (base := base) B D14 C_check_sheet C_outer_row C_ring_of_rows Q1 Q2 Q3
 have C_outer_places := iP (P := l.prog) (w := w) (base := base) B D15 C_outer_ring Q2
 have C_peels := rp (P := l.prog) (w := w) (base := base) B D16 C_check_sheet C_outer_places
 have C_layer := rq (P := l.prog) (w := w) (base := base) B D17 C_check_place C_check_sheet C_peels
 have C__law_box := rA (P := l.prog) (w := w) (base := base) B D18
 have C__law_take := oW (P := l.prog) (w := w) (base := base) B D19
 have C__law_whole := nH (P := l.prog) (w := w) (base := base) B D20
 have C__law_bend := oY (P := l.prog) (w := w) (base := base) B D21
 have C__law_free := oX (P := l.prog) (w := w) (base := base) B D22 C__law_bend
 have C__law_sheet := nI (P := l.prog) (w := w) (base := base) B D23 C__law_free C__law_take
 have C__law_corner := lY (P := l.prog) (w := w) (base := base) B D24 C__law_bend
 exact FnOk.imp (vT (P := l.prog) (w := w) (base := base) B F C__law_box C__law_corner C__law_sheet C__law_whole C_layer C_peels) fun vs H Q E h => vO (fun ns hn => ⟨_, uX ns hn⟩) h
theorem walkL : PySem.W.WalkO viL loL (fun _ _ => True) (fun _ h => ∃ K : FG, K.In h /\ uU K = pW) PySem.Challenge.rw_bentrows_k71_peels_told.row.toRowW ⟨"law", bg fK, aU fK, ah fK, stPos fK⟩ [] (fun f vs => PySem.call f vs) :=
 L2.walk_ofS (l := PySem.Challenge.rw_bentrows_k71_peels_told) (n := 63) (k := 10) (x := "_law_script") (S := fun K => uU K = pW) (CX := CX0) (sp := rW) rfl (by decide) rfl ⟨rfl, by decide, by decide, rfl⟩ (fun _ _ z => z) (fun _ _ _ _ _ e X G hm => yE X G hm e) (fun _ _ a ns hl hO hS => ⟨a, ns, rfl, hS, hO, hl, fun _ => rfl⟩) fun _ _ _ _ z => z
end Bn
set_option tactic.hygienic true
open PySem PySem.W PyProof.Rows
set_option maxRecDepth 100000 in
set_option maxHeartbeats 0 in
theorem PySem.Challenge.cw_bentrows_k71_peels_told_holds : PySem.Challenge.rw_bentrows_k71_peels_told.Holds :=
 holds_law Bn.okL fun said => holds_open (r := PySem.Challenge.rw_bentrows_k71_peels_told.row) Bn.leftL (fun _ _ e => ⟨_, L2.fragAt_in _, e⟩) (fun _ _ _ ⟨K, X, e⟩ k => ⟨K, X.keeps k, e⟩) (fun _ _ => trivial) (fun _ _ _ _ _ => trivial) (by kernel_rfl) (by kernel_rfl) (by kernel_rfl) (fun s e => recFacts_of e) (by rfl) said (by kernel_rfl) ⟨rfl, rfl, rfl, rfl, rfl, by decide +kernel⟩ ⟨[.list []], by decide +kernel, by decide +kernel⟩ Bn.walkL
