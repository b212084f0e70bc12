import PyProof.Rows.All
import Wide.All
import OpenK.AllK
import Wide.FinOn
import Lean
import PyProof.EqAt
import PyProof.EqKinds
import PyProof.TupleCall
import PyProof.P3Eq
import PyProof.NeData
import PyProof.ListRange
import PyProof.Rows.CallKwBuiltin
import PyProof.Rows.Range3
import PyProof.DictWalks
import PyProof.MinMaxWalk
import PyProof.WalkInts
import PyProof.Walk
import PyProof.WalkLemmas
import PyProof.RulesTry
import PySem.Challenge.RW_bentrows_k42_what_sheets_lack
set_option tactic.hygienic false
set_option genSizeOf false
set_option Elab.async false
set_option linter.all false
set_option maxRecDepth 100000
set_option maxHeartbeats 4000000
section
abbrev FG:=PySem.W.Frag
open PySem PySem.Spec PyProof.Rows
abbrev zV:=@wpAny_bind
abbrev zW:=@wpAny_pure
abbrev zX:=@wpAny_holding
abbrev zY:=@List.mem_cons_self
abbrev zZ:=@List.mem_cons_of_mem
abbrev z4:=@Heap.get?_push_of_some
abbrev z5:=@Option.map_eq_some_iff
abbrev z6:=@List.mem_append_left
abbrev z7:=@List.mem_append_right
abbrev z8:=@List.mem_cons
abbrev z9:=@List.getElem?_eq_getElem
abbrev Aa:=@Heap.lt_size
abbrev Ab:=@List.mem_append
abbrev Ac:=@Heap.get?_push_size
abbrev Ad:=@List.length_map
abbrev Ae:=@List.getElem?_eq_some_iff
abbrev Af:=@List.mem_of_getElem?
abbrev Ag:=@List.sublist_append_right
abbrev Ah:=@List.mem_map
abbrev Ai:=@List.getElem?_map
abbrev Aj:=@Nat.le_refl
abbrev Ak:=@Bool.false_ne_true
abbrev Al:=@Nat.ne_of_lt
abbrev Am:=@List.size_toArray
abbrev An:=@List.map_cons
abbrev Ao:=@decide_eq_true
abbrev Ap:=@decide_eq_false
abbrev Aq:=@Nat.lt_of_lt_of_le
abbrev As:=@Nat.zero_add
abbrev At:=@Heap.get?_update_self
abbrev Au:=@List.length_append
abbrev Av:=@List.length_cons
abbrev Aw:=@List.length_take
abbrev Ax:=@Option.map_some
abbrev Ay:=@Option.bind_eq_some_iff
abbrev Az:=@List.mem_singleton
abbrev AA:=@Bool.false_eq_true
abbrev AB:=@List.mem_filter
abbrev AC:=@List.getElem?_append_left
abbrev AD:=@Heap.get?_update_other
abbrev AE:=@Heap.size_push
abbrev AF:=@wpAny_truthy_bool
abbrev AG:=@Nat.le_trans
abbrev AH:=@List.filter_eq_self
abbrev AI:=@List.mem_flatMap
abbrev AJ:=@List.map_map
abbrev AK:=@List.map_congr_left
abbrev AL:=@Option.some.inj
end
section
namespace L2
open PySem
noncomputable def bg (s : Stmt) : Arguments := match s with
  | .FunctionDef _ a _ _ _ _ _ _ _ _ => a
  | _ => { posonlyargs := [], args := [], vararg := none, kwonlyargs := [], kw_defaults := [], kwarg := none, defaults := [] }
noncomputable def aU (s : Stmt) : List Stmt := match s with
  | .FunctionDef _ _ b _ _ _ _ _ _ _ => b
  | _ => []
noncomputable def ai (s : Stmt) : Scope := match s with
  | .FunctionDef _ _ _ _ _ _ sc _ _ _ => sc
  | _ => { kind := .function, names := [], isGenerator := false, isCoroutine := false }
noncomputable def uD (h : Heap) : FG := (List.range h.objs.size).filterMap fun a => (h.get? a).map fun o => (a, o)
noncomputable def refIn (K : FG) (n : Str) : Addr := match PySem.W.nsIn K mainGlobals n with
  | some (some (.ref f)) => f
  | _ => 0
noncomputable abbrev mH := Str × Str × Arguments × FuncBody × Scope × Addr × List (Str × Addr) × Value × Addr × Bool
noncomputable def oe (K : FG) (n : Str) : Option mH := match PySem.W.nsIn K mainGlobals n with
  | some (some (.ref f)) => (match K.lookup f with
    | some ⟨_, _, .func fd, _⟩ => some (fd.name, fd.qualname, fd.params, fd.body, fd.scope, fd.globals, fd.closure, fd.defaults, fd.builtins, PySem.W.codeIn K fd.code n)
    | _ => none)
  | _ => none
noncomputable def kz (n : Str) (st : Stmt) : Option mH := some (n, n, bg st, .stmts (aU st), ai st, mainGlobals, [], .none, builtinsNs, true)
noncomputable def ml (K : FG) (n : Str) : Option Int := match PySem.W.nsIn K mainGlobals n with
  | some (some (.int v _)) => some v
  | _ => none
noncomputable def sQ (K : FG) (n : Str) : Option Str := match PySem.W.nsIn K mainGlobals n with
  | some (some (.str v _)) => some v
  | _ => none
open PySem.W PyProof.Rows in
theorem rP {p q : Program} {loose : List Str} {Xt : Shared → Bool} {α : Type} {Yf : Shared → α} {Ya : World → α} {N m : Nat} {ann : Option Value}
    (e : opening p = plainProg p.main.scope.names) (hN : Nat.ble 600 N = true) (f : ∀ s, fenceModules? p s = some s)
    (sz : ∀ w : World, ((boot_heap w.params).isNs mainGlobals && (Array.mk [] : Array GenState).size == 0, (boot_heap w.params).objs.size, (boot_heap w.params).nsMap mainGlobals "__annotations__") = (true, m, ann))
    (go : ∀ (w : World) (os : OsState), (PySem.W.Fast.tw14082659384304107361 PySem.W.Fast.tw14364793385576792824 p w m ann N ⟨boot_heap w.params, Array.mk [], boot_drawn, boot_toks, os⟩ (topStub p)).map (fun s => ((staticsOk (importedModules p.main.body) (boot_heap w.params) s.heap && namesBound p s.heap && gensDone s && laidKept (boot_heap w.params) s.heap), PySem.W.Fast.tw4187177175401517315 q loose (importedModules p.main.body) Xt true s, Yf s)) = some (true, openGood q loose, Ya w)) : LeftO p q loose Xt Yf Ya N := fun w => by
  obtain ⟨⟨hp, gn, dr, tk, os⟩, ea, eb⟩ := z5.mp (boot_open e hN f w)
  obtain ⟨rfl, rfl, rfl, rfl⟩ : hp = boot_heap w.params ∧ gn = Array.mk [] ∧ dr = boot_drawn ∧ tk = boot_toks := by simpa using eb
  have sw := sz w
  have rw0 := go w os
  rw [← PySem.W.Fast.te14082659384304107361, ← PySem.W.Fast.te14364793385576792824, ← PySem.W.Fast.te4187177175401517315] at rw0
  simp only [Prod.mk.injEq] at sw
  obtain ⟨s, ec, ed⟩ := z5.mp rw0
  simp only [Prod.mk.injEq] at ed
  have tt : topFrom treeTable p w N ⟨boot_heap w.params, Array.mk [], boot_drawn, boot_toks, os⟩ = some s := by
    unfold topFrom
    dsimp only
    rw [sw.1, sw.2.1, sw.2.2, ec]
    change (match staticsOk (importedModules p.main.body) (boot_heap w.params) s.heap && namesBound p s.heap && gensDone s && laidKept (boot_heap w.params) s.heap with | true => some s | false => none) = some s
    rw [ed.1]
  unfold openEnds
  rw [ea]
  change Option.map _ (topFrom treeTable p w N _) = _
  rw [tt]
  exact congrArg some (Prod.ext ed.2.1 ed.2.2)
theorem qY {l : PySem.W.OpenLaw} (h : PySem.W.Fast.tw9446332074065402090 l = true) : l.wellSaid = true := by rw [← PySem.W.Fast.te9446332074065402090] at h; exact h
end L2
namespace Bn
open PySem L2
noncomputable def top (i : Nat) : Stmt := PySem.Challenge.pw_bentrows_k42_what_sheets_lack.main.body.getD i (.Pass ⟨0, 0, 0, 0⟩)
noncomputable abbrev fg : Stmt := top 5
noncomputable abbrev fi : Stmt := top 6
noncomputable abbrev cH : Stmt := top 7
noncomputable abbrev dG : Stmt := top 10
noncomputable abbrev cG : Stmt := top 11
noncomputable abbrev lU : Stmt := top 12
noncomputable abbrev gT : Stmt := top 13
noncomputable abbrev cr : Stmt := top 14
noncomputable abbrev fh : Stmt := top 15
noncomputable abbrev df : Stmt := top 16
noncomputable abbrev gp : Stmt := top 17
noncomputable abbrev eg : Stmt := top 18
noncomputable abbrev d7 : Stmt := top 22
noncomputable abbrev d9 : Stmt := top 23
noncomputable abbrev ee : Stmt := top 24
noncomputable abbrev cF : Stmt := top 25
noncomputable abbrev c8 : Stmt := top 26
noncomputable abbrev c9 : Stmt := top 27
noncomputable abbrev de : Stmt := top 28
noncomputable abbrev bz : Stmt := top 32
noncomputable abbrev dE : Stmt := top 33
noncomputable abbrev dF : Stmt := top 34
noncomputable abbrev jy : Stmt := top 36
noncomputable abbrev jz : Stmt := top 38
noncomputable abbrev gU : Stmt := top 39
noncomputable abbrev gX : Stmt := top 40
noncomputable abbrev gW : Stmt := top 41
noncomputable abbrev gq : Stmt := top 42
noncomputable abbrev d8 : Stmt := top 43
noncomputable abbrev fP : Stmt := top 44
noncomputable abbrev dsL : List (Str × Stmt) := [(("is_whole" : Str), fg), (("is_point" : Str), fi), (("check_number" : Str), cH), (("are_points" : Str), dG), (("has_rising_x" : Str), cG), (("bend" : Str), lU), (("threes" : Str), gT), (("first_on_line" : Str), cr), (("is_sheet" : Str), fh), (("check_sheet" : Str), df), (("turn_at" : Str), gp), (("all_turns" : Str), eg), (("row_table" : Str), d7), (("cup_table" : Str), d9), (("cap_table" : Str), ee), (("onward_table" : Str), cF), (("longest_row" : Str), c8), (("longest_cup" : Str), c9), (("longest_cap" : Str), de), (("check_two_numbers" : Str), bz), (("has_places" : Str), dE), (("cup_or_cap" : Str), dF), (("lacks" : Str), jy), (("_law_box" : Str), jz), (("_law_take" : Str), gU), (("_law_bend" : Str), gX), (("_law_free" : Str), gW), (("_law_sheet" : Str), gq), (("_law_longest" : Str), d8), (("law" : Str), fP)]
noncomputable abbrev blL : List Str := [("len" : Str), ("range" : Str), ("abs" : Str), ("divmod" : Str), ("enumerate" : Str), ("tuple" : Str), ("isinstance" : Str), ("int" : Str), ("bool" : Str), ("all" : Str), ("str" : Str), ("max" : Str), ("min" : Str), ("list" : Str), ("dict" : Str), ("repr" : Str), ("sorted" : Str), ("set" : Str), ("zip" : Str), ("reversed" : Str)]
noncomputable abbrev ciL : List (Str × Int) := [(("MOST_POINTS" : Str), (24 : Int)), (("UP" : Str), (1 : Int)), (("DOWN" : Str), (-1 : Int)), (("LEAST_PLACES" : Str), (2 : Int)), (("MOST_PLACES" : Str), (9 : Int))]
noncomputable abbrev csL : List (Str × Str) := []
noncomputable def vB (K : FG) : List (Option mH) × List (Option (Option Value)) × List (Option Int) × List (Option Str) := (dsL.map (fun p => oe K p.1), blL.map (PySem.W.nsIn K mainGlobals), ciL.map (fun p => ml K p.1), csL.map (fun p => sQ K p.1))
noncomputable def qx : List (Option mH) × List (Option (Option Value)) × List (Option Int) × List (Option Str) := (dsL.map (fun p => kz p.1 p.2), blL.map (fun _ => some none), ciL.map (fun p => some p.2), csL.map (fun p => some p.2))
theorem okL : PySem.Challenge.rw_bentrows_k42_what_sheets_lack.wellSaid = true := qY (by kernel_rfl)
noncomputable abbrev loL : List Str := [("BentError" : Str), ("NoSheet" : Str), ("NoNumber" : Str), ("is_whole" : Str), ("is_point" : Str), ("check_number" : Str), ("MOST_POINTS" : Str), ("are_points" : Str), ("has_rising_x" : Str), ("bend" : Str), ("threes" : Str), ("first_on_line" : Str), ("is_sheet" : Str), ("check_sheet" : Str), ("turn_at" : Str), ("all_turns" : Str), ("UP" : Str), ("DOWN" : Str), ("row_table" : Str), ("cup_table" : Str), ("cap_table" : Str), ("onward_table" : Str), ("longest_row" : Str), ("longest_cup" : Str), ("longest_cap" : Str), ("LEAST_PLACES" : Str), ("MOST_PLACES" : Str), ("check_two_numbers" : Str), ("has_places" : Str), ("cup_or_cap" : Str), ("lacks" : Str), ("_law_box" : Str), ("_law_take" : Str), ("_law_bend" : Str), ("_law_free" : Str), ("_law_sheet" : Str), ("_law_longest" : Str)]
noncomputable abbrev viL : Program := PySem.W.view PySem.Challenge.rw_bentrows_k42_what_sheets_lack.row.prog [44]
theorem leftL : PySem.W.LeftO PySem.Challenge.rw_bentrows_k42_what_sheets_lack.row.prog viL loL (fun s => PySem.W.recOk (PySem.W.RowW.records PySem.Challenge.rw_bentrows_k42_what_sheets_lack.row.toRowW) s) (fun s => vB (uD s.heap)) (fun _ => qx) 40000 :=
  rP (m := 11) (ann := some (.ref 6)) (by kernel_rfl) rfl (fun _ => rfl) (fun w => by kernel_rfl) (fun w os => by kernel_rfl)
end Bn
end
section
namespace L2
open PySem PySem.Spec PyProof.Rows
noncomputable abbrev Key:=Sum Int Str
noncomputable def lD:Key->Value->Bool
  | .inl k,v=>Value.isInt k v
  | .inr x,v=>Value.isStrOf x v
noncomputable def keyH (w:World):Key->Int
  | .inl k=>hashInt k
  | .inr x=>hashStr w x
theorem bo:∀ {k:Key} {v:Value},lD k v=true->(∃ i t,k=Sum.inl i/\v=Value.int i t)\/(∃ x t,k=Sum.inr x/\v=Value.str x t)
  | .inl i,v,h=>by
    obtain ⟨t,e⟩:=Value.isInt_shape (k:=i) (v:=v) h
    exact .inl ⟨i,t,rfl,e⟩
  | .inr x,v,h=>by
    obtain ⟨t,e⟩:=Value.isStrOf_shape (x:=x) (v:=v) h
    exact .inr ⟨x,t,rfl,e⟩
theorem rT (i:Int) (t:Tok):lD (.inl i) (.int i t)=true:=by simp [lD,Value.isInt]
theorem rS (x:Str) (t:Tok):lD (.inr x) (.str x t)=true:=by simp [lD,Value.isStrOf]
theorem zx (a b:Int):decide ((Sum.inl a:Key)=Sum.inl b)=(a == b):=by
  by_cases e:a=b
  · subst e;simp
  · have h:¬ (Sum.inl a:Key)=Sum.inl b:=fun q=>e (Sum.inl.inj q)
    rw [Ap h]
    exact (beq_eq_false_iff_ne.mpr e).symm
theorem zu (a b:Str):decide ((Sum.inr a:Key)=Sum.inr b)=decide (a=b):=by
  by_cases e:a=b
  · subst e;simp
  · have h:¬ (Sum.inr a:Key)=Sum.inr b:=fun q=>e (Sum.inr.inj q)
    rw [Ap h,Ap e]
theorem zw (a:Int) (b:Str):decide ((Sum.inl a:Key)=Sum.inr b)=false:=Ap (fun q=>nomatch q)
theorem zv (a:Str) (b:Int):decide ((Sum.inr a:Key)=Sum.inl b)=false:=Ap (fun q=>nomatch q)
noncomputable def bH (prog:Program) (w:World):PySem.KeyKind prog w Key where
  is:=lD
  hash:=keyH w
  inj:=fun v a b ha hb=>by
    rcases bo ha with ⟨i,t,rfl,rfl⟩ | ⟨x,t,rfl,rfl⟩
    · rcases bo hb with ⟨j,u,rfl,e⟩ | ⟨y,u,rfl,e⟩
      · injection e with e1 _;rw [e1]
      · exact nomatch e
    · rcases bo hb with ⟨j,u,rfl,e⟩ | ⟨y,u,rfl,e⟩
      · exact nomatch e
      · injection e with e1 _;rw [e1]
  byValue:=fun k v h=>by
    rcases bo h with ⟨i,t,rfl,rfl⟩ | ⟨x,t,rfl,rfl⟩ <;> rfl
  pyHash:=fun hv h=>by
    rcases bo hv with ⟨i,t,rfl,rfl⟩ | ⟨x,t,rfl,rfl⟩
    · exact wpAny_pyHash_int h
    · exact wpAny_pyHash_str h
  eqBool:=fun hu hv h=>by
    rcases bo hu with ⟨i,t,rfl,rfl⟩ | ⟨x,t,rfl,rfl⟩
    · rcases bo hv with ⟨j,u,rfl,rfl⟩ | ⟨y,u,rfl,rfl⟩
      · rw [zx] at h;exact wpAny_eqBool_int h
      · rw [zw] at h;exact SeqAt.EqAt.int_str i t y u _ _ _ _ h
    · rcases bo hv with ⟨j,u,rfl,rfl⟩ | ⟨y,u,rfl,rfl⟩
      · rw [zv] at h;exact SeqAt.EqAt.str_int x t j u _ _ _ _ h
      · rw [zu] at h;exact wpAny_eqBool_str h
  «strs»:=fun k x t v h=>by
    rcases bo h with ⟨i,u,rfl,e⟩ | ⟨y,u,rfl,e⟩
    · exact nomatch e
    · injection e with e1 _
      subst e1
      cases v <;> rfl
theorem nG (prog:Program) (w:World) (i:Int) (t:Tok):(bH prog w).is (.inl i) (.int i t)=true:=rT i t
theorem nF (prog:Program) (w:World) (x:Str) (t:Tok):(bH prog w).is (.inr x) (.str x t)=true:=rS x t
end L2
namespace L2
open PySem PySem.Spec PyProof.Rows
inductive V where
  | non | bl (b:Bool) | int (i:Int) | str (x:Str) | byt (b:Array UInt8) | flt (b:UInt64) | ref (a:Addr) | ty (n:String)
  deriving DecidableEq
noncomputable def RelV:V->Value->Prop
  | .non,u=>u=Value.none
  | .bl b,u=>u=Value.bool b
  | .int i,u=>∃ t,u=Value.int i t
  | .str x,u=>∃ t,u=Value.str x t
  | .byt b,u=>∃ t,u=Value.bytes b t
  | .flt b,u=>∃ t,u=Value.float b t
  | .ref a,u=>u=Value.ref a
  | .ty n,u=>u=Value.type n
noncomputable abbrev Vals:List V->List Value->Prop:=Paired RelV
theorem Vals.length {xs:List V} {us:List Value} (r:Vals xs us):xs.length=us.length:=Paired.length r
theorem Vals.get:∀ {xs:List V} {us:List Value} {i:Nat} {x:V},Vals xs us->xs[i]?=some x->∃ u,us[i]?=some u/\RelV x u
  | _,_,_,_,.nil,e=>by simp at e
  | _,_,0,_,.cons r _,e=>by simp at e;subst e;exact ⟨_,rfl,r⟩
  | _,_,i+1,x,.cons _ t,e=>by
    obtain ⟨u,h1,h2⟩:=Vals.get (i:=i) (x:=x) t (by simpa using e)
    exact ⟨u,by simpa using h1,h2⟩
theorem Vals.set {x:V} {u:Value} (r:RelV x u):∀ {xs:List V} {us:List Value} (i:Nat),Vals xs us->Vals (xs.set i x) (us.set i u)
  | _,_,_,.nil=>.nil
  | _,_,0,.cons _ t=>.cons r t
  | _,_,i+1,.cons q t=>.cons q (Vals.set r i t)
theorem Vals.append:∀ {xs ys:List V} {us ws:List Value},Vals xs us->Vals ys ws->Vals (xs ++ ys) (us ++ ws)
  | _,_,_,_,.nil,s=>s
  | _,_,_,_,.cons r t,s=>.cons r (Vals.append t s)
theorem Vals.take:∀ {xs:List V} {us:List Value} (n:Nat),Vals xs us->Vals (xs.take n) (us.take n)
  | _,_,0,_=>.nil
  | _,_,_+1,.nil=>.nil
  | _,_,n+1,.cons r t=>.cons r (Vals.take n t)
theorem Vals.drop:∀ {xs:List V} {us:List Value} (n:Nat),Vals xs us->Vals (xs.drop n) (us.drop n)
  | _,_,0,r=>r
  | _,_,_+1,.nil=>.nil
  | _,_,n+1,.cons _ t=>Vals.drop n t
noncomputable def RelO:Option V->Option Value->Prop
  | some v,some u=>RelV v u
  | none,none=>True
  | _,_=>False
noncomputable def KV {κ:Type}:List (κ × V)->List (κ × Value)->Prop:=Paired fun (p:κ × V) (q:κ × Value)=>p.1=q.1/\RelV p.2 q.2
noncomputable def kV:Key->V
  | .inl i=>.int i
  | .inr x=>.str x
inductive HO where
  | lst (xs:List V)
  | tup (xs:List V)
  | dK (kvs:List (Key × V)) | dT (kvs:List (List Key × V))
  | set (S:Int->Bool) (n:Nat)
  | ins (C dx:Addr) (fs:List (Str × V))
  | own (x:Addr)
  | xd (fs:List (Str × V))
  | met (f x:Addr)
  | rng (lo hi:Int)
  | frz (o:Obj) (u:HO)
  | tbl (ps:Array Value)
  | ext (φ:Heap->Prop)
noncomputable abbrev Hp:=Addr->Option HO
noncomputable def upd (H:Hp) (a:Addr) (o:HO):Hp:=fun b=>if b=a then some o else H b
theorem bc {H:Hp} {a:Addr} {o:HO}:upd H a o a=some o:=by unfold upd;rw [if_pos rfl]
theorem aJ {H:Hp} {a b:Addr} {o:HO} (h:b ≠ a):upd H a o b=H b:=by unfold upd;rw [if_neg h]
theorem ne_of {H:Hp} {a b:Addr} {o u:HO} (h:H a=some o) (h':H b=some u) (d:o ≠ u):a ≠ b:=by
  intro e;subst e;rw [h] at h';exact d (AL h')
theorem bd {H:Hp} {a b:Addr} {o:HO} (h:H a=some o) (h':H b=none):a ≠ b:=by
  intro e;subst e;rw [h] at h';cases h'
noncomputable def DictOfE {prog:Program} {w:World} {κ:Type} [DecidableEq κ] (knd:KeyKind prog w κ) (h:Heap) (a:Addr) (kvs:List (κ × Value)):Prop :=
  ∃ o es ep,h.get? a=some o/\o.ExactDict/\o.data=.dict es ep/\KeysOf knd es/\Pairs knd es.toList kvs/\(kvs.map (·.1)).Nodup/\ep=es.size
theorem DictOfE.of {prog:Program} {w:World} {κ:Type} [DecidableEq κ] {knd:KeyKind prog w κ} {h:Heap} {a:Addr} {kvs:List (κ × Value)} (x:DictOfE knd h a kvs):h.DictOf knd a kvs:=let ⟨o,es,ep,h1,h2,h3,h4,h5,h6,_⟩:=x;⟨o,es,ep,h1,h2,h3,h4,h5,h6⟩
noncomputable def IsTupD (h:Heap) (a:Addr) (items:Array Value):Prop:=∃ o,h.get? a=some o/\o.cls=.type "tuple"/\∃ n,(o.data,o.dict)=(Data.seq items n,none)
theorem IsTupD.tup {h:Heap} {a:Addr} {items:Array Value} (x:IsTupD h a items):IsTup h a items:=let ⟨o,e,c,n,d⟩:=x;⟨o,e,c,n,congrArg Prod.fst d⟩
theorem IsTupD.lt {h:Heap} {a:Addr} {items:Array Value} (x:IsTupD h a items):a < h.objs.size:=x.tup.lt
theorem IsTupD.new (h:Heap) (items:Array Value):IsTupD (h.push { cls:=.type "tuple",data:=.seq items }) h.objs.size items:=⟨_,Ac h rfl,rfl,_,rfl⟩
section
variable (P:Program) (w:World)
noncomputable def ObjOk (H:Hp) (h:Heap) (a:Addr):HO->Prop
  | .lst xs=>xs.length<=sizeLine/\∃ (its:List Value) (n:Nat),Vals xs its/\h.get? a=some { cls:=.type "list",data:=.seq its.toArray n }
  | .tup xs=>xs.length<=sizeLine/\∃ its:List Value,Vals xs its/\IsTupD h a its.toArray
  | .dK kvs=>kvs.length<=sizeLine/\(a == sysModules)=false/\∃ vs,KV kvs vs/\DictOfE (bH P w) h a vs
  | .dT kvs=>kvs.length<=sizeLine/\(a == sysModules)=false/\∃ xs:List (List Key × Addr × Value),
      Paired (fun (p:List Key × V) (q:List Key × Addr × Value)=>p.1=q.1/\H q.2.1=some (.tup (p.1.map kV))/\RelV p.2 q.2.2) kvs xs /\
      ∃ o es ep,h.get? a=some o/\o.ExactDict/\o.data=.dict es ep/\es.toList=xs.map (entryOfKey (tupleKind (bH P w)))/\(xs.map (·.1)).Nodup/\ep=es.size
  | .set S n=>h.SetOf (intKind P w) a S n
  | .ins C dx fs=>H dx=some (.own a)/\fs.length<=1000/\dx ≠ a/\h.get? a=some (PySem.W.instObj C dx) /\
      ∃ mA,h.Ns1 dx mA/\(∀ f,RelO (fs.lookup f) (mA f))/\PySem.Within mA (fs.map (·.1))
  | .own _=>∃ o,h.get? a=some o
  | .xd fs=>∃ mA,h.Ns1 a mA/\∀ f,RelO (fs.lookup f) (mA f)
  | .rng lo hi=>∃ t u v,h.get? a=some { cls:=.type "range",data:=.fields #[.int lo t,.int hi u,.int 1 v] }
  | .frz o u=>h.get? a=some o/\ObjOk H h a u
  | .tbl ps=>h.get? a=some { cls:=.none,data:=.fields ps }
  | .met f x=>h.get? a=some (PySem.W.methodObj (.ref f) (.ref x))
  | .ext φ=>φ h/\(∃ o,h.get? a=some o)/\∀ h1 h2:Heap,φ h1->(∀ o,h1.get? a=some o->h2.get? a=some o)->φ h2
noncomputable def HOk (H:Hp) (h:Heap):Prop:=∀ a o,H a=some o->ObjOk P w H h a o
end
section
variable {P:Program} {w:World} {H H':Hp} {h h':Heap} {a:Addr} {o:HO}
theorem ObjOk.lt (x:ObjOk P w H h a o):a < h.objs.size:=by
  cases o with
  | lst xs=>obtain ⟨_,_,_,_,e⟩:=x;exact Aa e
  | tup xs=>obtain ⟨_,_,_,p⟩:=x;exact p.lt
  | dK kvs=>obtain ⟨_,_,_,_,o,_,_,e,_⟩:=x;exact Aa e
  | dT kvs=>obtain ⟨_,_,_,_,o,_,_,e,_⟩:=x;exact Aa e
  | set S n=>obtain ⟨o,_,_,_,e,_⟩:=x;exact Aa e
  | ins C dx fs=>obtain ⟨_,_,_,e,_⟩:=x;exact Aa e
  | own y=>obtain ⟨_,e⟩:=x;exact Aa e
  | xd fs=>obtain ⟨_,⟨_,_,_,e,_⟩,_⟩:=x;exact Aa e
  | rng lo hi=>obtain ⟨_,_,_,e⟩:=x;exact Aa e
  | frz ob u=>obtain ⟨e,_⟩:=x;exact Aa e
  | tbl ps=>exact Aa (show h.get? a=some _ from x)
  | met f y=>exact Aa (show h.get? a=some _ from x)
  | ext φ=>obtain ⟨_,⟨_,e⟩,_⟩:=x;exact Aa e
theorem Paired.mapP {α β:Type} {F G:α->β->Prop}:∀ {l₁:List α} {l₂:List β},Paired F l₁ l₂->(∀ a b,F a b->G a b)->Paired G l₁ l₂
  | _,_,.nil,_=>.nil
  | _,_,.cons r t,f=>.cons (f _ _ r) (Paired.mapP t f)
theorem ObjOk.stay (x:ObjOk P w H h a o) (k:∀ b u,(b=a\/H b=some (.own a))->h.get? b=some u->h'.get? b=some u)
    (ho:∀ b,H b=some (.own a)->H' b=some (.own a)) (ht:∀ b xs,H b=some (.tup xs)->H' b=some (.tup xs)):ObjOk P w H' h' a o:=by
  induction o with
  | lst xs=>obtain ⟨z,its,n,r,e⟩:=x;exact ⟨z,its,n,r,k _ _ (.inl rfl) e⟩
  | tup xs=>obtain ⟨z,its,r,ob,e,c⟩:=x;exact ⟨z,its,r,ob,k _ _ (.inl rfl) e,c⟩
  | dK kvs=>obtain ⟨z,y,vs,r,ob,es,ep,e,c⟩:=x;exact ⟨z,y,vs,r,ob,es,ep,k _ _ (.inl rfl) e,c⟩
  | dT kvs =>
    obtain ⟨z,y,xs,r,ob,es,ep,e,c⟩:=x
    exact ⟨z,y,xs,Paired.mapP r fun p q z=>⟨z.1,ht _ _ z.2.1,z.2.2⟩,ob,es,ep,k _ _ (.inl rfl) e,c⟩
  | set S n=>obtain ⟨ob,es,ep,t,e,c⟩:=x;exact ⟨ob,es,ep,t,k _ _ (.inl rfl) e,c⟩
  | ins C dx fs =>
    obtain ⟨d,z,ne,e,mA,⟨od,es,ep,e2,c⟩,r⟩:=x
    exact ⟨ho _ d,z,ne,k _ _ (.inl rfl) e,mA,⟨od,es,ep,k _ _ (.inr d) e2,c⟩,r⟩
  | own y=>obtain ⟨ob,e⟩:=x;exact ⟨ob,k _ _ (.inl rfl) e⟩
  | xd fs=>obtain ⟨mA,⟨od,es,ep,e,c⟩,r⟩:=x;exact ⟨mA,⟨od,es,ep,k _ _ (.inl rfl) e,c⟩,r⟩
  | rng lo hi=>obtain ⟨t,u,v,e⟩:=x;exact ⟨t,u,v,k _ _ (.inl rfl) e⟩
  | frz ob u ih=>obtain ⟨e,q⟩:=x;exact ⟨k _ _ (.inl rfl) e,ih q⟩
  | tbl ps =>
    have e:h.get? a=some { cls:=.none,data:=.fields ps }:=x
    show h'.get? a=some { cls:=.none,data:=.fields ps }
    exact k a _ (.inl rfl) e
  | met f y =>
    have e:h.get? a=some (PySem.W.methodObj (.ref f) (.ref y)):=x
    show h'.get? a=some (PySem.W.methodObj (.ref f) (.ref y))
    exact k a _ (.inl rfl) e
  | ext φ=>obtain ⟨p,⟨o,e⟩,st⟩:=x;exact ⟨st _ _ p fun o q=>k _ _ (.inl rfl) q,⟨o,k _ _ (.inl rfl) e⟩,st⟩
theorem HOk.lt (x:HOk P w H h) (e:H a=some o):a < h.objs.size:=(x a o e).lt
theorem HOk.fresh (x:HOk P w H h) (e:h.objs.size<=a):H a=none:=by
  cases q:H a with
  | none=>rfl
  | some u=>exact absurd (Aq (x.lt q) e) (Nat.lt_irrefl _)
theorem HOk.kept (x:HOk P w H h) (k:∀ b u,h.get? b=some u->h'.get? b=some u):HOk P w H h':=fun a o e =>
  (x a o e).stay (fun b u _ q=>k b u q) (fun _ q=>q) fun _ _ q=>q
theorem HOk.laid (x:HOk P w H h) (k:∀ b u,h.get? b=some u->h'.get? b=some u) (hp:h.objs.size<=a) (new:ObjOk P w (upd H a o) h' a o):HOk P w (upd H a o) h':=fun b u e=>by
  have hn:=x.fresh hp
  by_cases hb:b=a
  · subst hb;rw [bc] at e;cases e;exact new
  · rw [aJ hb] at e
    exact (x b u e).stay (fun c v _ q=>k c v q) (fun c q=>by rw [aJ (bd q hn)];exact q) fun c xs q=>by rw [aJ (bd q hn)];exact q
end
noncomputable def Rd (H:Hp) (a:Addr) (u:HO):Prop:=H a=some u\/∃ o,H a=some (.frz o u)
theorem Rd.ok {P:Program} {w:World} {H:Hp} {h:Heap} {a:Addr} {u:HO} (r:Rd H a u) (x:HOk P w H h):ObjOk P w H h a u:=by
  rcases r with r | ⟨o,r⟩
  · exact x a u r
  · obtain ⟨_,q⟩:=x a _ r
    exact q
noncomputable def Mut:Option HO->Prop
  | some (.lst _)=>True
  | some (.dK _)=>True
  | some (.dT _)=>True
  | some (.set _ _)=>True
  | some (.ins _ _ _)=>True
  | some (.ext _)=>True
  | _=>False
section
variable {P:Program} {w:World} {H:Hp} {h h':Heap} {x e:Addr} {o':HO}
theorem HOk.write (ok:HOk P w H h) (mu:Mut (H x)) (he:e=x\/H e=some (.own x)) (k:∀ b u,b ≠ e->h.get? b=some u->h'.get? b=some u) (heo:∃ u,h'.get? e=some u)
    (new:ObjOk P w (upd H x o') h' x o'):HOk P w (upd H x o') h':=fun b u q=>by
  have nown:∀ c y,H c=some (.own y)->c ≠ x:=fun c y r z=>by subst z;rw [r] at mu;exact mu
  have ntup:∀ c xs,H c=some (.tup xs)->c ≠ x:=fun c xs r z=>by subst z;rw [r] at mu;exact mu
  by_cases hb:b=x
  · subst hb;rw [bc] at q;cases q;exact new
  · rw [aJ hb] at q
    by_cases hbe:b=e
    · have q':H b=some (.own x):=by
        rcases he with z | z
        · exact absurd (hbe.trans z) hb
        · rw [hbe];exact z
      rw [q] at q';cases q'
      obtain ⟨v,hv⟩:=heo
      exact ⟨v,by rw [hbe];exact hv⟩
    · refine (ok b u q).stay (fun c v hc r=>k c v ?_ r) (fun c r=>by rw [aJ (nown c b r)];exact r) fun c xs r=>by rw [aJ (ntup c xs r)];exact r
      rcases hc with rfl | hc
      · exact hbe
      · rintro rfl
        rcases he with z | z
        · exact nown c b hc z
        · rw [hc] at z;cases z;exact hb rfl
end
structure Un (fs ex:List Addr) (H H':Hp) (h h':Heap):Prop where
  keep:∀ b o,h.get? b=some o->H b=none->b ∉ fs->b ∉ ex->h'.get? b=some o
  slot:∀ b o,h.get? b=some o->H b=none->b ∈ fs->b ∉ ex->∃ sl,h'.get? b=some { o with slots:=sl }
  free:∀ b o,h.get? b=some o->H b=none->b ∉ ex->H' b=none
  there:∀ b o,h.get? b=some o->b ∉ ex->∃ o',h'.get? b=some o'
  tups:∀ b xs,H b=some (.tup xs)->H' b=some (.tup xs)
  frzs:∀ b o u,H b=some (.frz o u)->H' b=some (.frz o u)
  tbls:∀ b ps,H b=some (.tbl ps)->∃ more,H' b=some (.tbl (ps ++ more))
section
variable {fs fs' ex ex':List Addr} {H H1 H2:Hp} {h h1 h2 h':Heap} {a x e:Addr} {o:HO}
theorem Un.any (u:Un fs ex H H1 h h1) {b:Addr} {ob:Obj} (q:h.get? b=some ob) (n:H b=none) (hx:b ∉ ex):∃ sl,h1.get? b=some { ob with slots:=sl }:=by
  by_cases hb:b ∈ fs
  · exact u.slot b ob q n hb hx
  · exact ⟨ob.slots,u.keep b ob q n hb hx⟩
theorem Un.trans (a:Un fs ex H H1 h h1) (b:Un fs ex H1 H2 h1 h2):Un fs ex H H2 h h2 where
  keep:=fun c ob q n hc hx=>b.keep c ob (a.keep c ob q n hc hx) (a.free c ob q n hx) hc hx
  slot:=fun c ob q n hc hx=>by
    obtain ⟨sl,e1⟩:=a.slot c ob q n hc hx
    obtain ⟨sl',e2⟩:=b.slot c _ e1 (a.free c ob q n hx) hc hx
    exact ⟨sl',e2⟩
  free:=fun c ob q n hx=>by
    obtain ⟨o',e1⟩:=a.there c ob q hx
    exact b.free c o' e1 (a.free c ob q n hx) hx
  there:=fun c ob q hx=>by
    obtain ⟨o',e1⟩:=a.there c ob q hx
    exact b.there c o' e1 hx
  tups:=fun c xs q=>b.tups c xs (a.tups c xs q)
  frzs:=fun c ob xs q=>b.frzs c ob xs (a.frzs c ob xs q)
  tbls:=fun c ps q=>by
    obtain ⟨m1,e1⟩:=a.tbls c ps q
    obtain ⟨m2,e2⟩:=b.tbls c _ e1
    exact ⟨m1 ++ m2,by rw [e2,Array.append_assoc]⟩
theorem Un.kept (k:∀ b u,h.get? b=some u->h'.get? b=some u):Un fs ex H H h h' :=
  ⟨fun b ob q _ _ _=>k b ob q,fun b ob q _ _ _=>⟨ob.slots,k b ob q⟩,fun _ _ _ n _=>n,fun b ob q _=>⟨ob,k b ob q⟩,fun _ _ q=>q,fun _ _ _ q=>q,fun _ ps q=>⟨#[],by rw [q];simp⟩⟩
theorem Un.refl:Un fs ex H H h h:=Un.kept fun _ _ q=>q
theorem Un.laid (k:∀ b u,h.get? b=some u->h'.get? b=some u) (hp:h.objs.size<=a) (hn:H a=none):Un fs ex H (upd H a o) h h' where
  keep:=fun b u q _ _ _=>k b u q
  slot:=fun b u q _ _ _=>⟨u.slots,k b u q⟩
  free:=fun b u q n _=>by rw [aJ (Al (Aq (Aa q) hp))];exact n
  there:=fun b u q _=>⟨u,k b u q⟩
  tups:=fun b xs q=>by rw [aJ (bd q hn)];exact q
  frzs:=fun b u xs q=>by rw [aJ (bd q hn)];exact q
  tbls:=fun b ps q=>⟨#[],by rw [aJ (bd q hn),q];simp⟩
theorem Un.write (mu:Mut (H x)) (he:e=x\/H e=some (.own x)) (k:∀ b u,b ≠ e->h.get? b=some u->h'.get? b=some u) (heo:∃ u,h'.get? e=some u):Un fs ex H (upd H x o) h h':=by
  have hx:∀ b,H b=none->b ≠ x:=fun b n z=>by subst z;rw [n] at mu;exact mu
  have hb:∀ b,H b=none->b ≠ e:=fun b n z=>by
    subst z
    rcases he with r | r
    · exact hx b n r
    · rw [n] at r;cases r
  have hm:∀ b u,H b=some u->¬ Mut (some u)->b ≠ x:=fun b u q nm z=>by subst z;rw [q] at mu;exact nm mu
  refine ⟨fun b u q n _ _=>k b u (hb b n) q,fun b u q n _ _=>⟨u.slots,k b u (hb b n) q⟩,fun b u q n _=>by rw [aJ (hx b n)];exact n,fun b u q _=>?_,
    fun b xs q=>by rw [aJ (hm b _ q fun z=>z)];exact q,fun b u xs q=>by rw [aJ (hm b _ q fun z=>z)];exact q,fun b ps q=>⟨#[],by rw [aJ (hm b _ q fun z=>z),q];simp⟩⟩
  by_cases hbe:b=e
  · subst hbe;exact heo
  · exact ⟨u,k b u hbe q⟩
end
noncomputable def trk (h:Heap) (H:Hp):List Addr:=(List.range h.objs.size).filter fun a=>(H a).isSome
noncomputable def mo (h:Heap) (H:Hp):Heap:=PySem.W.hideAll h (trk h H)
theorem rX (h:Heap) (H:Hp):(mo h H).objs.size=h.objs.size:=PySem.W.hideAll_size _ _
theorem uC {h:Heap} {H:Hp} {b:Addr} {o:Obj} (e:h.get? b=some o) (n:H b=none):(mo h H).get? b=some o :=
  PySem.W.hideAll_get _ e fun hm=>by
    have q:(H b).isSome=true:=(AB.mp hm).2
    rw [n] at q;simp at q
theorem wu {h:Heap} {H:Hp} {b:Addr} {o:Obj} (e:(mo h H).get? b=some o):h.get? b=some o/\H b=none:=by
  have e':h.get? b=some o:=PySem.W.of_hideAll (trk h H) e
  refine ⟨e',?_⟩
  cases q:H b with
  | none=>rfl
  | some x =>
    have hm:b ∈ trk h H:=AB.mpr ⟨List.mem_range.mpr (Aa e'),by simp [q]⟩
    have z:(mo h H).get? b=none:=PySem.W.hideAll_none (trk h H) hm
    rw [z] at e;cases e
noncomputable def xp (g h:Heap) (L:Addr):List (Addr × Obj):=(List.range h.objs.size).filterMap fun a=>if a=L\/(g.get? a).isSome=true then none else (h.get? a).map fun o=>(a,o)
noncomputable def fT (g h:Heap) (L d:Addr):List (Addr × Obj):=(xp g h L).filter fun p=>decide (p.1 ≠ d)
end L2
namespace L2
open PySem PySem.Spec PyProof.Rows
structure Mod (K:FG) (mg:Str->Option Value) (base:Heap):Prop where
  kin:K.In base
  glob:base.Ns mainGlobals mg
  blt:∃ mb,base.Ns builtinsNs mb/\∀ x:Str,x ≠ "__name__"->mb x=bootBuiltins x
  nolimit:base.NoLimit
structure Cx where
  prog:Program
  w:World
  K:FG
  mg:Str->Option Value
  base:Heap
  A:Around
  N:List Str
  s₀:Shared
  H₀:Hp
  env:Env
  outer:List Env
  stack:List Env
  ex:List Addr
  fn:Str->Bool
  calm:Bool
  pn:List (Addr × Obj)
  xe:Value->Shared->Prop
noncomputable def frs (l:List Env):List Addr:=l.filterMap (·.frame)
noncomputable abbrev Cx.fs (X:Cx):List Addr:=frs X.outer
noncomputable def Vis (sc:Scope) (x:Str):Prop:=sc.names.lookup x=some .local\/sc.names.lookup x=some .cell\/sc.names.lookup x=some .free
noncomputable def Loc (sc:Scope) (x:Str):Prop:=sc.names.lookup x=some .local\/sc.names.lookup x=some .cell
noncomputable def Look (env:Env) (h:Heap) (m:Str->Option Value) (x:Str) (u:Value):Prop :=
  (env.kindOf x=some .local/\m x=some u)\/((env.kindOf x=some .cell\/env.kindOf x=some .free)/\∃ c,env.cells.lookup x=some c/\h.IsCell c (some u))
structure Cx.Ok (X:Cx):Prop where
  mod:Mod X.K X.mg X.base
  kind:X.env.scope.kind=.function
  glob:X.env.globals=mainGlobals
  blt:X.env.builtins=builtinsNs
  above:X.s₀.heap.objs.size<=X.env.locals
  inj:∀ x y c,X.env.cells.lookup x=some c->X.env.cells.lookup y=some c->x=y
  has:∀ x,(X.env.kindOf x=some .cell\/X.env.kindOf x=some .free)->∃ c,X.env.cells.lookup x=some c
  cab:∀ x c,X.fn x=true->X.env.cells.lookup x=some c->X.s₀.heap.objs.size<=c
  hd:X.calm=true->X.A.handled=none
  frames:X.A.frames=some X.stack
  stk:X.stack=X.outer\/(X.stack=X.env :: X.outer/\X.env.frame=some X.env.locals)
  exf:∀ b ∈ X.ex,b ≠ X.env.locals/\∀ x c,X.env.cells.lookup x=some c->c ≠ b
  bs:∀ b o,X.base.get? b=some o->X.s₀.heap.get? b=some o/\X.H₀ b=none
  bsz:X.base.objs.size<=X.s₀.heap.objs.size
  noex:∀ b o,X.base.get? b=some o->b ∉ X.ex
  exfs:∀ b ∈ X.ex,b ∉ X.fs
  funs:X.s₀.heap.FunFrames X.base X.outer
  frf:∀ b ∈ X.fs,X.H₀ b=none
structure Inv (X:Cx) (pins:List (Addr × Obj)) (σ:List (Option V)) (H:Hp) (s:Shared):Prop where
  ok:X.Ok
  os:s.os=X.s₀.os
  bare:AllBare s.gens
  base:Un X.fs X.ex X.H₀ H X.s₀.heap s.heap
  loc:∃ m,s.heap.Ns X.env.locals m/\∀ (i:Nat) (x:Str) (v:V),X.N[i]?=some x->σ[i]?=some (some v)->Vis X.env.scope x->∃ u,RelV v u/\Look X.env s.heap m x u
  cell:∀ x c,X.env.cells.lookup x=some c->∃ v,s.heap.IsCell c v
  free:H X.env.locals=none
  freeC:∀ x c,X.env.cells.lookup x=some c->H c=none
  pin:∀ p ∈ X.pn ++ pins,s.heap.get? p.1=some p.2/\H p.1=none/\p.1 ≠ X.env.locals/\p.1 ∉ X.fs/\∀ v,p.2.data ≠ .cell v
  hok:HOk X.prog X.w H s.heap
  len:σ.length=X.N.length
section
variable {X:Cx} {pins:List (Addr × Obj)} {σ:List (Option V)} {H H':Hp} {s:Shared} {h':Heap}
theorem Cx.Ok.nofr (ok:X.Ok) {b:Addr} {o:Obj} (e:X.base.get? b=some o):b ∉ X.fs:=fun hb=>by
  have:=(ok.funs.mem hb).1
  rw [e] at this;cases this
theorem Inv.bs (I:Inv X pins σ H s):∀ b o,X.base.get? b=some o->s.heap.get? b=some o/\H b=none:=fun b o e =>
  ⟨I.base.keep b o (I.ok.bs b o e).1 (I.ok.bs b o e).2 (I.ok.nofr e) (I.ok.noex b o e),I.base.free b o (I.ok.bs b o e).1 (I.ok.bs b o e).2 (I.ok.noex b o e)⟩
theorem Inv.bk (I:Inv X pins σ H s):∀ b o,X.base.get? b=some o->s.heap.get? b=some o:=fun b o e=>(I.bs b o e).1
theorem Inv.mod (I:Inv X pins σ H s):Mod X.K X.mg X.base:=I.ok.mod
theorem Inv.kIn (I:Inv X pins σ H s):X.K.In s.heap:=I.ok.mod.kin.keeps I.bk
theorem Inv.lt (I:Inv X pins σ H s):X.env.locals < s.heap.objs.size:=let ⟨_,hn,_⟩:=I.loc;hn.lt
theorem Inv.sz (I:Inv X pins σ H s):X.s₀.heap.objs.size<=s.heap.objs.size:=AG I.ok.above (Nat.le_of_lt I.lt)
theorem Inv.nofs (I:Inv X pins σ H s) {a:Addr} (h:s.heap.objs.size<=a):a ∉ X.fs:=fun hb=>by
  obtain ⟨_,o,ho,_⟩:=I.ok.funs.mem hb
  exact absurd (Aq (Aa ho) (AG I.sz h)) (Nat.lt_irrefl _)
theorem Inv.cne (I:Inv X pins σ H s):∀ x c,X.env.cells.lookup x=some c->c ≠ X.env.locals:=fun x c e z=>by
  obtain ⟨v,o,ho,hd⟩:=I.cell x c e
  obtain ⟨m,⟨o',es,ep,ho',hd',_⟩,_⟩:=I.loc
  rw [z,ho'] at ho;cases ho;rw [hd'] at hd;cases hd
theorem Inv.funs (I:Inv X pins σ H s):s.heap.FunFrames X.base X.outer:=by
  have all:∀ (l:List Env),(∀ b ∈ frs l,b ∈ X.fs)->X.s₀.heap.FunFrames X.base l->s.heap.FunFrames X.base l:=by
    intro l
    induction l with
    | nil=>intro _ _;trivial
    | cons env r ih =>
      intro hs hl
      obtain ⟨hk,⟨L,o,hf,hn,ho,hd⟩,hr⟩:=hl
      have hL:L ∈ X.fs:=hs L (by unfold frs;rw [List.filterMap_cons,hf];exact zY)
      obtain ⟨sl,e⟩:=I.base.slot L o ho (I.ok.frf L hL) hL fun z=>I.ok.exfs L z hL
      exact ⟨hk,⟨L,_,hf,hn,e,hd⟩,ih (fun b hb=>hs b (by unfold frs;rw [List.filterMap_cons,hf];exact zZ _ hb)) hr⟩
  exact all X.outer (fun _ hb=>hb) I.ok.funs
theorem Inv.stack (I:Inv X pins σ H s):s.heap.FunFrames X.base X.stack:=by
  rcases I.ok.stk with e | ⟨e,hf⟩
  · rw [e];exact I.funs
  · rw [e]
    obtain ⟨m,hn,_⟩:=I.loc
    refine .cons (by rw [I.ok.kind];decide) hf hn ?_ I.funs
    exact Heap.get?_none_of_le (AG I.ok.bsz I.ok.above)
theorem Inv.stkSub (I:Inv X pins σ H s):∀ b ∈ frs X.stack,b ∈ X.env.locals :: X.fs:=fun b hb=>by
  rcases I.ok.stk with e | ⟨e,hf⟩
  · rw [e] at hb;exact zZ _ hb
  · rw [e] at hb
    unfold frs at hb
    rw [List.filterMap_cons,hf] at hb
    exact hb
theorem Inv.stkFree (I:Inv X pins σ H s):∀ b ∈ frs X.stack,H b=none:=fun b hb=>by
  rcases z8.mp (I.stkSub b hb) with e | hb
  · rw [e];exact I.free
  · obtain ⟨_,o,ho,_⟩:=I.ok.funs.mem hb
    exact I.base.free b o ho (I.ok.frf b hb) fun z=>I.ok.exfs b z hb
theorem Inv.step {g':Array GenState} {t':Nat} {d':Drawn} {ch:List Addr} (I:Inv X pins σ H s)
    (hch:∀ b ∈ ch,(b ∈ X.ex\/X.s₀.heap.objs.size<=b)/\b ≠ X.env.locals/\(∀ x c,X.env.cells.lookup x=some c->c ≠ b)/\∀ p ∈ X.pn ++ pins,p.1 ≠ b)
    (keep:∀ b o,b ≠ X.env.locals->b ∉ X.fs->b ∉ ch->s.heap.get? b=some o->H b=none->h'.get? b=some o)
    (slot:∀ b o,b ≠ X.env.locals->b ∈ X.fs->b ∉ ch->s.heap.get? b=some o->H b=none->∃ sl,h'.get? b=some { o with slots:=sl }) (free:∀ b o,b ∉ ch->s.heap.get? b=some o->H b=none->H' b=none)
    (there:∀ b o,b ∉ ch->s.heap.get? b=some o->∃ o',h'.get? b=some o')
    (tups:∀ b xs,H b=some (.tup xs)->H' b=some (.tup xs)) (frzs:∀ b o u,H b=some (.frz o u)->H' b=some (.frz o u)) (tbls:∀ b ps,H b=some (.tbl ps)->∃ more,H' b=some (.tbl (ps ++ more)))
    (ns:∀ m,s.heap.Ns X.env.locals m->h'.Ns X.env.locals m) (hok:HOk X.prog X.w H' h') (hg:AllBare g') :
    Inv X pins σ H' { s with heap:=h',gens:=g',drawn:=d',toks:=t' }:=by
  have neL:∀ b o,X.s₀.heap.get? b=some o->b ≠ X.env.locals:=fun b o e=>Al (Aq (Aa e) I.ok.above)
  have neC:∀ b o,X.s₀.heap.get? b=some o->b ∉ X.ex->b ∉ ch:=fun b o e hx hb=>by
    rcases (hch b hb).1 with z | z
    · exact hx z
    · exact absurd (Aq (Aa e) z) (Nat.lt_irrefl _)
  have cellK:∀ x c,X.env.cells.lookup x=some c->∀ v,s.heap.IsCell c v->h'.IsCell c v:=fun x c e v ⟨o,ho,hd⟩=>by
    have nch:c ∉ ch:=fun z=>(hch c z).2.2.1 x c e rfl
    by_cases hc:c ∈ X.fs
    · obtain ⟨sl,q⟩:=slot c o (I.cne x c e) hc nch ho (I.freeC x c e)
      exact ⟨_,q,hd⟩
    · exact ⟨o,keep c o (I.cne x c e) hc nch ho (I.freeC x c e),hd⟩
  refine ⟨I.ok,I.os,hg,⟨fun b o e n hb hx=>?_,fun b o e n hb hx=>?_,fun b o e n hx=>?_,fun b o e hx=>?_,fun b xs e=>tups b xs (I.base.tups b xs e),fun b o xs e=>frzs b o xs (I.base.frzs b o xs e),fun b ps e=>?_⟩,?_,fun x c e=>?_,?_,fun x c e=>?_,fun p hp=>?_,hok,I.len⟩
  · exact keep b o (neL b o e) hb (neC b o e hx) (I.base.keep b o e n hb hx) (I.base.free b o e n hx)
  · obtain ⟨sl,e1⟩:=I.base.slot b o e n hb hx
    obtain ⟨sl',e2⟩:=slot b _ (neL b o e) hb (neC b o e hx) e1 (I.base.free b o e n hx)
    exact ⟨sl',e2⟩
  · obtain ⟨o',e1⟩:=I.base.there b o e hx
    exact free b o' (neC b o e hx) e1 (I.base.free b o e n hx)
  · obtain ⟨o',e1⟩:=I.base.there b o e hx
    exact there b o' (neC b o e hx) e1
  · obtain ⟨m1,e1⟩:=I.base.tbls b ps e
    obtain ⟨m2,e2⟩:=tbls b _ e1
    exact ⟨m1 ++ m2,by rw [e2,Array.append_assoc]⟩
  · obtain ⟨m,hn,hl⟩:=I.loc
    refine ⟨m,ns m hn,fun i x v e1 e2 e3=>?_⟩
    obtain ⟨u,r,l⟩:=hl i x v e1 e2 e3
    refine ⟨u,r,?_⟩
    rcases l with l | ⟨k,c,e,z⟩
    · exact .inl l
    · exact .inr ⟨k,c,e,cellK x c e _ z⟩
  · obtain ⟨v,z⟩:=I.cell x c e
    exact ⟨v,cellK x c e v z⟩
  · obtain ⟨m,⟨o,_,_,ho,_⟩,_⟩:=I.loc
    exact free _ o (fun z=>(hch _ z).2.1 rfl) ho I.free
  · obtain ⟨v,o,ho,hd⟩:=I.cell x c e
    exact free c o (fun z=>(hch c z).2.2.1 x c e rfl) ho (I.freeC x c e)
  · obtain ⟨e,n,ne,nf,d⟩:=I.pin p hp
    have nch:p.1 ∉ ch:=fun z=>(hch p.1 z).2.2.2 p hp rfl
    exact ⟨keep p.1 p.2 ne nf nch e n,free p.1 p.2 nch e n,ne,nf,d⟩
theorem Inv.un {t':Nat} (I:Inv X pins σ H s) (u:Un X.fs [] H H' s.heap h') (hok:HOk X.prog X.w H' h'):Inv X pins σ H' { s with heap:=h',toks:=t' }:=by
  obtain ⟨m,⟨o,es,ep,ho,r⟩,_⟩:=id I.loc
  obtain ⟨sl,hL⟩:=u.any ho I.free (by simp)
  exact I.step (g':=s.gens) (d':=s.drawn) (ch:=[]) (fun _ z=>nomatch z) (fun b o _ hb _ e n=>u.keep b o e n hb (by simp)) (fun b o _ hb _ e n=>u.slot b o e n hb (by simp)) (fun b o _ e n=>u.free b o e n (by simp)) (fun b o _ e=>u.there b o e (by simp)) u.tups u.frzs u.tbls (fun m' hm=>by
    obtain ⟨o',es',ep',ho',r'⟩:=hm
    rw [ho] at ho';cases ho'
    exact ⟨_,es',ep',hL,r'⟩) hok I.bare
theorem Inv.call {g':Array GenState} {t':Nat} {d':Drawn} {ch:List Addr} (I:Inv X pins σ H s) (u:Un (frs X.stack) ch H H' s.heap h') (hok:HOk X.prog X.w H' h') (hg:AllBare g')
    (hch:∀ b ∈ ch,(b ∈ X.ex\/X.s₀.heap.objs.size<=b)/\b ≠ X.env.locals/\(∀ x c,X.env.cells.lookup x=some c->c ≠ b)/\∀ p ∈ X.pn ++ pins,p.1 ≠ b) :
    Inv X pins σ H' { s with heap:=h',gens:=g',drawn:=d',toks:=t' }:=by
  obtain ⟨m,⟨o,es,ep,ho,r⟩,_⟩:=id I.loc
  obtain ⟨sl,hL⟩:=u.any ho I.free fun z=>(hch _ z).2.1 rfl
  exact I.step (ch:=ch) hch (fun b o hL hb hc e n=>u.keep b o e n (fun z=>(z8.mp (I.stkSub b z)).elim hL hb) hc) (fun b o _ _ hc e n=>u.any e n hc) (fun b o hc e n=>u.free b o e n hc) (fun b o hc e=>u.there b o e hc) u.tups u.frzs u.tbls (fun m' hm=>by
    obtain ⟨o',es',ep',ho',r'⟩:=hm
    rw [ho] at ho';cases ho'
    exact ⟨_,es',ep',hL,r'⟩) hok hg
theorem Inv.turned {t':Nat} {it:Addr} (I:Inv X pins σ H s) (k:∀ b o,b ≠ it->s.heap.get? b=some o->h'.get? b=some o) (hn:H it=none) (hL:it ≠ X.env.locals)
    (h1:it ∈ X.ex\/X.s₀.heap.objs.size<=it) (h2:∀ x c,X.env.cells.lookup x=some c->c ≠ it) (h3:∀ p ∈ X.pn ++ pins,p.1 ≠ it):Inv X pins σ H { s with heap:=h',toks:=t' }:=by
  have nit:∀ b u,H b=some u->b ≠ it:=fun b u e z=>by rw [z,hn] at e;cases e
  refine I.step (g':=s.gens) (d':=s.drawn) (ch:=[it]) (fun b hb=>?_) (fun b o _ _ hc e _=>k b o (fun z=>hc (by simp [z])) e) (fun b o _ _ hc e _=>⟨o.slots,k b o (fun z=>hc (by simp [z])) e⟩) (fun _ _ _ _ n=>n)
    (fun b o hc e=>⟨o,k b o (fun z=>hc (by simp [z])) e⟩) (fun _ _ e=>e) (fun _ _ _ e=>e) (fun b ps e=>⟨#[],by rw [e];simp⟩) (fun m hm=>?_) (fun b u e=>?_) I.bare
  · have e:b=it:=by simpa using hb
    subst e
    exact ⟨h1,hL,h2,h3⟩
  · obtain ⟨o,es,ep,ho,r⟩:=hm
    exact ⟨o,es,ep,k _ o (Ne.symm hL) ho,r⟩
  · refine (I.hok b u e).stay (fun c v hc q=>k c v ?_ q) (fun _ q=>q) fun _ _ q=>q
    rcases hc with z | z
    · rw [z];exact nit b u e
    · exact nit c _ z
theorem Inv.tok (I:Inv X pins σ H s) (t:Nat):Inv X pins σ H { s with toks:=t }:=I.un (h':=s.heap) (t':=t) Un.refl I.hok
theorem Inv.kept {t':Nat} (I:Inv X pins σ H s) (k:∀ b u,s.heap.get? b=some u->h'.get? b=some u):Inv X pins σ H { s with heap:=h',toks:=t' }:=I.un (Un.kept k) (I.hok.kept k)
theorem Inv.laid {a:Addr} {o:HO} {t':Nat} (I:Inv X pins σ H s) (k:∀ b u,s.heap.get? b=some u->h'.get? b=some u) (hp:s.heap.objs.size<=a) (new:ObjOk X.prog X.w (upd H a o) h' a o) :
    Inv X pins σ (upd H a o) { s with heap:=h',toks:=t' }:=I.un (Un.laid k hp (I.hok.fresh hp)) (I.hok.laid k hp new)
theorem Inv.write {x e:Addr} {o:HO} {t':Nat} (I:Inv X pins σ H s) (mu:Mut (H x)) (he:e=x\/H e=some (.own x)) (k:∀ b u,b ≠ e->s.heap.get? b=some u->h'.get? b=some u) (heo:∃ u,h'.get? e=some u)
    (new:ObjOk X.prog X.w (upd H x o) h' x o):Inv X pins σ (upd H x o) { s with heap:=h',toks:=t' }:=I.un (Un.write mu he k heo) (I.hok.write mu he k heo new)
theorem Inv.pins_of {pins':List (Addr × Obj)} (I:Inv X pins σ H s) (h:∀ p ∈ pins',s.heap.get? p.1=some p.2/\H p.1=none/\p.1 ≠ X.env.locals/\p.1 ∉ X.fs/\∀ v,p.2.data ≠ .cell v):Inv X pins' σ H s :=
  ⟨I.ok,I.os,I.bare,I.base,I.loc,I.cell,I.free,I.freeC,fun p hp=>(Ab.mp hp).elim (fun z=>I.pin p (z6 _ z)) (h p),I.hok,I.len⟩
theorem nB {N:List Str} (hN:N.Nodup) {i j:Nat} {x:Str} (a:N[i]?=some x) (b:N[j]?=some x):i=j:=by
  obtain ⟨h1,e1⟩:=Ae.mp a
  obtain ⟨h2,e2⟩:=Ae.mp b
  exact (List.getElem_inj hN).mp (e1.trans e2.symm)
theorem li {M:Model} {A:Around} {E:Value->Shared->Prop} {i:Nat} {x:Str} {v:V} {u:Value} {Q:Unit->Shared->Prop} (I:Inv X pins σ H s) (hN:X.N.Nodup) (hi:X.N[i]?=some x) (hx:Loc X.env.scope x) (r:RelV v u)
    (h:∀ s',Inv X pins (σ.set i (some v)) H s'->(∃ a,Heap.SameBut a s.heap s'.heap/\(a=X.env.locals\/X.env.cells.lookup x=some a))->Q () s') (hf:X.fn x=true\/X.env.scope.names.lookup x=some .local:=by first | exact .inl rfl | exact .inr rfl | assumption):wpAny M A (storeName X.env x u) Q E s:=by
  obtain ⟨m,hn,hl⟩:=id I.loc
  have hcls:(X.env.scope.kind == .class || (X.env.scope.kind == .module && X.env.locals != X.env.globals))=false:=by rw [I.ok.kind];rfl
  have hiσ:i < σ.length:=by rw [I.len];exact (Ae.mp hi).1
  have cne:=I.cne
  have tracked:∀ {a:Addr} {h':Heap},(∃ o,s.heap.get? a=some o/\H a=none)->Heap.SameBut a s.heap h'->HOk X.prog X.w H h':=fun {a h'} ha hs b ob e=>by
    obtain ⟨_,_,hfree⟩:=ha
    refine (I.hok b ob e).stay (fun c w' hc q=>(hs.2 c ?_).trans q) (fun _ q=>q) fun _ _ q=>q
    rintro rfl
    rcases hc with rfl | hc
    · rw [hfree] at e;cases e
    · rw [hfree] at hc;cases hc
  rcases hx with hk | hk
  · refine wpAny_storeName_local hk hn (fun h' hn' hs=>?_) hcls
    obtain ⟨oL,_,_,hoL,_⟩:=id hn
    refine h _ ⟨I.ok,I.os,I.bare,⟨fun b o e n hb hx=>?_,fun b o e n hb hx=>?_,I.base.free,fun b o e hx=>?_,I.base.tups,I.base.frzs,I.base.tbls⟩,⟨_,hn',fun j y v' e1 e2 e3=>?_⟩,fun y c e=>?_,I.free,I.freeC,fun p hp=>?_,tracked ⟨oL,hoL,I.free⟩ hs,by simpa using I.len⟩ ⟨_,hs,.inl rfl⟩
    · exact (hs.2 b (Al (Aq (Aa e) I.ok.above))).trans (I.base.keep b o e n hb hx)
    · obtain ⟨sl,e1⟩:=I.base.slot b o e n hb hx
      exact ⟨sl,(hs.2 b (Al (Aq (Aa e) I.ok.above))).trans e1⟩
    · obtain ⟨o',e1⟩:=I.base.there b o e hx
      exact ⟨o',(hs.2 b (Al (Aq (Aa e) I.ok.above))).trans e1⟩
    · by_cases hj:j=i
      · subst hj
        rw [hi] at e1;cases e1
        rw [List.getElem?_set_self hiσ] at e2
        cases e2
        exact ⟨u,r,.inl ⟨hk,by simp⟩⟩
      · rw [List.getElem?_set_ne (Ne.symm hj)] at e2
        obtain ⟨u',r',q⟩:=hl j y v' e1 e2 e3
        refine ⟨u',r',?_⟩
        rcases q with ⟨k,e⟩ | ⟨k,c,e,z⟩
        · refine .inl ⟨k,?_⟩
          have:y ≠ x:=fun e=>hj (nB hN e1 (e ▸ hi))
          simp [this,e]
        · exact .inr ⟨k,c,e,z.sameBut hs (cne y c e)⟩
    · obtain ⟨w',z⟩:=I.cell y c e
      exact ⟨w',z.sameBut hs (cne y c e)⟩
    · obtain ⟨e,n,ne,nf,d⟩:=I.pin p hp
      exact ⟨(hs.2 p.1 ne).trans e,n,ne,nf,d⟩
  · have hfn:X.fn x=true:=by
      rcases hf with z | z
      · exact z
      · rw [z] at hk;cases hk
    obtain ⟨c,hc⟩:=I.ok.has x (.inl hk)
    obtain ⟨w',z⟩:=I.cell x c hc
    refine wpAny_storeName_cell I.ok.kind hk hc z (fun h' hc' hs=>?_)
    obtain ⟨oc,hoc,hocd⟩:=id z
    refine h { s with heap:=h' } ⟨I.ok,I.os,I.bare,⟨fun b o e n hb hx=>?_,fun b o e n hb hx=>?_,I.base.free,fun b o e hx=>?_,I.base.tups,I.base.frzs,I.base.tbls⟩,⟨m,hn.sameBut hs (Ne.symm (cne x c hc)),fun j y v' e1 e2 e3=>?_⟩,fun y c' e=>?_,I.free,I.freeC,fun p hp=>?_,tracked ⟨oc,hoc,I.freeC x c hc⟩ hs,by simpa using I.len⟩ ⟨c,hs,.inr hc⟩
    · exact (hs.2 b (Al (Aq (Aa e) (I.ok.cab x c hfn hc)))).trans (I.base.keep b o e n hb hx)
    · obtain ⟨sl,e1⟩:=I.base.slot b o e n hb hx
      exact ⟨sl,(hs.2 b (Al (Aq (Aa e) (I.ok.cab x c hfn hc)))).trans e1⟩
    · obtain ⟨o',e1⟩:=I.base.there b o e hx
      exact ⟨o',(hs.2 b (Al (Aq (Aa e) (I.ok.cab x c hfn hc)))).trans e1⟩
    · by_cases hj:j=i
      · subst hj
        rw [hi] at e1;cases e1
        rw [List.getElem?_set_self hiσ] at e2
        cases e2
        exact ⟨u,r,.inr ⟨.inl hk,c,hc,hc'⟩⟩
      · rw [List.getElem?_set_ne (Ne.symm hj)] at e2
        obtain ⟨u',r',q⟩:=hl j y v' e1 e2 e3
        refine ⟨u',r',?_⟩
        rcases q with q | ⟨k,c',e,z'⟩
        · exact .inl q
        · refine .inr ⟨k,c',e,z'.sameBut hs ?_⟩
          rintro rfl
          exact hj (nB hN e1 (I.ok.inj _ _ _ e hc ▸ hi))
    · by_cases hcc:c'=c
      · subst hcc;exact ⟨_,hc'⟩
      · obtain ⟨w2,z2⟩:=I.cell y c' e
        exact ⟨w2,z2.sameBut hs hcc⟩
    · obtain ⟨e,n,ne,nf,d⟩:=I.pin p hp
      refine ⟨(hs.2 p.1 ?_).trans e,n,ne,nf,d⟩
      intro q
      rw [q,hoc] at e
      have q':oc=p.2:=AL e
      exact d w' (by rw [<- q'];exact hocd)
theorem gS {M:Model} {A:Around} {E:Value->Shared->Prop} {i:Nat} {x:Str} {v:V} {u:Value} {Q:Unit->Shared->Prop} (I:Inv X pins σ H s) (hN:X.N.Nodup) (hi:X.N[i]?=some x) (hx:Loc X.env.scope x) (r:RelV v u)
    (h:∀ s',Inv X pins (σ.set i (some v)) H s'->Q () s') (hf:X.fn x=true\/X.env.scope.names.lookup x=some .local:=by first | exact .inl rfl | exact .inr rfl | assumption):wpAny M A (storeName X.env x u) Q E s :=
  li I hN hi hx r (fun s' I' _=>h s' I') hf
theorem Inv.call' {s':Shared} {ch:List Addr} (I:Inv X pins σ H s) (ho:s'.os=s.os) (u:Un (frs X.stack) ch H H' s.heap s'.heap) (hok:HOk X.prog X.w H' s'.heap) (hg:AllBare s'.gens)
    (hch:∀ b ∈ ch,(b ∈ X.ex\/X.s₀.heap.objs.size<=b)/\b ≠ X.env.locals/\(∀ x c,X.env.cells.lookup x=some c->c ≠ b)/\∀ p ∈ X.pn ++ pins,p.1 ≠ b):Inv X pins σ H' s':=by
  obtain ⟨h',g',d',t',o'⟩:=s'
  have e:o'=s.os:=ho
  subst e
  exact I.call (g':=g') (t':=t') (d':=d') u hok hg hch
end
noncomputable abbrev XK:=Value->Option Addr->Hp->Prop
noncomputable abbrev St:=List (Option V)
noncomputable abbrev VK:=V->Hp->Prop
noncomputable abbrev TE:=St->Hp->VK->Prop
noncomputable abbrev TT:=St->Hp->(Bool->Hp->Prop)->Prop
noncomputable abbrev TA:=St->Hp->(List V->Hp->Prop)->Prop
structure Ends where
  nx:St->Hp->Prop
  rt:VK
  bk:St->Hp->Prop:=fun _ _=>False
  ct:St->Hp->Prop:=fun _ _=>False
noncomputable abbrev TS:=Ends->St->Hp->Prop
noncomputable def EP (X:Cx) (pins:List (Addr × Obj)) (σ:St) (Q:VK) (u:Value) (s':Shared):Prop:=∃ v H',Inv X pins σ H' s'/\RelV v u/\Q v H'
noncomputable def TP (X:Cx) (pins:List (Addr × Obj)) (σ:St) (Q:Bool->Hp->Prop) (b:Bool) (s':Shared):Prop:=∃ H',Inv X pins σ H' s'/\Q b H'
noncomputable def AP (X:Cx) (pins:List (Addr × Obj)) (σ:St) (Q:List V->Hp->Prop) (us:List Value) (s':Shared):Prop:=∃ vs H',Inv X pins σ H' s'/\Vals vs us/\Q vs H'
set_option tactic.hygienic true in
noncomputable def SP (X:Cx) (pins:List (Addr × Obj)) (D:Ends) (f:Flow) (s':Shared):Prop :=
  match f with
  | .next=>∃ σ' H',Inv X pins σ' H' s'/\D.nx σ' H'
  | .brk=>∃ σ' H',Inv X pins σ' H' s'/\D.bk σ' H'
  | .cont=>∃ σ' H',Inv X pins σ' H' s'/\D.ct σ' H'
  | .ret u=>∃ v σ' H',Inv X pins σ' H' s'/\RelV v u/\D.rt v H'
noncomputable def PE (X:Cx) (e:Expr) (t:TE):Prop :=
  ∀ (pins:List (Addr × Obj)) (s:Shared) (σ:St) (H:Hp) (Q:VK),Inv X pins σ H s->t σ H Q->wpAny (model X.prog X.w) X.A (eval e X.env) (EP X pins σ Q) X.xe s
noncomputable def PT (X:Cx) (e:Expr) (t:TT):Prop :=
  ∀ (pins:List (Addr × Obj)) (s:Shared) (σ:St) (H:Hp) (Q:Bool->Hp->Prop),Inv X pins σ H s->t σ H Q->wpAny (model X.prog X.w) X.A (isTrue e X.env (eval e X.env)) (TP X pins σ Q) X.xe s
noncomputable def PW (X:Cx) (e:Expr) (t:TT):Prop :=
  ∀ (whole:Sem Value) (pins:List (Addr × Obj)) (s:Shared) (σ:St) (H:Hp) (Q:Bool->Hp->Prop),Inv X pins σ H s->t σ H Q->wpAny (model X.prog X.w) X.A (isTrue e X.env whole) (TP X pins σ Q) X.xe s
theorem PW.pt {X:Cx} {e:Expr} {t:TT} (h:PW X e t):PT X e t:=h _
noncomputable def PA (X:Cx) (es:List Expr) (t:TA):Prop :=
  ∀ (pos:Pos) (pins:List (Addr × Obj)) (s:Shared) (σ:St) (H:Hp) (Q:List V->Hp->Prop),Inv X pins σ H s->t σ H Q->wpAny (model X.prog X.w) X.A (spliced (backTo pos (starEach es X.env))) (AP X pins σ Q) X.xe s
noncomputable def PS (X:Cx) (st:Stmt) (t:TS):Prop :=
  ∀ (pins:List (Addr × Obj)) (s:Shared) (σ:St) (H:Hp) (D:Ends),Inv X pins σ H s->t D σ H->wpAny (model X.prog X.w) X.A (exec st X.env) (SP X pins D) X.xe s
noncomputable def PSs (X:Cx) (st:List Stmt) (t:TS):Prop :=
  ∀ (pins:List (Addr × Obj)) (s:Shared) (σ:St) (H:Hp) (D:Ends),Inv X pins σ H s->t D σ H->wpAny (model X.prog X.w) X.A (execs st X.env) (SP X pins D) X.xe s
theorem thn {α:Type} {t:Sem α} {Q Q':α->Shared->Prop} {M:Model} {A:Around} {E:Value->Shared->Prop} {s:Shared} (h:wpAny M A t Q E s) (hQ:∀ a s,Q a s->Q' a s):wpAny M A t Q' E s:=wpAny_mono h hQ fun _ _ x=>x
end L2
namespace L2
open PySem PySem.Spec PyProof.Rows
section
variable {X:Cx}
theorem bin {a b:Expr} {ta tb:TE} (ha:PE X a ta) (hb:PE X b tb) {pins:List (Addr × Obj)} {s:Shared} {σ:St} {H:Hp} {R:V->V->Hp->Prop} (I:Inv X pins σ H s) (h:ta σ H fun x H1=>tb σ H1 fun y H2=>R x y H2)
    {α:Type} {Q:α->Shared->Prop} {f:Value->Value->Sem α}
    (hf:∀ v u s2 x y H2,Inv X pins σ H2 s2->RelV x v->RelV y u->R x y H2->wpAny (model X.prog X.w) X.A (f v u) Q X.xe s2) :
    wpAny (model X.prog X.w) X.A (eval a X.env) (fun v s₁=>wpAny (model X.prog X.w) X.A (eval b X.env) (fun u s₂=>wpAny (model X.prog X.w) X.A (f v u) Q X.xe s₂) X.xe s₁) X.xe s:=by
  refine thn (ha pins s σ H _ I h) fun v s1 ⟨x,H1,I1,r1,q1⟩=>?_
  refine thn (hb pins s1 σ H1 _ I1 q1) fun u s2 ⟨y,H2,I2,r2,q2⟩=>?_
  exact hf v u s2 x y H2 I2 r1 r2 q2
noncomputable def qU (i:Nat):TE:=fun σ H Q=>∃ v,σ[i]?=some (some v)/\Q v H
noncomputable def tC (v:V):TE:=fun _ H Q=>Q v H
theorem fo {i:Nat} {x:Str} {pos:Pos} (hN:X.N[i]?=some x) (hv:Vis X.env.scope x) (hd:(x == ("__debug__":Str))=false:=by decide) (hcd:(x == ("__classdict__":Str))=false:=by decide):PE X (.Name x pos) (qU i):=by
  intro pins s σ H Q I h
  obtain ⟨v,e,h⟩:=h
  obtain ⟨m,hn,hl⟩:=I.loc
  obtain ⟨u,r,l⟩:=hl i x v hN e hv
  have fin:EP X pins σ Q u s:=⟨v,H,I,r,h⟩
  rcases l with ⟨hk,hm⟩ | ⟨hk,c,hc,hcell⟩
  · exact wpAny_Name (wpAny_loadName_local I.ok.kind hk hn hm fin) hd
  · rcases hk with hk | hk
    · exact wpAny_Name (wpAny_loadName_cell I.ok.kind hk hc hcell fin) hd
    · exact wpAny_Name (wpAny_loadName_free I.ok.kind hk hc hcell fin hcd) hd
theorem y7 {i j pos}:PE X (.Constant (.int i) j pos) (tC (.int i)):=fun _ _ _ H _ I h=>wpAny_Constant_int ⟨.int i,H,I.tok _,⟨_,rfl⟩,h⟩
theorem pe_bl {b j pos}:PE X (.Constant (.bool b) j pos) (tC (.bl b)):=fun _ _ _ H _ I h=>Constant_bool ⟨.bl b,H,I,rfl,h⟩
theorem yY {j pos}:PE X (.Constant .none j pos) (tC .non):=fun _ _ _ H _ I h=>Constant_none ⟨.non,H,I,rfl,h⟩
theorem yV {x j pos}:PE X (.Constant (.str x) j pos) (tC (.str x)):=fun _ _ _ H _ I h=>Calls.Constant_str ⟨.str x,H,I.tok _,⟨_,rfl⟩,h⟩
noncomputable def Gl (X:Cx) (x:Str):Prop:=X.env.kindOf x=some .globalImplicit
theorem qr {E:Value->Shared->Prop} {pins:List (Addr × Obj)} {s:Shared} {σ:St} {H:Hp} {x:Str} {u:Value} {pos:Pos} {Q:Value->Shared->Prop} (I:Inv X pins σ H s) (hg:Gl X x) (hm:X.mg x=some u) (h:Q u s)
    (hd:(x == ("__debug__":Str))=false:=by decide):wpAny (model X.prog X.w) X.A (eval (.Name x pos) X.env) Q E s :=
  Calls.Name_function_global I.ok.kind hg (Calls.loadGlobal_global (by rw [I.ok.glob];exact I.mod.glob.keeps I.bk) hm h) hd
theorem gN {E:Value->Shared->Prop} {pins:List (Addr × Obj)} {s:Shared} {σ:St} {H:Hp} {x:Str} {u:Value} {pos:Pos} {Q:Value->Shared->Prop} (I:Inv X pins σ H s) (hg:Gl X x) (hm:X.mg x=none) (hv:bootBuiltins x=some u) (h:Q u s)
    (hn:x ≠ "__name__":=by decide) (hd:(x == ("__debug__":Str))=false:=by decide):wpAny (model X.prog X.w) X.A (eval (.Name x pos) X.env) Q E s:=by
  obtain ⟨mb,h1,h2⟩:=I.mod.blt
  exact Calls.Name_function_global I.ok.kind hg (Calls.loadGlobal_builtin (by rw [I.ok.glob];exact I.mod.glob.keeps I.bk) hm (by rw [I.ok.blt];exact h1.keeps I.bk) ((h2 x hn).trans hv) h) hd
theorem wg {x:Str} {v:V} {u:Value} {pos:Pos} (hg:Gl X x) (hm:X.mg x=some u) (r:RelV v u) (hd:(x == ("__debug__":Str))=false:=by decide):PE X (.Name x pos) (tC v) :=
  fun _ _ _ H _ I h=>qr I hg hm ⟨v,H,I,r,h⟩ hd
theorem ic {x:Str} {v:V} {u:Value} {pos:Pos} (hg:Gl X x) (hm:X.mg x=none) (hv:bootBuiltins x=some u) (r:RelV v u) (hn:x ≠ "__name__":=by decide) (hd:(x == ("__debug__":Str))=false:=by decide):PE X (.Name x pos) (tC v) :=
  fun _ _ _ H _ I h=>gN I hg hm hv ⟨v,H,I,r,h⟩ hn hd
variable {a b:Expr} {ta tb:TE} {pos:Pos}
noncomputable def PC (X:Cx) (op:CmpOp) (a b:Expr) (t:TE):Prop :=
  ∀ (pins:List (Addr × Obj)) (s:Shared) (σ:St) (H:Hp) (Q:VK),Inv X pins σ H s->t σ H Q ->
    wpAny (model X.prog X.w) X.A (eval a X.env) (fun v s₁=>wpAny (model X.prog X.w) X.A (eval b X.env) (fun u s₂=>wpAny (model X.prog X.w) X.A (compareOp op v u) (EP X pins σ Q) X.xe s₂) X.xe s₁) X.xe s
noncomputable def tB (t:TE):TT:=fun σ H Q=>t σ H fun x H1=>∃ c,x=.bl c/\Q c H1
theorem yK {e:Expr} {t:TE} (h:PE X e t) (he:∀ whole,isTrue e X.env whole=(do let v <- whole;standAt e.pos;holding [v] (truthy v)):=by intro _;rfl):PT X e (tB t):=by
  intro pins s σ H Q I hw
  refine isTrue_plain (thn (h pins s σ H _ I hw) fun v s1 ⟨x,H1,I1,r1,q1⟩=>?_) (he _)
  obtain ⟨d,rfl,q⟩:=q1
  cases r1
  exact AF ⟨H1,I1,q⟩
variable {tA tB':TT} {fT:List Expr}
noncomputable def tAnd (t u:TT):TT:=fun σ H Q=>t σ H fun c H1=>if c=true then u σ H1 Q else Q false H1
noncomputable def tOr (t u:TT):TT:=fun σ H Q=>t σ H fun c H1=>if c=true then Q true H1 else u σ H1 Q
noncomputable def tNot (t:TT):TT:=fun σ H Q=>t σ H fun c H1=>Q (!c) H1
theorem vT (ha:PT X a tA):PW X (.BoolOp .And [a] pos) tA:=by
  intro wh pins s σ H Q I h
  refine isTrue_and (thn (ha pins s σ H Q I h) fun c s1 e=>?_)
  cases c with
  | true=>exact isTrue_and_nil e
  | false=>exact e
theorem yI (ha:PT X a tA):PW X (.BoolOp .Or [a] pos) tA:=by
  intro wh pins s σ H Q I h
  refine isTrue_or (thn (ha pins s σ H Q I h) fun c s1 e=>?_)
  cases c with
  | false=>exact isTrue_or_nil e
  | true=>exact e
theorem yJ (ha:PT X a tA) (hb:PW X (.BoolOp .And (b :: fT) pos) tB'):PW X (.BoolOp .And (a :: b :: fT) pos) (tAnd tA tB'):=by
  intro wh pins s σ H Q I h
  refine isTrue_and (thn (ha pins s σ H _ I h) fun c s1 ⟨H1,I1,q1⟩=>?_)
  cases c with
  | true=>exact hb wh pins s1 σ H1 Q I1 q1
  | false=>exact ⟨H1,I1,q1⟩
theorem pw_or (ha:PT X a tA) (hb:PW X (.BoolOp .Or (b :: fT) pos) tB'):PW X (.BoolOp .Or (a :: b :: fT) pos) (tOr tA tB'):=by
  intro wh pins s σ H Q I h
  refine isTrue_or (thn (ha pins s σ H _ I h) fun c s1 ⟨H1,I1,q1⟩=>?_)
  cases c with
  | true=>exact ⟨H1,I1,q1⟩
  | false=>exact hb wh pins s1 σ H1 Q I1 q1
theorem yM (ha:PT X a tA):PT X (.UnaryOp .Not a pos) (tNot tA):=by
  intro pins s σ H Q I h
  exact isTrue_not (ha pins s σ H (fun c H1=>Q (!c) H1) I h)
noncomputable def xy (ta tb:TE):TE:=fun σ H Q=>ta σ H fun x H1=>∃ c,x=.bl c/\if c=true then tb σ H1 Q else Q (.bl false) H1
noncomputable def xt (ta:TE):TE:=fun σ H Q=>ta σ H fun x H1=>∃ c,x=.bl c/\Q (.bl (!c)) H1
theorem yW {op} {t:TE} (h:PE X a t):PE X (.BoolOp op [a] pos) t:=fun pins s σ H Q I hw=>BoolOp_one (h pins s σ H Q I hw)
theorem y9 (ha:PE X a ta) (hb:PE X (.BoolOp .And (b :: fT) pos) tb):PE X (.BoolOp .And (a :: b :: fT) pos) (xy ta tb):=by
  intro pins s σ H Q I h
  refine BoolOp_and (thn (ha pins s σ H _ I h) fun v s1 ⟨x,H1,I1,r1,q1⟩=>?_)
  obtain ⟨c,rfl,q1⟩:=q1
  cases r1
  refine AF ?_
  cases c with
  | true=>exact hb pins s1 σ H1 Q I1 q1
  | false=>exact ⟨.bl false,H1,I1,rfl,q1⟩
theorem yX (ha:PE X a ta):PE X (.UnaryOp .Not a pos) (xt ta):=by
  intro pins s σ H Q I h
  refine UnaryOp_ (thn (ha pins s σ H _ I h) fun v s1 ⟨x,H1,I1,r1,q1⟩=>?_)
  obtain ⟨c,rfl,q1⟩:=q1
  cases r1
  exact not_of (AF ⟨.bl (!c),H1,I1,rfl,q1⟩)
noncomputable def tIf (t:TT) (ta tb:TE):TE:=fun σ H Q=>t σ H fun c H1=>if c=true then ta σ H1 Q else tb σ H1 Q
theorem tW {c:Expr} (hc:PT X c tA) (ha:PE X a ta) (hb:PE X b tb):PE X (.IfExp c a b pos) (tIf tA ta tb):=by
  intro pins s σ H Q I h
  refine wpAny_IfExp (thn (hc pins s σ H _ I h) fun d s1 ⟨H1,I1,q1⟩=>?_)
  cases d with
  | true=>exact ha pins s1 σ H1 Q I1 q1
  | false=>exact hb pins s1 σ H1 Q I1 q1
end
end L2
namespace L2
open PySem PySem.Spec PyProof.Rows
noncomputable def SqL (K:FG) (H:Hp) (a:Addr) (xs:List V):Prop :=
  Rd H a (.lst xs) \/
    ∃ (o:Obj) (its:Array Value) (n:Nat),K.lookup a=some o/\o.cls=.type "list"/\o.dict=none/\o.data=.seq its n/\its.size<=sizeLine/\Vals xs its.toList
noncomputable def SqT (K:FG) (H:Hp) (a:Addr) (xs:List V):Prop :=
  Rd H a (.tup xs) \/
    ∃ (o:Obj) (its:Array Value) (n:Nat),K.lookup a=some o/\o.cls=.type "tuple"/\o.data=.seq its n/\its.size<=sizeLine/\Vals xs its.toList
noncomputable def absV:Value->Option V
  | .none=>some .non
  | .bool b=>some (.bl b)
  | .int i _=>some (.int i)
  | .str x _=>some (.str x)
  | .bytes b _=>some (.byt b)
  | .float b _=>some (.flt b)
  | .ref a=>some (.ref a)
  | .type n=>some (.ty n)
  | _=>none
theorem RelV.abs {x:V} {u:Value} (r:RelV x u):absV u=some x:=by
  cases x with
  | non=>cases r;rfl
  | bl _=>cases r;rfl
  | int _=>obtain ⟨t,rfl⟩:=r;rfl
  | str _=>obtain ⟨t,rfl⟩:=r;rfl
  | byt _=>obtain ⟨t,rfl⟩:=r;rfl
  | flt _=>obtain ⟨t,rfl⟩:=r;rfl
  | ref _=>cases r;rfl
  | ty _=>cases r;rfl
theorem RelV.inj {x y:V} {u:Value} (r:RelV x u) (q:RelV y u):x=y:=AL (r.abs.symm.trans q.abs)
theorem Vals.inj:∀ {xs ys:List V} {us:List Value},Vals xs us->Vals ys us->xs=ys
  | _,_,_,.nil,.nil=>rfl
  | _,_,_,.cons r t,.cons r' t'=>by rw [r.inj r',Vals.inj t t']
section
variable {X:Cx} {pins:List (Addr × Obj)} {σ:St} {H:Hp} {s:Shared} {a:Addr} {xs ys:List V}
theorem SqL.of {K:FG} (h:H a=some (.lst xs)):SqL K H a xs:=.inl (.inl h)
theorem SqT.of {K:FG} (h:H a=some (.tup xs)):SqT K H a xs:=.inl (.inl h)
theorem Inv.list (I:Inv X pins σ H s) (h:SqL X.K H a xs):∃ its:List Value,Vals xs its/\PlainL s.heap a its.toArray/\xs.length<=sizeLine:=by
  rcases h with h | ⟨o,its,n,hk,hc,hd,hs,hz,r⟩
  · obtain ⟨z,its,n,r,e⟩:=h.ok I.hok
    exact ⟨its,r,⟨_,n,e,rfl,rfl,rfl⟩,z⟩
  · refine ⟨its.toList,r,⟨o,n,I.kIn a o hk,hc,hd,by simpa using hs⟩,?_⟩
    have e:=r.length
    simp only [Array.length_toList] at e
    omega
theorem Inv.tuple (I:Inv X pins σ H s) (h:SqT X.K H a xs):∃ its:List Value,Vals xs its/\IsTup s.heap a its.toArray/\xs.length<=sizeLine:=by
  rcases h with h | ⟨o,its,n,hk,hc,hs,hz,r⟩
  · obtain ⟨z,its,r,p⟩:=h.ok I.hok
    exact ⟨its,r,p.tup,z⟩
  · refine ⟨its.toList,r,⟨o,I.kIn a o hk,hc,n,by simpa using hs⟩,?_⟩
    have e:=r.length
    simp only [Array.length_toList] at e
    omega
theorem Inv.list_inj (I:Inv X pins σ H s) (h:SqL X.K H a xs) (h':SqL X.K H a ys):xs=ys:=by
  obtain ⟨its,r,⟨o,n,e,_,_,d⟩,_⟩:=I.list h
  obtain ⟨its',r',⟨o',n',e',_,_,d'⟩,_⟩:=I.list h'
  rw [e] at e';cases e'
  rw [d] at d'
  injection d' with d1 _
  have:its=its':=by simpa using congrArg Array.toList d1
  subst this
  exact r.inj r'
theorem Inv.tuple_inj (I:Inv X pins σ H s) (h:SqT X.K H a xs) (h':SqT X.K H a ys):xs=ys:=by
  obtain ⟨its,r,⟨o,e,_,n,d⟩,_⟩:=I.tuple h
  obtain ⟨its',r',⟨o',e',_,n',d'⟩,_⟩:=I.tuple h'
  rw [e] at e';cases e'
  rw [d] at d'
  injection d' with d1 _
  have:its=its':=by simpa using congrArg Array.toList d1
  subst this
  exact r.inj r'
end
noncomputable abbrev Cx.wish (X:Cx) (E:Value->Shared->Prop):Cx:={ X with xe:=E }
noncomputable abbrev Cx.nox (X:Cx):Cx:=X.wish fun _ _=>False
theorem Cx.Ok.wish {X:Cx} (ok:X.Ok) (E:Value->Shared->Prop):(X.wish E).Ok :=
  ⟨ok.mod,ok.kind,ok.glob,ok.blt,ok.above,ok.inj,ok.has,ok.cab,ok.hd,ok.frames,ok.stk,ok.exf,ok.bs,ok.bsz,ok.noex,ok.exfs,ok.funs,ok.frf⟩
theorem Cx.Ok.unwish {X:Cx} {E:Value->Shared->Prop} (ok:(X.wish E).Ok):X.Ok :=
  ⟨ok.mod,ok.kind,ok.glob,ok.blt,ok.above,ok.inj,ok.has,ok.cab,ok.hd,ok.frames,ok.stk,ok.exf,ok.bs,ok.bsz,ok.noex,ok.exfs,ok.funs,ok.frf⟩
section
variable {X:Cx} {pins:List (Addr × Obj)} {σ:St} {H:Hp} {s:Shared} {E:Value->Shared->Prop}
theorem Inv.wish (I:Inv X pins σ H s) (E:Value->Shared->Prop):Inv (X.wish E) pins σ H s:=⟨I.ok.wish E,I.os,I.bare,I.base,I.loc,I.cell,I.free,I.freeC,I.pin,I.hok,I.len⟩
theorem Inv.unwish (I:Inv (X.wish E) pins σ H s):Inv X pins σ H s:=⟨I.ok.unwish,I.os,I.bare,I.base,I.loc,I.cell,I.free,I.freeC,I.pin,I.hok,I.len⟩
set_option tactic.hygienic true in
theorem SP.unwish {D:Ends} {f:Flow} {s':Shared} (h:SP (X.wish E) pins D f s'):SP X pins D f s':=by
  cases f with
  | next=>obtain ⟨σ',H',I,q⟩:=h;exact ⟨σ',H',I.unwish,q⟩
  | brk=>obtain ⟨σ',H',I,q⟩:=h;exact ⟨σ',H',I.unwish,q⟩
  | cont=>obtain ⟨σ',H',I,q⟩:=h;exact ⟨σ',H',I.unwish,q⟩
  | ret u=>obtain ⟨v,σ',H',I,r,q⟩:=h;exact ⟨v,σ',H',I.unwish,r,q⟩
theorem PSs.nox {st:List Stmt} {t:TS} (h:PSs X.nox st t):PSs X st t:=fun pins s σ H D I hw =>
  wpAny_mono (h pins s σ H D (I.wish _) hw) (fun _ _ q=>q.unwish) fun _ _ z=>False.elim z
end
section
variable {X:Cx} {st:Stmt} {fT:List Stmt} {t u:TS} {e:Expr} {te:TE} {pos:Pos}
noncomputable def xu:TS:=fun D σ H=>D.nx σ H
noncomputable def tSeq (t u:TS):TS:=fun D σ H=>t { D with nx:=u D } σ H
theorem vZ:PSs X [] xu:=fun _ _ σ H _ I h=>wpAny_execs_nil ⟨σ,H,I,h⟩
set_option tactic.hygienic true in
theorem tL (h1:PS X st t) (h2:PSs X fT u):PSs X (st :: fT) (tSeq t u):=by
  intro pins s σ H D I h
  refine wpAny_execs_cons (thn (h1 pins s σ H { D with nx:=u D } I h) fun f s1 q=>?_)
  cases f with
  | next =>
    obtain ⟨σ',H',I',q⟩:=q
    exact h2 pins s1 σ' H' D I' q
  | ret v=>exact q
  | brk=>exact q
  | cont=>exact q
set_option tactic.hygienic true in
theorem vY (h1:PS X st t):PSs X [st] t:=by
  intro pins s σ H D I h
  refine wpAny_execs_cons (thn (h1 pins s σ H D I h) fun f s1 q=>?_)
  cases f with
  | next=>exact wpAny_execs_nil q
  | ret v=>exact q
  | brk=>exact q
  | cont=>exact q
theorem Inv.quiet {pins:List (Addr × Obj)} {σ:St} {H:Hp} {s:Shared} (I:Inv X pins σ H s):interactive X.env=false:=by simp [interactive,I.ok.kind]
noncomputable def xw (te:TE):TS:=fun D σ H=>te σ H fun _ H1=>D.nx σ H1
theorem wa (he:PE X e te) (hs:swapsWith e none pos.line X.env=pure false:=by rfl):PS X (.Expr e pos) (xw te):=by
  intro pins s σ H D I h
  exact wpAny_Expr_any (thn (he pins s σ H _ I h) fun v s1 ⟨x,H1,I1,r1,q1⟩=>⟨σ,H1,I1,q1⟩) I.quiet hs
noncomputable def tRet (te:TE):TS:=fun D σ H=>te σ H D.rt
theorem yO (he:PE X e te):PS X (.Return (some e) pos) (tRet te):=by
  intro pins s σ H D I h
  exact wpAny_Return_some (thn (he pins s σ H _ I h) fun v s1 ⟨x,H1,I1,r1,q1⟩=>⟨x,σ,H1,I1,r1,q1⟩)
noncomputable def tIfS (c:TT) (t u:TS):TS:=fun D σ H=>c σ H fun b H1=>if b=true then t D σ H1 else u D σ H1
theorem ps_if {c:Expr} {a b:List Stmt} {tc:TT} (hc:PT X c tc) (ha:PSs X a t) (hb:PSs X b u):PS X (.If c a b pos) (tIfS tc t u):=by
  intro pins s σ H D I h
  refine wpAny_If (thn (hc pins s σ H _ I h) fun d s1 ⟨H1,I1,q1⟩=>?_)
  cases d with
  | true=>exact ha pins s1 σ H1 D I1 q1
  | false=>exact hb pins s1 σ H1 D I1 q1
noncomputable def yi:TS:=fun _ _ _=>False
theorem tN:PS X st yi:=fun _ _ _ _ _ _ h=>h.elim
end
noncomputable abbrev TG:=V->St->Hp->(St->Hp->Prop)->Prop
noncomputable abbrev TGs:=List V->St->Hp->(St->Hp->Prop)->Prop
noncomputable def PG (X:Cx) (target:Expr) (t:TG):Prop :=
  ∀ (pins:List (Addr × Obj)) (s:Shared) (σ:St) (H:Hp) (v:V) (u:Value) (Q:St->Hp->Prop),Inv X pins σ H s->RelV v u->t v σ H Q ->
    wpAny (model X.prog X.w) X.A (assign target X.env u) (fun _ s'=>∃ σ' H',Inv X pins σ' H' s'/\Q σ' H') X.xe s
noncomputable def PGs (X:Cx) (ts:List Expr) (t:TGs):Prop :=
  ∀ (pins:List (Addr × Obj)) (s:Shared) (σ:St) (H:Hp) (vs:List V) (us:List Value) (Q:St->Hp->Prop),Inv X pins σ H s->Vals vs us->t vs σ H Q ->
    wpAny (model X.prog X.w) X.A (assignInOrder ((assignEach ts X.env).map (·.2)) us) (fun _ s'=>∃ σ' H',Inv X pins σ' H' s'/\Q σ' H') X.xe s
noncomputable abbrev sE:=V->V->V->Hp->(Hp->Prop)->Prop
noncomputable def u3 (X:Cx) (t:sE):Prop :=
  ∀ (pins:List (Addr × Obj)) (s:Shared) (σ:St) (H:Hp) (o i v:V) (ov iv u:Value) (Q:Hp->Prop),Inv X pins σ H s->RelV o ov->RelV i iv->RelV v u->t o i v H Q ->
    wpAny (model X.prog X.w) X.A (setItem ov iv u) (fun _ s'=>∃ H',Inv X pins σ H' s'/\Q H') X.xe s
section
variable {X:Cx} {pos:Pos}
noncomputable def qy (i:Nat):TG:=fun v σ H Q=>Q (σ.set i (some v)) H
theorem cv {i:Nat} {x:Str} (hN:X.N.Nodup) (hi:X.N[i]?=some x) (hx:Loc X.env.scope x) (hf:X.fn x=true\/X.env.scope.names.lookup x=some .local:=by first | exact .inl rfl | exact .inr rfl | assumption):PG X (.Name x pos) (qy i):=by
  intro pins s σ H v u Q I r h
  exact wpAny_assign_Name (gS I hN hi hx r (fun s' I'=>⟨_,H,I',h⟩) hf)
noncomputable def gNil:TGs:=fun vs σ H Q=>vs=[]/\Q σ H
noncomputable def xM (t:TG) (u:TGs):TGs:=fun vs σ H Q=>∃ v r,vs=v :: r/\t v σ H fun σ' H'=>u r σ' H' Q
theorem qc:PGs X [] gNil:=by
  intro pins s σ H vs us Q I r h
  obtain ⟨e,h⟩:=h
  subst e
  cases r
  exact assignInOrder_nil ⟨σ,H,I,h⟩
theorem j8 {e:Expr} {es:List Expr} {t:TG} {u:TGs} (h1:PG X e t) (h2:PGs X es u)
    (hs:(assignEach (e :: es) X.env).map (·.2)=assign e X.env :: (assignEach es X.env).map (·.2):=by rfl):PGs X (e :: es) (xM t u):=by
  intro pins s σ H vs us Q I r h
  obtain ⟨v,vr,e1,h⟩:=h
  subst e1
  cases r with
  | cons r rr =>
    rw [hs]
    refine assignInOrder_cons (thn (h1 pins s σ H _ _ _ I r h) fun _ s1 ⟨σ1,H1,I1,q1⟩=>?_)
    exact h2 pins s1 σ1 H1 _ _ Q I1 rr q1
noncomputable def gTup (K:FG) (n:Nat) (t:TGs):TG:=fun v σ H Q=>∃ a xs,v=.ref a/\SqT K H a xs/\xs.length=n/\t xs σ H Q
theorem tU {es:List Expr} {k:Nat} {t:TGs} {n:Nat} (hc:X.calm=true) (h:PGs X es t)
    (hn:(assignEach es X.env).length=n:=by rfl) (hst:(assignEach es X.env).findIdx? (·.1)=none:=by rfl):PG X (.Tuple es k pos) (gTup X.K n t):=by
  intro pins s σ H v u Q I r hw
  obtain ⟨a,xs,e1,hq,hl,hw⟩:=hw
  subst e1
  cases r
  obtain ⟨its,rv,ht,hz⟩:=I.tuple hq
  refine assign_Tuple_tuple (I.ok.hd hc) ht (by simp [hn,<- hl,rv.length]) hst fun h' hx=>?_
  have I1:Inv X pins σ H { s with heap:=h' }:=I.kept (t':=s.toks) fun b o e=>hx b o (Al (Aa e)) e
  exact h pins _ σ H xs _ Q I1 (by simpa using rv) hw
noncomputable def gSub (to ti:TE) (t:sE):TG:=fun v σ H Q=>to σ H fun o H1=>ti σ H1 fun i H2=>t o i v H2 fun H3=>Q σ H3
theorem yT {o i:Expr} {to ti:TE} {t:sE} (ho:PE X o to) (hi:PE X i ti) (hs:u3 X t)
    (ha:∀ v,assign (.Subscript o i pos) X.env v=(do
      let ov <- holding [v] (eval o X.env)
      let iv <- holding [v,ov] (eval i X.env)
      standAt pos
      holding [v,ov,iv] (setItem ov iv v)
      release [v,ov,iv] []):=by intro _;rfl):PG X (.Subscript o i pos) (gSub to ti t):=by
  intro pins s σ H v u Q I r h
  rw [ha]
  refine zV (zX (thn (ho pins s σ H _ I h) fun ov s1 ⟨x,H1,I1,r1,q1⟩=>?_))
  refine zV (zX (thn (hi pins s1 σ H1 _ I1 q1) fun iv s2 ⟨y,H2,I2,r2,q2⟩=>?_))
  refine zV (wpAny_standAt (zV (zX (thn (hs pins s2 σ H2 x y v ov iv u _ I2 r1 r2 r q2) fun _ s3 ⟨H3,I3,q3⟩=>?_))))
  exact wpAny_release ⟨σ,H3,I3,q3⟩
noncomputable def sO (te:TE) (g:TG):TS:=fun D σ H=>te σ H fun x H1=>g x σ H1 D.nx
theorem tO {tg e:Expr} {te:TE} {g:TG} (he:PE X e te) (hg:PG X tg g) (hs:swapsWithSole [tg] e pos.line X.env=pure false:=by rfl) (hw:swappedStores [tg] e X.env=pure none:=by rfl)
    (h1:(assignEach [tg] X.env).map (·.2)=[assign tg X.env]:=by rfl):PS X (.Assign [tg] e pos) (sO te g):=by
  intro pins s σ H D I h
  refine wpAny_Assign_stores (thn (he pins s σ H _ I h) fun v s1 ⟨x,H1,I1,r1,q1⟩=>?_) hs hw
  rw [h1]
  exact thn (hg pins s1 σ H1 x v _ I1 r1 q1) fun _ s2 q=>q
theorem yN {i:Nat} {x:Str} {e:Expr} {te:TE} {pos':Pos} (hN:X.N.Nodup) (hi:X.N[i]?=some x) (hx:Loc X.env.scope x) (he:PE X e te) (hs:swapsWith e (some (.Name x pos')) pos.line X.env=pure false:=by rfl) (hf:X.fn x=true\/X.env.scope.names.lookup x=some .local:=by first | exact .inl rfl | exact .inr rfl | assumption) :
    PS X (.Assign [.Name x pos'] e pos) (sO te (qy i)):=by
  intro pins s σ H D I h
  refine wpAny_Assign_Name (thn (he pins s σ H _ I h) fun v s1 ⟨y,H1,I1,r1,q1⟩=>?_) hs
  exact gS I1 hN hi hx r1 (fun s2 I2=>⟨_,H1,I2,q1⟩) hf
noncomputable def tPar (i j:Nat) (ta:TA):TS:=fun D σ H=>ta σ H fun vs H1=>∃ v w,vs=[v,w]/\D.nx ((σ.set i (some v)).set j (some w)) H1
set_option tactic.hygienic true in
theorem yP {i j:Nat} {x y:Str} {a b:Expr} {ta:TA} {px py pt:Pos} {kt k2 pt2} (hc:X.calm=true) (hN:X.N.Nodup) (hi:X.N[i]?=some x) (hj:X.N[j]?=some y) (hij:i ≠ j)
    (hx:X.env.scope.names.lookup x=some .local) (hy:X.env.scope.names.lookup y=some .local) (ha:PA X [a,b] ta)
    (hw:swappedStores [.Tuple [.Name x px,.Name y py] kt pt] (.Tuple [a,b] k2 pt2) X.env=pure (some [x,y]))
    (hs:swapsWithSole [.Tuple [.Name x px,.Name y py] kt pt] (.Tuple [a,b] k2 pt2) pos.line X.env=pure false:=by rfl) :
    PS X (.Assign [.Tuple [.Name x px,.Name y py] kt pt] (.Tuple [a,b] k2 pt2) pos) (tPar i j ta):=by
  intro pins s σ H D I h
  rw [exec_Assign_arm]
  refine zV (wpAny_standAt ?_)
  rw [hs]
  refine zV (zW ?_)
  rw [if_neg (by decide)]
  refine zV (Tuple_ (thn (ha _ pins s σ H _ I h) fun us s1 ⟨vs,H1,I1,r1,q1⟩=>?_))
  obtain ⟨v,w,e1,q1⟩:=q1
  subst e1
  obtain ⟨u1,u2,rfl,rv,rw'⟩:∃ u1 u2,us=[u1,u2]/\RelV v u1/\RelV w u2:=by
    cases r1 with
    | cons p q =>
      cases q with
      | cons p' q' =>
        cases q'
        exact ⟨_,_,rfl,p,p'⟩
  refine wpAny_newObj_type ?_ (by show 2<=sizeLine;decide)
  have I2:Inv X pins σ H1 { s1 with heap:=s1.heap.push { cls:=.type "tuple",data:=.seq [u1,u2].toArray } }:=I1.kept (t':=s1.toks) fun b o e=>z4 _ e
  rw [hw]
  refine zV (zW ?_)
  show wpAny (model X.prog X.w) X.A (do rule "assign.swapped-stores";let items <- unpackItems (.ref s1.heap.objs.size) 2 none;assignInOrder [fun v=>bindName X.env y v,fun v=>bindName X.env x v] items.reverse;pure Flow.next) _ _ _
  refine zV (wpAny_rule (zV (unpackItems_tuple (items:=#[u1,u2]) (I.ok.hd hc) (IsTup.new s1.heap _) fun h' hx'=>?_)))
  have I3:=I2.kept (h':=h') (t':=s1.toks) fun b o e=>hx' b o (Al (Aa e)) e
  show wpAny _ _ (assignInOrder [fun v=>bindName X.env y v,fun v=>bindName X.env x v] [u2,u1] >>= fun _=>pure Flow.next) _ _ _
  refine zV (assignInOrder_cons (wpAny_bindName (gS I3 hN hj (.inl hy) rw' (fun s2 I4=>?_) (.inr hy))))
  refine assignInOrder_cons (wpAny_bindName (gS I4 hN hi (.inl hx) rv (fun s3 I5=>assignInOrder_nil (zW ?_)) (.inr hx)))
  rw [List.set_comm _ _ (Ne.symm hij)] at I5
  exact ⟨_,H1,I5,q1⟩
end
section
variable {X:Cx} {pos:Pos}
noncomputable def sL (c:TT) (tb:TS):TS:=fun D σ H=>∃ W:Nat->St->Hp->Prop,(∃ m,W m σ H)/\∀ m σ H,W m σ H ->
  c σ H fun b H1=>if b=true then ∃ N:St->Hp->Prop,(∀ σ' H',N σ' H'->∃ m',m' < m/\W m' σ' H')/\tb { D with nx:=N,ct:=N,bk:=D.nx } σ H1 else D.nx σ H1
set_option tactic.hygienic true in
theorem tM {c:Expr} {body:List Stmt} {tc:TT} {tb:TS} (hp:PassesOwn (model X.prog X.w) X.A X.env X.xe) (hc:PT X c tc) (hb:PSs X body tb):PS X (.While c body [] pos) (sL tc tb):=by
  intro pins s σ H D I h
  obtain ⟨W,⟨m0,w0⟩,turn⟩:=h
  refine wpAny_While (codeAny_whileLoop (fun n s'=>∃ σ' H',Inv X pins σ' H' s'/\W n σ' H') ?_ m0 ⟨σ,H,I,w0⟩)
  rintro n s1 ⟨σ1,H1,I1,w1⟩
  refine wpAny_passesOwn hp (thn (hc pins s1 σ1 H1 _ I1 (turn n σ1 H1 w1)) fun b s2 ⟨H2,I2,q2⟩=>?_)
  cases b with
  | true =>
    obtain ⟨N,hN,q2⟩:=q2
    rw [if_pos rfl]
    refine wpAny_passesOwn hp (thn (hb pins s2 σ1 H2 _ I2 q2) fun f s3 q3=>?_)
    cases f with
    | next =>
      obtain ⟨σ3,H3,I3,n3⟩:=q3
      obtain ⟨m',hm,w3⟩:=hN σ3 H3 n3
      exact ⟨m',hm,σ3,H3,I3,w3⟩
    | cont =>
      obtain ⟨σ3,H3,I3,n3⟩:=q3
      obtain ⟨m',hm,w3⟩:=hN σ3 H3 n3
      exact ⟨m',hm,σ3,H3,I3,w3⟩
    | brk=>exact q3
    | ret v=>exact q3
  | false =>
    rw [if_neg Ak]
    exact wpAny_execs_nil ⟨σ1,H2,I2,q2⟩
end
structure It where
  go:Nat->Hp->Prop
  yld:Nat->Hp->V->Hp->Prop
  stop:Nat->Hp->Prop
noncomputable def FpOk (X:Cx) (pins:List (Addr × Obj)) (H:Hp) (b:Addr):Prop :=
  H b=none/\b ≠ X.env.locals/\b ∉ X.fs/\(b ∈ X.ex\/X.s₀.heap.objs.size<=b)/\(∀ x c,X.env.cells.lookup x=some c->c ≠ b)/\∀ p ∈ X.pn ++ pins,p.1 ≠ b
theorem Inv.fpOk {X:Cx} {pins:List (Addr × Obj)} {σ:St} {H H':Hp} {s:Shared} {b:Addr} (I:Inv X pins σ H s) (hb:s.heap.objs.size<=b) (hn:H' b=none):FpOk X pins H' b:=by
  refine ⟨hn,Nat.ne_of_gt (Aq I.lt hb),I.nofs hb,.inr (AG I.sz hb),fun x c e z=>?_,fun p hp z=>?_⟩
  · obtain ⟨v,q⟩:=I.cell x c e
    exact absurd (Aq q.lt (by rw [z];exact hb)) (Nat.lt_irrefl _)
  · exact absurd (Aq (Aa (I.pin p hp).1) (by rw [z];exact hb)) (Nat.lt_irrefl _)
structure Turn (P:Program) (w:World) (K:FG) (tg:Expr) (J:It) (fp:List Addr) (it:Addr) (tn:Nat->Heap->Prop):Prop where
  mem:it ∈ fp
  obj:∀ i h,tn i h->∀ b ∈ fp,∃ o,h.get? b=some o/\∀ v,o.data ≠ .cell v
  keep:∀ i h h',tn i h->(∀ b ∈ fp,∀ o,h.get? b=some o->h'.get? b=some o)->tn i h'
  item:∀ (X:Cx),X.prog=P->X.w=w->X.K=K->X.calm=true->∀ (i:Nat) (pins:List (Addr × Obj)) (s:Shared) (σ:St) (H:Hp) (E:Value->Shared->Prop),Inv X pins σ H s->(∀ b ∈ fp,FpOk X pins H b)->tn i s.heap->J.go i H ->
    wpAny (model P w) X.A (pyNext (.ref it)) (fun r s1=>∃ u,r=some u /\
      wpAny (model P w) X.A (letOwnedTupleGo tg (.ref it) u) (fun _ s2=>∃ x H',Inv X pins σ H' s2/\RelV x u/\J.yld i H x H'/\tn (i+1) s2.heap/\∀ b ∈ fp,H' b=none) E s1) E s
  done:∀ (X:Cx),X.prog=P->X.w=w->X.K=K->X.calm=true->∀ (i:Nat) (pins:List (Addr × Obj)) (s:Shared) (σ:St) (H:Hp) (E:Value->Shared->Prop),Inv X pins σ H s->(∀ b ∈ fp,FpOk X pins H b)->tn i s.heap->J.stop i H ->
    wpAny (model P w) X.A (pyNext (.ref it)) (fun r s1=>r=none/\Inv X pins σ H s1) E s
  self:∀ (A:Around) (i:Nat) (s:Shared) (Q:Value->Shared->Prop) (E:Value->Shared->Prop),tn i s.heap->Q (.ref it) s->wpAny (model P w) A (pyIter (.ref it)) Q E s
noncomputable abbrev TI:=St->Hp->(It->Hp->Prop)->Prop
noncomputable def PIE (X:Cx) (pins:List (Addr × Obj)) (σ:St) (tg:Expr) (R:It->Hp->Prop) (itv:Value) (s2:Shared):Prop :=
  ∃ (it:Addr) (fp:List Addr) (tn:Nat->Heap->Prop) (J:It) (H':Hp),itv=.ref it/\Inv X pins σ H' s2/\Turn X.prog X.w X.K tg J fp it tn/\tn 0 s2.heap/\(∀ b ∈ fp,FpOk X pins H' b)/\R J H'
noncomputable def PI (X:Cx) (tg iter:Expr) (wi:TI):Prop :=
  ∀ (pins:List (Addr × Obj)) (s:Shared) (σ:St) (H:Hp) (R:It->Hp->Prop),Inv X pins σ H s->wi σ H R ->
    wpAny (model X.prog X.w) X.A (eval iter X.env) (fun v s1=>wpAny (model X.prog X.w) X.A (pyIter v) (PIE X pins σ tg R) X.xe s1) X.xe s
theorem n4 {M : Model} {A : Around} {E : Value -> Shared -> Prop} {s : Shared} {tg : Expr} {it : Addr} {u : Value} {o : Obj} {n : String} {vs : Array Value} {Q : Unit -> Shared -> Prop} (ho : s.heap.get? it = some o) (hc : o.cls = .type n) (hd : o.data = .fields vs)
    (hn : ["enumerate", "zip", "dict_itemiterator", "dict_reverseitemiterator", "odict_iterator", "itertools.zip_longest", "itertools.pairwise"].contains n = false) (hQ : Q () s) : wpAny M A (letOwnedTupleGo tg (.ref it) u) Q E s := by
  unfold letOwnedTupleGo
  cases tg <;> first
    | exact zW hQ
    | (cases u <;> first
        | exact zW hQ
        | (refine zV (wpAny_load ho ?_)
           rw [hc, hd]
           show wpAny M A (if (["enumerate", "zip", "dict_itemiterator", "dict_reverseitemiterator", "odict_iterator", "itertools.zip_longest", "itertools.pairwise"].contains n && vs[0]? == some (rawInt _)) = true then _ else _) Q E s
           rw [if_neg (by intro h; rw [hn, Bool.false_and] at h; cases h)]
           exact zW hQ))
noncomputable def Itl (K:FG) (a:Addr):It :=
  ⟨fun i H=>∃ xs x,SqL K H a xs/\xs[i]?=some x,fun i H x H'=>H'=H/\∀ xs,SqL K H a xs->xs[i]?=some x,fun i H=>∃ xs,SqL K H a xs/\xs.length<=i⟩
noncomputable def Itt (K:FG) (a:Addr):It :=
  ⟨fun i H=>∃ xs x,SqT K H a xs/\xs[i]?=some x,fun i H x H'=>H'=H/\∀ xs,SqT K H a xs->xs[i]?=some x,fun i H=>∃ xs,SqT K H a xs/\xs.length<=i⟩
noncomputable def Itr (lo:Int) (n:Nat):It:=⟨fun i _=>i < n,fun i H x H'=>H'=H/\x=.int (lo+i),fun i _=>n<=i⟩
theorem qR {P:Program} {w:World} {K:FG} {tg:Expr} (a it:Addr):Turn P w K tg (Itl K a) [it] it (fun i h=>h.IsListIter it a i) where
  mem:=by simp
  obj:=fun i h st b hb=>by
    have e:b=it:=by simpa using hb
    subst e
    obtain ⟨o,e,c,d⟩:=st
    exact ⟨o,e,fun v z=>by rw [d] at z;cases z⟩
  keep:=fun i h h' st k=>st.at fun o e=>k it (by simp) o e
  item:=by
    intro X hP hw hK hc i pins s σ H E I hf st hg
    subst hP hw hK
    obtain ⟨xs,x,hq,hx⟩:=hg
    obtain ⟨its,rv,p,hz⟩:=I.list hq
    obtain ⟨u,hu,ru⟩:=rv.get hx
    obtain ⟨f0,f1,f2,f3,f4,f5⟩:=hf it (by simp)
    refine wpAny_pyNext_list_item st p.isList (x:=u) (by simpa using hu) fun h' st' sb=>?_
    have I1:Inv X pins σ H { s with heap:=h' }:=I.turned (t':=s.toks) (fun b o hb e=>(sb.2 b hb).trans e) f0 f1 f3 f4 f5
    obtain ⟨o,e,c,d⟩:=id st'
    exact ⟨u,rfl,n4 (s:={ s with heap:=h' }) e c d (by decide) ⟨x,H,I1,ru,⟨rfl,fun ys hy=>by rw [I.list_inj hy hq];exact hx⟩,st',fun b hb=>(hf b hb).1⟩⟩
  done:=by
    intro X hP hw hK hc i pins s σ H E I hf st hg
    subst hP hw hK
    obtain ⟨xs,hq,hx⟩:=hg
    obtain ⟨its,rv,p,hz⟩:=I.list hq
    obtain ⟨f0,f1,f2,f3,f4,f5⟩:=hf it (by simp)
    have hl:=rv.length
    exact wpAny_pyNext_list_end (I.ok.hd hc) st p.isList (by simp;omega) fun h' eb=>⟨rfl,I.turned (t':=s.toks) (fun b o hb e=>eb b o hb e) f0 f1 f3 f4 f5⟩
  self:=fun _ _ _ _ _ st h=>wpAny_pyIter_listiter st h
theorem oM {P:Program} {w:World} {K:FG} {tg:Expr} (a it:Addr):Turn P w K tg (Itt K a) [it] it (fun i h=>h.IsTupleIter it a i) where
  mem:=by simp
  obj:=fun i h st b hb=>by
    have e:b=it:=by simpa using hb
    subst e
    obtain ⟨o,e,c,d⟩:=st
    exact ⟨o,e,fun v z=>by rw [d] at z;cases z⟩
  keep:=fun i h h' st k=>st.at fun o e=>k it (by simp) o e
  item:=by
    intro X hP hw hK hc i pins s σ H E I hf st hg
    subst hP hw hK
    obtain ⟨xs,x,hq,hx⟩:=hg
    obtain ⟨its,rv,p,hz⟩:=I.tuple hq
    obtain ⟨u,hu,ru⟩:=rv.get hx
    obtain ⟨f0,f1,f2,f3,f4,f5⟩:=hf it (by simp)
    refine wpAny_pyNext_tuple_item st (show s.heap.IsTuple a its.toArray from p) (x:=u) (by simpa using hu) fun h' st' sb=>?_
    have I1:Inv X pins σ H { s with heap:=h' }:=I.turned (t':=s.toks) (fun b o hb e=>(sb.2 b hb).trans e) f0 f1 f3 f4 f5
    obtain ⟨o,e,c,d⟩:=id st'
    exact ⟨u,rfl,n4 (s:={ s with heap:=h' }) e c d (by decide) ⟨x,H,I1,ru,⟨rfl,fun ys hy=>by rw [I.tuple_inj hy hq];exact hx⟩,st',fun b hb=>(hf b hb).1⟩⟩
  done:=by
    intro X hP hw hK hc i pins s σ H E I hf st hg
    subst hP hw hK
    obtain ⟨xs,hq,hx⟩:=hg
    obtain ⟨its,rv,p,hz⟩:=I.tuple hq
    obtain ⟨f0,f1,f2,f3,f4,f5⟩:=hf it (by simp)
    have hl:=rv.length
    exact wpAny_pyNext_tuple_end (I.ok.hd hc) st (show s.heap.IsTuple a its.toArray from p) (by simp;omega) fun h' eb=>⟨rfl,I.turned (t':=s.toks) (fun b o hb e=>eb b o hb e) f0 f1 f3 f4 f5⟩
  self:=fun _ _ _ _ _ st h=>wpAny_pyIter_tupleiter st h
theorem oN {P:Program} {w:World} {K:FG} {tg:Expr} (it:Addr) (lo:Int) (n:Nat):Turn P w K tg (Itr lo n) [it] it (fun i h=>IsRangeIter h it (lo+(i:Nat) * 1) ((n:Int) - (i:Nat)) 1) where
  mem:=by simp
  obj:=fun i h st b hb=>by
    have e:b=it:=by simpa using hb
    subst e
    exact ⟨_,st,fun v z=>by
      have z':Data.fields _=Data.cell v:=z
      cases z'⟩
  keep:=fun i h h' st k=>k it (by simp) _ st
  item:=by
    intro X hP hw hK hc i pins s σ H E I hf st hg
    subst hP hw hK
    obtain ⟨f0,f1,f2,f3,f4,f5⟩:=hf it (by simp)
    have W:=Walks.range (prog:=X.prog) (w:=X.w) (I.ok.hd hc) it lo 1 n
    refine W.item i s _ _ hg st fun v h' tk hv st' kk=>?_
    obtain ⟨t,rfl⟩:=hv
    have I1:Inv X pins σ H { s with heap:=h',toks:=tk }:=I.turned (fun b o hb e=>kk b o (by simpa using hb) e) f0 f1 f3 f4 f5
    refine ⟨_,rfl,n4 (s:={ s with heap:=h',toks:=tk }) (n:="range_iterator") st' rfl rfl (by decide) ⟨.int (lo+i),H,I1,⟨t,?_⟩,⟨rfl,rfl⟩,st',fun b hb=>(hf b hb).1⟩⟩
    rw [Int.mul_one]
  done:=by
    intro X hP hw hK hc i pins s σ H E I hf st hg
    subst hP hw hK
    obtain ⟨f0,f1,f2,f3,f4,f5⟩:=hf it (by simp)
    exact wpAny_pyNext_range_end (I.ok.hd hc) st (by have:n<=i:=hg;omega) fun h' eb=>⟨rfl,I.turned (t':=s.toks) (fun b o hb e=>eb b o hb e) f0 f1 f3 f4 f5⟩
  self:=fun _ _ _ _ _ st h=>wpAny_pyIter_rangeiter st h
end L2
namespace L2
open PySem PySem.Spec PyProof.Rows
section
variable {X:Cx} {tg:Expr}
theorem ng {pins:List (Addr × Obj)} {σ:St} {H:Hp} {s:Shared} {R:It->Hp->Prop} {E:Value->Shared->Prop} {lo hi:Int} {t u v:Tok} {tk:Nat} (I:Inv X pins σ H s) (h1:-(2 ^ 62)<=lo) (h2:lo < 2 ^ 62) (h3:-(2 ^ 62)<=hi) (h4:hi < 2 ^ 62)
    (q:R (Itr lo (hi - lo).toNat) H):wpAny (model X.prog X.w) X.A (pyIter (.ref s.heap.objs.size)) (PIE X pins σ tg R) E { s with heap:=s.heap.push { cls:=.type "range",data:=.fields #[.int lo t,.int hi u,.int 1 v] },toks:=tk }:=by
  refine wpAny_pyIter_range (IsRange.new ..) (small_one h1 h2 h3 h4) ?_
  have I1:Inv X pins σ H { s with heap:=s.heap.push { cls:=.type "range",data:=.fields #[.int lo t,.int hi u,.int 1 v] },toks:=tk }:=I.kept fun b o e=>z4 _ e
  refine ⟨(s.heap.push { cls:=.type "range",data:=.fields #[.int lo t,.int hi u,.int 1 v] }).objs.size,[(s.heap.push { cls:=.type "range",data:=.fields #[.int lo t,.int hi u,.int 1 v] }).objs.size],_,_,H,rfl,
    I1.kept (t':=tk) fun b o e=>z4 _ e,oN _ lo (hi - lo).toNat,?_,fun b hb=>?_,q⟩
  · have e1:lo+((0:Nat):Int) * 1=lo:=by simp
    have e2:(((hi - lo).toNat:Nat):Int) - ((0:Nat):Int)=Builtin.Range.rangeSize lo hi 1:=by rw [rangeSize_one];split <;> omega
    show IsRangeIter _ _ (lo+((0:Nat):Int) * 1) ((((hi - lo).toNat:Nat):Int) - ((0:Nat):Int)) 1
    rw [e1,e2]
    exact Ac _ rfl
  · have e:b=(s.heap.push { cls:=.type "range",data:=.fields #[.int lo t,.int hi u,.int 1 v] }).objs.size:=by simpa using hb
    subst e
    exact I1.fpOk (Aj _) (I1.hok.fresh (Aj _))
noncomputable def xK (ta:TA):TI:=fun σ H R=>ta σ H fun vs H1=>∃ j:Int,vs=[.int j]/\-(2 ^ 62)<=j/\j < 2 ^ 62/\R (Itr 0 j.toNat) H1
noncomputable def xJ (ta:TA):TI:=fun σ H R=>ta σ H fun vs H1=>∃ i j:Int,vs=[.int i,.int j]/\(-(2 ^ 62)<=i/\i < 2 ^ 62/\-(2 ^ 62)<=j/\j < 2 ^ 62)/\R (Itr i (j - i).toNat) H1
theorem rm {a:Expr} {ta:TA} {p pos:Pos} (hg:Gl X "range") (hm:X.mg "range"=none) (ha:PA X [a] ta) (hs:starEach [a] X.env=[(false,eval a X.env)]:=by rfl):PI X tg (.Call (.Name "range" p) [a] [] pos) (xK ta):=by
  intro pins s σ H R I h
  refine Call_ (gN I hg hm boot_range (PyProof.Rows.callWith_type1 (thn (ha pos pins s σ H _ I h) fun us s1 ⟨vs,H1,I1,r1,q1⟩=>?_) hs rfl))
  obtain ⟨j,e,q1,q2,q⟩:=q1
  subst e
  cases r1 with
  | cons r rr =>
    cases rr
    obtain ⟨t,rfl⟩:=r
    exact call_range_1 (ng I1 (by omega) (by omega) q1 q2 (by simpa using q))
theorem rl {a b:Expr} {ta:TA} {p pos:Pos} (hg:Gl X "range") (hm:X.mg "range"=none) (ha:PA X [a,b] ta) (hs:starEach [a,b] X.env=[(false,eval a X.env),(false,eval b X.env)]:=by rfl) (hs2:starEach [b] X.env=[(false,eval b X.env)]:=by rfl) :
    PI X tg (.Call (.Name "range" p) [a,b] [] pos) (xJ ta):=by
  intro pins s σ H R I h
  refine Call_ (gN I hg hm boot_range (PyProof.Rows.callWith_type1 (thn (ha pos pins s σ H _ I h) fun us s1 ⟨vs,H1,I1,r1,q1⟩=>?_) (by rw [hs,hs2]) (by rw [hs2];rfl)))
  obtain ⟨i,j,e,⟨q1,q2,q3,q4⟩,q⟩:=q1
  subst e
  cases r1 with
  | cons r rr =>
    cases rr with
    | cons r' rr =>
      cases rr
      obtain ⟨t,rfl⟩:=r
      obtain ⟨t',rfl⟩:=r'
      exact call_range_2 (ng I1 q1 q2 q3 q4 q)
noncomputable def tFor (wi:TI) (g:TG) (tb:TS):TS:=fun D σ H=>wi σ H fun J H1=>∃ W:Nat->Nat->St->Hp->Prop,(∃ m,W 0 m σ H1)/\∀ i m σ H,W i m σ H ->
  (J.stop i H/\D.nx σ H)\/(J.go i H/\∃ N:St->Hp->Prop,(∀ σ' H',N σ' H'->∃ m',m' < m/\W (i+1) m' σ' H')/\∀ x H',J.yld i H x H'->g x σ H' fun σ2 H2=>tb { D with nx:=N,ct:=N,bk:=D.nx } σ2 H2)
noncomputable def j7 (fp:List Addr) (h:Heap):List (Addr × Obj):=fp.filterMap fun b=>(h.get? b).map fun o=>(b,o)
theorem ft {fp:List Addr} {h:Heap} {b:Addr} {o:Obj} (hb:b ∈ fp) (e:h.get? b=some o):(b,o) ∈ j7 fp h:=List.mem_filterMap.mpr ⟨b,hb,by rw [e];rfl⟩
theorem rq {fp:List Addr} {h:Heap} {p:Addr × Obj} (hp:p ∈ j7 fp h):p.1 ∈ fp/\h.get? p.1=some p.2:=by
  obtain ⟨b,hb,e⟩:=List.mem_filterMap.mp hp
  cases q:h.get? b with
  | none=>rw [q] at e;cases e
  | some o =>
    rw [q] at e
    have e':(b,o)=p:=AL e
    subst e'
    exact ⟨hb,q⟩
theorem Inv.pinned {pins:List (Addr × Obj)} {σ:St} {H:Hp} {s:Shared} {fp:List Addr} (I:Inv X pins σ H s) (hf:∀ b ∈ fp,FpOk X pins H b) (ho:∀ b ∈ fp,∃ o,s.heap.get? b=some o/\∀ v,o.data ≠ .cell v):Inv X (pins ++ j7 fp s.heap) σ H s :=
  I.pins_of fun p hp=>(Ab.mp hp).elim (fun z=>I.pin p (z7 _ z)) fun z=>by
    obtain ⟨hb,e⟩:=rq z
    obtain ⟨f0,f1,f2,_⟩:=hf p.1 hb
    obtain ⟨o,e',d⟩:=ho p.1 hb
    rw [e] at e';cases e'
    exact ⟨e,f0,f1,f2,d⟩
theorem Inv.unpinned {pins pl:List (Addr × Obj)} {σ:St} {H:Hp} {s:Shared} (I:Inv X (pins ++ pl) σ H s):Inv X pins σ H s:=I.pins_of fun p hp=>I.pin p (z7 _ (z6 _ hp))
set_option tactic.hygienic true in
theorem yQ {iter:Expr} {body:List Stmt} {wi:TI} {g:TG} {tb:TS} {pos:Pos} (hp:PassesOwn (model X.prog X.w) X.A X.env X.xe) (hc:X.calm=true) (hi:PI X tg iter wi) (hg:PG X tg g) (hb:PSs X body tb)
    (hs:∀ x,foldedSetIterable iter X.env x=pure x:=by intro _;rfl):PS X (.For tg iter body [] pos) (tFor wi g tb):=by
  intro pins s σ H D I h
  refine wpAny_For (thn (hi pins s σ H _ I h) fun v s1 h1=>thn h1 fun itv s2 h2=>?_) hs
  obtain ⟨it,fp,tn,J,H2,e,I2,T,st2,f2,W,⟨m0,w0⟩,turn⟩:=h2
  subst e
  have stat:∀ {H':Hp},(∀ b ∈ fp,H' b=none)->∀ b ∈ fp,FpOk X pins H' b:=fun hn b hb=>⟨hn b hb,(f2 b hb).2⟩
  refine codeAny_forLoop_any (fun n s'=>∃ i σ' H',Inv X pins σ' H' s'/\tn i s'.heap/\(∀ b ∈ fp,H' b=none)/\W i n σ' H') ?_ m0 ⟨0,σ,H2,I2,st2,fun b hb=>(f2 b hb).1,w0⟩
  rintro n s3 ⟨i,σ3,H3,I3,st3,fr3,w3⟩
  rcases turn i n σ3 H3 w3 with ⟨stop,qn⟩ | ⟨go,N,hN,step⟩
  · refine wpAny_passesOwn hp (thn (T.done X rfl rfl rfl hc i pins s3 σ3 H3 X.xe I3 (stat fr3) st3 stop) fun r s4 ⟨hr,I4⟩=>?_)
    subst hr
    exact wpAny_execs_nil ⟨σ3,H3,I4,qn⟩
  · refine wpAny_passesOwn hp (thn (T.item X rfl rfl rfl hc i pins s3 σ3 H3 X.xe I3 (stat fr3) st3 go) fun r s4 ⟨u,hr,h4⟩=>?_)
    subst hr
    refine wpAny_passesOwn hp (thn h4 fun _ s5 ⟨x,H5,I5,r5,y5,st5,fr5⟩=>?_)
    have I5':=I5.pinned (stat fr5) (T.obj _ _ st5)
    refine wpAny_passesOwn hp (thn (hg _ s5 σ3 H5 x u _ I5' r5 (step x H5 y5)) fun _ s6 ⟨σ6,H6,I6,q6⟩=>?_)
    refine wpAny_passesOwn hp (thn (hb _ s6 σ6 H6 _ I6 q6) fun f s7 q7=>?_)
    have again:∀ {σ7:St} {H7:Hp},Inv X (pins ++ j7 fp s5.heap) σ7 H7 s7->N σ7 H7->∃ m,m < n/\∃ i σ' H',Inv X pins σ' H' s7/\tn i s7.heap/\(∀ b ∈ fp,H' b=none)/\W i m σ' H':=fun {σ7 H7} I7 n7=>by
      obtain ⟨m',hm,w7⟩:=hN σ7 H7 n7
      refine ⟨m',hm,i+1,σ7,H7,I7.unpinned,T.keep _ _ _ st5 fun b hb o e=>(I7.pin (b,o) (z7 _ (z7 _ (ft hb e)))).1,fun b hb=>?_,w7⟩
      obtain ⟨o,e,d⟩:=T.obj _ _ st5 b hb
      exact (I7.pin (b,o) (z7 _ (z7 _ (ft hb e)))).2.1
    cases f with
    | next=>obtain ⟨σ7,H7,I7,n7⟩:=q7;exact again I7 n7
    | cont=>obtain ⟨σ7,H7,I7,n7⟩:=q7;exact again I7 n7
    | brk=>obtain ⟨σ7,H7,I7,q7⟩:=q7;exact ⟨σ7,H7,I7.unpinned,q7⟩
    | ret v=>obtain ⟨x7,σ7,H7,I7,r7,q7⟩:=q7;exact ⟨x7,σ7,H7,I7.unpinned,r7,q7⟩
end
end L2
namespace L2
open PySem PySem.Spec PyProof.Rows
noncomputable abbrev R2:=V->V->Hp->VK->Prop
noncomputable def OpR (X:Cx) (f:Value->Value->Sem Value) (r:R2):Prop :=
  ∀ (pins:List (Addr × Obj)) (s:Shared) (σ:St) (H:Hp) (x y:V) (v u:Value) (Q:VK),Inv X pins σ H s->RelV x v->RelV y u->r x y H Q ->
    wpAny (model X.prog X.w) X.A (f v u) (EP X pins σ Q) X.xe s
noncomputable def UnR (X:Cx) (f:Value->Sem Value) (r:V->Hp->VK->Prop):Prop :=
  ∀ (pins:List (Addr × Obj)) (s:Shared) (σ:St) (H:Hp) (x:V) (v:Value) (Q:VK),Inv X pins σ H s->RelV x v->r x H Q ->
    wpAny (model X.prog X.w) X.A (f v) (EP X pins σ Q) X.xe s
noncomputable def CallR (X:Cx) (f:Value) (r:List V->Hp->VK->Prop):Prop :=
  ∀ (pins:List (Addr × Obj)) (s:Shared) (σ:St) (H:Hp) (xs:List V) (us:List Value) (Q:VK),Inv X pins σ H s->Vals xs us->r xs H Q ->
    wpAny (model X.prog X.w) X.A (call f us) (EP X pins σ Q) X.xe s
noncomputable def tOp (r:R2) (ta tb:TE):TE:=fun σ H Q=>ta σ H fun x H1=>tb σ H1 fun y H2=>r x y H2 Q
noncomputable def tUn (r:V->Hp->VK->Prop) (ta:TE):TE:=fun σ H Q=>ta σ H fun x H1=>r x H1 Q
noncomputable def rI (C:Int->Int->Prop) (g:Int->Int->V):R2:=fun x y H Q=>∃ i j,x=.int i/\y=.int j/\C i j/\Q (g i j) H
noncomputable def rI0 (g:Int->Int->V):R2:=fun x y H Q=>∃ i j,x=.int i/\y=.int j/\Q (g i j) H
noncomputable def rU (g:Int->V):V->Hp->VK->Prop:=fun x H Q=>∃ i,x=.int i/\Q (g i) H
section
variable {X:Cx} {a b c:Expr} {ta tb tc:TE} {pos:Pos}
theorem zP (ha:PE X a ta) (hb:PE X b tb) {pins:List (Addr × Obj)} {s:Shared} {σ:St} {H:Hp} {R:V->V->Hp->Prop} (I:Inv X pins σ H s)
    (h:ta σ H fun x H1=>tb σ H1 fun y H2=>R x y H2) {Q:Value->Shared->Prop} {f:Value->Value->Sem Value}
    (hf:∀ v u s2 x y H2,Inv X pins σ H2 s2->RelV x v->RelV y u->R x y H2->wpAny (model X.prog X.w) X.A (f v u) Q X.xe s2) :
    wpAny (model X.prog X.w) X.A (eval a X.env) (fun v s₁=>wpAny (model X.prog X.w) X.A (eval b X.env) (fun u s₂=>wpAny (model X.prog X.w) X.A (f v u) Q X.xe s₂) X.xe s₁) X.xe s:=by
  refine thn (ha pins s σ H _ I h) fun v s1 ⟨x,H1,I1,r1,q1⟩=>?_
  refine thn (hb pins s1 σ H1 _ I1 q1) fun u s2 ⟨y,H2,I2,r2,q2⟩=>?_
  exact hf v u s2 x y H2 I2 r1 r2 q2
theorem pe_op {op:Operator} {r:R2} (ho:OpR X (binaryOp op) r) (ha:PE X a ta) (hb:PE X b tb):PE X (.BinOp a op b pos) (tOp r ta tb):=by
  intro pins s σ H Q I h
  exact wpAny_BinOp (zP ha hb I h fun v u s2 x y H2 I2 rx ry q=>ho pins s2 σ H2 x y v u Q I2 rx ry q)
theorem pe_un {op:UnaryOp} {r:V->Hp->VK->Prop} (ho:UnR X (unaryOp op) r) (ha:PE X a ta):PE X (.UnaryOp op a pos) (tUn r ta):=by
  intro pins s σ H Q I h
  exact UnaryOp_ (thn (ha pins s σ H _ I h) fun v s1 ⟨x,H1,I1,r1,q1⟩=>ho pins s1 σ H1 x v Q I1 r1 q1)
theorem opI {f:Value->Value->Sem Value} {C:Int->Int->Prop} {g:Int->Int->Int}
    (rule:∀ (i j:Int) (t u:Tok) (s:Shared) (Q:Value->Shared->Prop) (E:Value->Shared->Prop),C i j->Q (.int (g i j) s.toks) { s with toks:=s.toks+1 }->wpAny (model X.prog X.w) X.A (f (.int i t) (.int j u)) Q E s) :
    OpR X f (rI C fun i j=>.int (g i j)):=by
  intro pins s σ H x y v u Q I rx ry h
  obtain ⟨i,j,rfl,rfl,hc,q⟩:=h
  obtain ⟨t,rfl⟩:=rx
  obtain ⟨t',rfl⟩:=ry
  exact rule i j t t' s _ _ hc ⟨.int (g i j),H,I.tok _,⟨_,rfl⟩,q⟩
theorem opI0 {f:Value->Value->Sem Value} {g:Int->Int->Int}
    (rule:∀ (i j:Int) (t u:Tok) (s:Shared) (Q:Value->Shared->Prop) (E:Value->Shared->Prop),Q (.int (g i j) s.toks) { s with toks:=s.toks+1 }->wpAny (model X.prog X.w) X.A (f (.int i t) (.int j u)) Q E s) :
    OpR X f (rI0 fun i j=>.int (g i j)):=by
  intro pins s σ H x y v u Q I rx ry h
  obtain ⟨i,j,rfl,rfl,q⟩:=h
  obtain ⟨t,rfl⟩:=rx
  obtain ⟨t',rfl⟩:=ry
  exact rule i j t t' s _ _ ⟨.int (g i j),H,I.tok _,⟨_,rfl⟩,q⟩
theorem wr {f:Value->Value->Sem Value} {g:Int->Int->Bool}
    (rule:∀ (i j:Int) (t u:Tok) (s:Shared) (Q:Value->Shared->Prop) (E:Value->Shared->Prop),Q (.bool (g i j)) s->wpAny (model X.prog X.w) X.A (f (.int i t) (.int j u)) Q E s) :
    OpR X f (rI0 fun i j=>.bl (g i j)):=by
  intro pins s σ H x y v u Q I rx ry h
  obtain ⟨i,j,rfl,rfl,q⟩:=h
  obtain ⟨t,rfl⟩:=rx
  obtain ⟨t',rfl⟩:=ry
  exact rule i j t t' s _ _ ⟨.bl (g i j),H,I,rfl,q⟩
noncomputable def sG (i j:Int):Prop:=0 < j/\j < 1073741824
noncomputable def u5 (i j:Int):Prop:=0<=j/\j<=1000000/\i.natAbs < 2 ^ 64
noncomputable def CMul (i j:Int):Prop:=(-(2 ^ 64) < i/\i < 2 ^ 64)\/(-(2 ^ 64) < j/\j < 2 ^ 64)
theorem CMul.ok {i j:Int} (h:CMul i j):IntMulOk i j:=by
  rcases h with ⟨h1,h2⟩ | ⟨h1,h2⟩
  · exact .of_left (intBits_le_64 h1 h2)
  · exact .of_right (intBits_le_64 h1 h2)
theorem op_add:OpR X (binaryOp .Add) (rI0 fun i j=>.int (i+j)):=opI0 fun _ _ _ _ _ _ _ q=>add_int q
theorem cg:OpR X (binaryOp .Sub) (rI0 fun i j=>.int (i - j)):=opI0 fun _ _ _ _ _ _ _ q=>sub_int q
theorem ci:OpR X (binaryOp .Mult) (rI CMul fun i j=>.int (i * j)):=opI fun _ _ _ _ _ _ _ hc q=>mul_int q hc.ok
theorem iK:OpR X (binaryOp .Mod) (rI (fun _ j=>0 < j) fun i j=>.int (i % j)):=opI fun i j _ _ _ _ _ hc q=>by
  have h1:(0:Int) < j:=hc
  exact mod_int' (by omega) (by rw [Int.fmod_eq_emod_of_nonneg i (by omega)];exact q)
theorem t0:OpR X (binaryOp .Pow) (rI u5 fun i j=>.int (i ^ j.toNat)):=opI fun _ _ _ _ _ _ _ hc q=>pow_int_small hc.1 hc.2.1 hc.2.2 q
theorem unI {f:Value->Sem Value} {g:Int->Int}
    (rule:∀ (i:Int) (t:Tok) (s:Shared) (Q:Value->Shared->Prop) (E:Value->Shared->Prop),Q (.int (g i) s.toks) { s with toks:=s.toks+1 }->wpAny (model X.prog X.w) X.A (f (.int i t)) Q E s) :
    UnR X f (rU fun i=>.int (g i)):=by
  intro pins s σ H x v Q I rx h
  obtain ⟨i,rfl,q⟩:=h
  obtain ⟨t,rfl⟩:=rx
  exact rule i t s _ _ ⟨.int (g i),H,I.tok _,⟨_,rfl⟩,q⟩
theorem jJ:UnR X (unaryOp .USub) (rU fun i=>.int (-i)):=unI fun _ _ _ _ _ q=>neg_int q
end
noncomputable def yw:V->V->Bool
  | .non,.non=>true | .non,.int _=>true | .int _,.non=>true | .non,.bl _=>true | .bl _,.non=>true | .non,.str _=>true | .str _,.non=>true
  | .int _,.int _=>true | .bl _,.bl _=>true | .str _,.str _=>true | .byt _,.byt _=>true
  | .int _,.str _=>true | .str _,.int _=>true | .bl _,.str _=>true | .str _,.bl _=>true
  | _,_=>false
noncomputable def rEq:R2:=fun x y H Q=>yw x y=true/\Q (.bl (decide (x=y))) H
noncomputable def rNe:R2:=fun x y H Q=>yw x y=true/\Q (.bl (!decide (x=y))) H
theorem qD {i j:Int}:decide (V.int i=V.int j)=(i == j):=by
  rw [Bool.eq_iff_iff]
  simp
theorem uK {i j:Bool}:decide (V.bl i=V.bl j)=(i == j):=by
  rw [Bool.eq_iff_iff]
  simp
theorem qC {i j:Str}:decide (V.str i=V.str j)=(i == j):=by
  rw [Bool.eq_iff_iff]
  simp
theorem qE {i j:Array UInt8}:decide (V.byt i=V.byt j)=(i.toList == j.toList):=by
  rw [Bool.eq_iff_iff]
  cases i
  cases j
  simp
section
variable {X:Cx} {a b c:Expr} {ta tb tc:TE} {pos:Pos}
theorem aM {pins:List (Addr × Obj)} {σ:St} {H:Hp} {s:Shared} {Q:VK} {k k':Bool} (I:Inv X pins σ H s) (q:Q (.bl k) H) (e:k=k'):EP X pins σ Q (.bool k') s:=by
  subst e
  exact ⟨.bl k,H,I,rfl,q⟩
theorem op_eq:OpR X (compareOp .Eq) rEq:=by
  intro pins s σ H x y v u Q I rx ry h
  obtain ⟨hs,q⟩:=h
  cases x with
  | non =>
    cases rx
    cases y with
    | non=>cases ry;exact PySem.EqNone.eq_none_none (aM I q (by simp))
    | bl j=>cases ry;exact PySem.EqNone.eq_none_bool (aM I q (by simp))
    | int j=>obtain ⟨t',rfl⟩:=ry;exact PySem.EqNone.eq_none_int (aM I q (by simp))
    | str j=>obtain ⟨t',rfl⟩:=ry;exact PySem.EqNone.eq_none_str (aM I q (by simp))
    | _=>exact absurd (show false=true from hs) Ak
  | bl i =>
    cases rx
    cases y with
    | non=>cases ry;exact PySem.EqNone.eq_bool_none (aM I q (by simp))
    | bl j=>cases ry;exact eq_bool (aM I q uK)
    | str j=>obtain ⟨t',rfl⟩:=ry;exact PySem.EqMixed.eq_bool_str (aM I q (by simp))
    | _=>exact absurd (show false=true from hs) Ak
  | int i =>
    obtain ⟨t,rfl⟩:=rx
    cases y with
    | non=>cases ry;exact PySem.EqNone.eq_int_none (aM I q (by simp))
    | int j=>obtain ⟨t',rfl⟩:=ry;exact eq_int (aM I q qD)
    | str j=>obtain ⟨t',rfl⟩:=ry;exact PySem.EqMixed.eq_int_str (aM I q (by simp))
    | _=>exact absurd (show false=true from hs) Ak
  | str i =>
    obtain ⟨t,rfl⟩:=rx
    cases y with
    | non=>cases ry;exact PySem.EqNone.eq_str_none (aM I q (by simp))
    | bl j=>cases ry;exact PySem.EqMixed.eq_str_bool (aM I q (by simp))
    | int j=>obtain ⟨t',rfl⟩:=ry;exact PySem.EqMixed.eq_str_int (aM I q (by simp))
    | str j=>obtain ⟨t',rfl⟩:=ry;exact eq_str (aM I q qC)
    | _=>exact absurd (show false=true from hs) Ak
  | byt i =>
    obtain ⟨t,rfl⟩:=rx
    cases y with
    | byt j=>obtain ⟨t',rfl⟩:=ry;exact PySem.W.eq_bytes (aM I q qE)
    | _=>exact absurd (show false=true from hs) Ak
  | _=>cases y <;> exact absurd (show false=true from hs) Ak
theorem op_ne:OpR X (compareOp .NotEq) rNe:=by
  intro pins s σ H x y v u Q I rx ry h
  obtain ⟨hs,q⟩:=h
  cases x with
  | non =>
    cases rx
    cases y with
    | non=>cases ry;exact PySem.EqNone.ne_none_none (aM I q (by simp))
    | bl j=>cases ry;exact PySem.EqNone.ne_none_bool (aM I q (by simp))
    | int j=>obtain ⟨t',rfl⟩:=ry;exact PySem.EqNone.ne_none_int (aM I q (by simp))
    | str j=>obtain ⟨t',rfl⟩:=ry;exact PySem.EqNone.ne_none_str (aM I q (by simp))
    | _=>exact absurd (show false=true from hs) Ak
  | bl i =>
    cases rx
    cases y with
    | non=>cases ry;exact PySem.EqNone.ne_bool_none (aM I q (by simp))
    | bl j=>cases ry;exact ne_bool (aM I q (congrArg not uK))
    | str j=>obtain ⟨t',rfl⟩:=ry;exact PySem.EqMixed.ne_bool_str (aM I q (by simp))
    | _=>exact absurd (show false=true from hs) Ak
  | int i =>
    obtain ⟨t,rfl⟩:=rx
    cases y with
    | non=>cases ry;exact PySem.EqNone.ne_int_none (aM I q (by simp))
    | int j=>obtain ⟨t',rfl⟩:=ry;exact ne_int (aM I q (congrArg not qD))
    | str j=>obtain ⟨t',rfl⟩:=ry;exact PySem.EqMixed.ne_int_str (aM I q (by simp))
    | _=>exact absurd (show false=true from hs) Ak
  | str i =>
    obtain ⟨t,rfl⟩:=rx
    cases y with
    | non=>cases ry;exact PySem.EqNone.ne_str_none (aM I q (by simp))
    | bl j=>cases ry;exact PySem.EqMixed.ne_str_bool (aM I q (by simp))
    | int j=>obtain ⟨t',rfl⟩:=ry;exact PySem.EqMixed.ne_str_int (aM I q (by simp))
    | str j=>obtain ⟨t',rfl⟩:=ry;exact ne_str (aM I q (congrArg not qC))
    | _=>exact absurd (show false=true from hs) Ak
  | byt i =>
    obtain ⟨t,rfl⟩:=rx
    cases y with
    | byt j=>obtain ⟨t',rfl⟩:=ry;exact PySem.W.ne_bytes (aM I q (congrArg not qE))
    | _=>exact absurd (show false=true from hs) Ak
  | _=>cases y <;> exact absurd (show false=true from hs) Ak
theorem nv:OpR X (compareOp .Lt) (rI0 fun i j=>.bl (decide (i < j))):=wr fun _ _ _ _ _ _ _ q=>lt_int q
theorem lx:OpR X (compareOp .LtE) (rI0 fun i j=>.bl (decide (i<=j))):=wr fun _ _ _ _ _ _ _ q=>le_int q
theorem xF:OpR X (compareOp .Gt) (rI0 fun i j=>.bl (decide (j < i))):=wr fun _ _ _ _ _ _ _ q=>gt_int q
theorem op_ge:OpR X (compareOp .GtE) (rI0 fun i j=>.bl (decide (j<=i))):=wr fun _ _ _ _ _ _ _ q=>ge_int q
theorem zc : OpR X (compareOp .Is) (fun x y H Q => y = .non /\ Q (.bl (decide (x = .non))) H) := by
  intro pins s σ H x y v u Q I rx ry h
  obtain ⟨rfl, q⟩ := h
  cases ry
  refine is_none_gen (aM I q ?_)
  cases x <;> first
    | (cases rx; rfl)
    | (obtain ⟨t, rfl⟩ := rx; rfl)
theorem wq : OpR X (compareOp .IsNot) (fun x y H Q => y = .non /\ Q (.bl (!decide (x = .non))) H) := by
  intro pins s σ H x y v u Q I rx ry h
  obtain ⟨rfl, q⟩ := h
  cases ry
  refine isnot_none_gen (aM I q ?_)
  cases x <;> first
    | (cases rx; rfl)
    | (obtain ⟨t, rfl⟩ := rx; rfl)
theorem OpR.or {f:Value->Value->Sem Value} {r r':R2} (h:OpR X f r) (h':OpR X f r'):OpR X f (fun x y H Q=>r x y H Q\/r' x y H Q):=by
  intro pins s σ H x y v u Q I rx ry q
  rcases q with q | q
  · exact h pins s σ H x y v u Q I rx ry q
  · exact h' pins s σ H x y v u Q I rx ry q
theorem ba (b : Expr) {op : CmpOp} (h : op ≠ .In := by decide) (h2 : op ≠ .NotIn := by decide) : behindInMarks op b = false := by
  have e1 : (op == CmpOp.In) = false := by cases op <;> first | rfl | exact absurd rfl h
  have e2 : (op == CmpOp.NotIn) = false := by cases op <;> first | rfl | exact absurd rfl h2
  cases b <;> simp [behindInMarks, e1, e2]
theorem wk {op:CmpOp} {r:R2} (ho:OpR X (compareOp op) r) (ha:PE X a ta) (hb:PE X b tb) (hm:behindInMarks op b=false):PE X (.Compare a [op] [b] pos) (tOp r ta tb):=by
  intro pins s σ H Q I h
  exact wpAny_Compare1 (zP ha hb I h fun v u s2 x y H2 I2 rx ry q=>ho pins s2 σ H2 x y v u Q I2 rx ry q) hm
noncomputable def xr (t:TE):TT:=fun σ H Q=>t σ H fun x H'=>∃ k,x=.bl k/\Q k H'
theorem vX {op:CmpOp} {r:R2} (ho:OpR X (compareOp op) r) (ha:PE X a ta) (hb:PE X b tb) (hm:behindInMarks op b=false):PT X (.Compare a [op] [b] pos) (xr (tOp r ta tb)):=by
  intro pins s σ H Q I h
  refine wpAny_isTrue_Compare1 (thn (ha pins s σ H _ I h) fun v s1 ⟨x,H1,I1,r1,q1⟩=>thn (hb pins s1 σ H1 _ I1 q1) fun u s2 ⟨y,H2,I2,r2,q2⟩ =>
    thn (ho pins s2 σ H2 x y v u _ I2 r1 r2 q2) fun c s3 ⟨z,H3,I3,r3,k,e,q3⟩=>?_) hm
  subst e
  cases r3
  exact AF ⟨H3,I3,q3⟩
noncomputable def lQ (r r':R2) (ta tb tc:TE):TE:=fun σ H Q=>ta σ H fun x H1=>tb σ H1 fun y H2=>r x y H2 fun z H3=>∃ k,z=.bl k /\
  (if k=true then tc σ H3 fun w' H4=>r' y w' H4 Q else Q (.bl false) H3)
theorem tY {op op':CmpOp} {r r':R2} (ho:OpR X (compareOp op) r) (ho':OpR X (compareOp op') r') (ha:PE X a ta) (hb:PE X b tb) (hc:PE X c tc)
    (hm:lastMarks [op,op'] [b,c]=false:=by with_unfolding_all rfl):PE X (.Compare a [op,op'] [b,c] pos) (lQ r r' ta tb tc):=by
  intro pins s σ H Q I h
  refine Compare_chain (thn (ha pins s σ H _ I h) fun v s1 ⟨x,H1,I1,r1,q1⟩=>chain_link (thn (hb pins s1 σ H1 _ I1 q1) fun u s2 ⟨y,H2,I2,r2,q2⟩ =>
    thn (ho pins s2 σ H2 x y v u _ I2 r1 r2 q2) fun d s3 ⟨z,H3,I3,r3,k,e,q3⟩=>?_)) hm
  subst e
  cases r3
  refine AF ?_
  cases k with
  | false=>exact ite_ff ⟨.bl false,H3,I3,rfl,q3⟩
  | true=>exact ite_tt (chain_last (thn (hc pins s3 σ H3 _ I3 q3) fun w' s4 ⟨z',H4,I4,r4,q4⟩=>ho' pins s4 σ H4 y z' u w' Q I4 r2 r4 q4))
theorem tK {op op':CmpOp} {r r':R2} (ho:OpR X (compareOp op) r) (ho':OpR X (compareOp op') r') (ha:PE X a ta) (hb:PE X b tb) (hc:PE X c tc)
    (hm:lastMarks [op,op'] [b,c]=false:=by with_unfolding_all rfl):PT X (.Compare a [op,op'] [b,c] pos) (xr (lQ r r' ta tb tc)):=by
  intro pins s σ H Q I h
  refine isTrue_chain (thn (ha pins s σ H _ I h) fun v s1 ⟨x,H1,I1,r1,q1⟩=>test_link (thn (hb pins s1 σ H1 _ I1 q1) fun u s2 ⟨y,H2,I2,r2,q2⟩ =>
    thn (ho pins s2 σ H2 x y v u _ I2 r1 r2 q2) fun d s3 ⟨z,H3,I3,r3,k,e,q3⟩=>?_)) hm
  subst e
  cases r3
  refine AF ?_
  cases k with
  | false =>
    obtain ⟨k',e',q'⟩:=q3
    cases e'
    exact ite_ff ⟨H3,I3,q'⟩
  | true =>
    refine ite_tt (test_last (thn (hc pins s3 σ H3 _ I3 q3) fun w' s4 ⟨z',H4,I4,r4,q4⟩=>thn (ho' pins s4 σ H4 y z' u w' _ I4 r2 r4 q4) fun d' s5 ⟨z2,H5,I5,r5,k2,e2,q5⟩=>?_))
    subst e2
    cases r5
    exact AF ⟨H5,I5,q5⟩
theorem mh:(sizeLine:Nat) < 2 ^ 63:=by rw [sizeLine_eq];decide
theorem op_add_str:OpR X (binaryOp .Add) (fun x y H Q=>∃ i j,x=.str i/\y=.str j/\i.length+j.length<=sizeLine/\Q (.str (i ++ j)) H):=by
  intro pins s σ H x y v u Q I rx ry h
  obtain ⟨i,j,rfl,rfl,hz,q⟩:=h
  obtain ⟨t,rfl⟩:=rx
  obtain ⟨t',rfl⟩:=ry
  exact add_str (fun t' tk=>⟨.str (i ++ j),H,I.tok _,⟨_,rfl⟩,q⟩) hz
theorem jI {x:V} {us:List Value} (r:Vals [x] us):∃ u,us=[u]/\RelV x u:=by
  cases r with
  | cons r1 r2=>cases r2;exact ⟨_,rfl,r1⟩
theorem lg {x y:V} {us:List Value} (r:Vals [x,y] us):∃ u w',us=[u,w']/\RelV x u/\RelV y w':=by
  cases r with
  | cons r1 r2 =>
    cases r2 with
    | cons r3 r4=>cases r4;exact ⟨_,_,rfl,r1,r3⟩
theorem fc (hc:X.calm=true):CallR X (.builtin "max") (fun xs H Q=>∃ i j,xs=[.int i,.int j]/\Q (.int (if j > i then j else i)) H):=by
  intro pins s σ H xs us Q I r h
  obtain ⟨i,j,rfl,q⟩:=h
  obtain ⟨u,w',rfl,⟨t,rfl⟩,⟨t',rfl⟩⟩:=lg r
  refine max_two_ints (I.ok.hd hc) fun h' tk k=>⟨_,H,I.kept k,?_,q⟩
  by_cases hj:j > i
  · rw [if_pos hj,if_pos hj];exact ⟨_,rfl⟩
  · rw [if_neg hj,if_neg hj];exact ⟨_,rfl⟩
theorem eZ (hc:X.calm=true):CallR X (.builtin "min") (fun xs H Q=>∃ i j,xs=[.int i,.int j]/\Q (.int (if j < i then j else i)) H):=by
  intro pins s σ H xs us Q I r h
  obtain ⟨i,j,rfl,q⟩:=h
  obtain ⟨u,w',rfl,⟨t,rfl⟩,⟨t',rfl⟩⟩:=lg r
  refine min_two_ints (I.ok.hd hc) fun h' tk k=>⟨_,H,I.kept k,?_,q⟩
  by_cases hj:j < i
  · rw [if_pos hj,if_pos hj];exact ⟨_,rfl⟩
  · rw [if_neg hj,if_neg hj];exact ⟨_,rfl⟩
theorem oA:CallR X (.builtin "divmod") (fun xs H Q=>∃ i j,xs=[.int i,.int j]/\sG i j/\∀ p,H p=none->Q (.ref p) (upd H p (.tup [.int (i / j),.int (i % j)]))):=by
  intro pins s σ H xs us Q I r h
  obtain ⟨i,j,rfl,⟨h1,h2⟩,q⟩:=h
  obtain ⟨u,w',rfl,⟨t,rfl⟩,⟨t',rfl⟩⟩:=lg r
  refine divmod_int (by omega) ?_ (.inl (PyProof.noPylong_small (by omega)))
  rw [Int.fdiv_eq_ediv_of_nonneg i (by omega),Int.fmod_eq_emod_of_nonneg i (by omega)]
  have hn:H s.heap.objs.size=none:=I.hok.fresh (Aj _)
  refine ⟨.ref s.heap.objs.size,_,?_,rfl,q _ hn⟩
  refine I.laid (fun b o e=>z4 _ e) (Aj _) ⟨by simp only [Av,List.length_nil];rw [sizeLine_eq];decide,[.int (i / j) s.toks,.int (i % j) (s.toks+1)],.cons ⟨_,rfl⟩ (.cons ⟨_,rfl⟩ .nil),?_⟩
  exact ⟨_,Ac s.heap rfl,rfl,0,rfl⟩
end
end L2
namespace L2
open PySem PySem.Spec PyProof.Rows
theorem RelO.some_of {v:V} {o:Option Value} (r:RelO (some v) o):∃ u,o=some u/\RelV v u:=by
  cases o with
  | none=>exact (show False from r).elim
  | some u=>exact ⟨u,rfl,r⟩
end L2
namespace L2
open PySem PySem.Spec PyProof.Rows
structure Room (k:Nat) (A:Around):Prop where
  hd:A.handled=none
  dp:A.depth+3 * k+5 < recursionLimit
  un:A.units+16 * k+200 < cLine
  gd:A.guards=some []
theorem Room.mono {j k:Nat} {A:Around} (r:Room k A) (h:j<=k):Room j A:=⟨r.hd,by have:=r.dp;omega,by have:=r.un;omega,r.gd⟩
theorem Room.deeper {k:Nat} {A:Around} (r:Room (k+1) A) (env:Env):Room k (A.deeper env) :=
  ⟨r.hd,by have:=r.dp;show A.depth+1+3 * k+5 < _;omega,by have:=r.un;show A.units+3+16 * k+200 < _;omega,r.gd⟩
theorem Room.depth {k:Nat} {A:Around} (r:Room k A):A.depth < recursionLimit:=by have:=r.dp;omega
theorem Room.units {k:Nat} {A:Around} (r:Room k A):A.units+64 < cLine:=by have:=r.un;omega
noncomputable def vh:TA:=fun _ H Q=>Q [] H
noncomputable def mQ (ta:TE) (tr:TA):TA:=fun σ H Q=>ta σ H fun x H1=>tr σ H1 fun xs H2=>Q (x :: xs) H2
section
variable {X:Cx} {e:Expr} {es:List Expr} {te:TE} {t:TA} {pos:Pos}
theorem o6:PA X [] vh:=fun _ _ _ _ H Q I h=>Calls.spliced_nil ⟨[],H,I,.nil,h⟩
theorem jB (ha:PE X e te) (hr:PA X es t) (hs:starEach (e :: es) X.env=(false,eval e X.env) :: starEach es X.env:=by rfl):PA X (e :: es) (mQ te t):=by
  intro pos pins s σ H Q I h
  rw [hs]
  show wpAny _ _ (spliced ((false,eval e X.env) :: backTo pos (starEach es X.env))) _ _ s
  refine Calls.spliced_cons (thn (ha pins s σ H _ I h) fun u s1 ⟨x,H1,I1,r1,q1⟩=>?_)
  exact thn (hr pos pins s1 σ H1 _ I1 q1) fun us s2 ⟨xs,H2,I2,r2,q2⟩=>⟨x :: xs,H2,I2,.cons r1 r2,q2⟩
noncomputable def tTup (t:TA):TE:=fun σ H Q=>t σ H fun xs H1=>xs.length<=sizeLine/\∀ p,H1 p=none->Q (.ref p) (upd H1 p (.tup xs))
noncomputable def tLst (t:TA):TE:=fun σ H Q=>t σ H fun xs H1=>xs.length<=sizeLine/\∀ p,H1 p=none->Q (.ref p) (upd H1 p (.lst xs))
theorem yU {x1} (h:PA X es t):PE X (.Tuple es x1 pos) (tTup t):=by
  intro pins s σ H Q I hq
  refine wpAny_Tuple_spliced (thn (h pos pins s σ H _ I hq) fun us s1 ⟨xs,H1,I1,r,z,q⟩=>⟨by rw [<- r.length];exact z,?_⟩)
  have hf:H1 s1.heap.objs.size=none:=I1.hok.fresh (Aj _)
  refine ⟨.ref s1.heap.objs.size,upd H1 s1.heap.objs.size (.tup xs),I1.laid (t':=s1.toks) (fun b u e=>z4 _ e) (Aj _) ?_,rfl,q _ hf⟩
  exact ⟨z,us,r,⟨_,Ac _ rfl,rfl,_,rfl⟩⟩
theorem yZ (h:PA X es t):PE X (.List es pos) (tLst t):=by
  intro pins s σ H Q I hq
  refine wpAny_List_spliced (thn (h pos pins s σ H _ I hq) fun us s1 ⟨xs,H1,I1,r,z,q⟩=>⟨by rw [<- r.length];exact z,?_⟩)
  have hf:H1 s1.heap.objs.size=none:=I1.hok.fresh (Aj _)
  refine ⟨.ref s1.heap.objs.size,upd H1 s1.heap.objs.size (.lst xs),I1.laid (t':=s1.toks) (fun b u e=>z4 _ e) (Aj _) ?_,rfl,q _ hf⟩
  exact ⟨z,us,0,r,Ac _ rfl⟩
end
noncomputable abbrev Sp:=List V->Hp->VK->XK->Prop
noncomputable abbrev CXT:=List Env->Hp->Shared->XK->Value->Shared->Prop
structure Env0 (P:Program) (w:World) (K:FG) (mg:Str->Option Value) (base:Heap) (A:Around) (outer:List Env) (s:Shared) (H:Hp):Prop where
  frames:A.frames=some outer
  mod:Mod K mg base
  bs:∀ b o,base.get? b=some o->s.heap.get? b=some o/\H b=none
  bsz:base.objs.size<=s.heap.objs.size
  funs:s.heap.FunFrames base outer
  frf:∀ b ∈ frs outer,H b=none
  hok:HOk P w H s.heap
  bare:AllBare s.gens
noncomputable def CE (outer:List Env) (P:Program) (w:World) (H:Hp) (s:Shared) (Q:VK) (u:Value) (s':Shared):Prop :=
  ∃ v H',s'.os=s.os/\AllBare s'.gens/\Un (frs outer) [] H H' s.heap s'.heap/\HOk P w H' s'.heap/\RelV v u/\Q v H'
noncomputable def CR (CX:CXT) (outer:List Env) (P:Program) (w:World) (H:Hp) (s:Shared) (Q:VK) (E:XK) (r:Result) (s':Shared):Prop :=
  match r with
  | .ok (.ret u)=>CE outer P w H s Q u s'
  | .ok _=>False
  | .error e=>CX outer H s E e s'
structure FnOk (P:Program) (w:World) (K:FG) (mg:Str->Option Value) (base:Heap) (CX:CXT) (k:Nat) (f:Addr) (fd:FuncData) (ps:List Str) (sp:Sp):Prop where
  len:∀ vs H Q E,sp vs H Q E->vs.length=ps.length
  run:∀ (A:Around) (outer:List Env) (s:Shared) (H:Hp) (args:Args) (us:List Value) (vs:List V) (Q:VK) (E:XK),Room k A->Env0 P w K mg base A outer s H->BindsTo s fd args (ps.zip us)->Vals vs us->sp vs H Q E ->
    codeAny (model P w) A (.call (.ref f) args) (CR CX outer P w H s Q E) s
theorem FnOk.imp {P:Program} {w:World} {K:FG} {mg:Str->Option Value} {base:Heap} {CX:CXT} {k:Nat} {f:Addr} {fd:FuncData} {ps:List Str} {sp sp':Sp} (F:FnOk P w K mg base CX k f fd ps sp)
    (h:∀ vs H Q E,sp' vs H Q E->sp vs H Q E):FnOk P w K mg base CX k f fd ps sp' :=
  ⟨fun vs H Q E q=>F.len vs H Q E (h _ _ _ _ q),fun A outer s H args us vs Q E hr he hb hv hs=>F.run A outer s H args us vs Q E hr he hb hv (h _ _ _ _ hs)⟩
section
variable {X:Cx} {pins:List (Addr × Obj)} {σ:St} {H:Hp} {s s':Shared}
theorem Inv.env0 (I:Inv X pins σ H s):Env0 X.prog X.w X.K X.mg X.base X.A X.stack s H :=
  ⟨I.ok.frames,I.ok.mod,I.bs,AG I.ok.bsz I.sz,I.stack,I.stkFree,I.hok,I.bare⟩
theorem Inv.after {Q:VK} {u:Value} (I:Inv X pins σ H s) (h:CE X.stack X.prog X.w H s Q u s'):EP X pins σ Q u s':=by
  obtain ⟨v,H',os,bare,un,hok,r,q⟩:=h
  obtain ⟨hh,g,d,t,os'⟩:=s'
  obtain rfl:os'=s.os:=os
  exact ⟨v,H',I.call (h':=hh) (g':=g) (d':=d) (t':=t) (ch:=[]) un hok bare (fun b z=>absurd z (by simp)),r,q⟩
end
noncomputable def tCall (sp:Sp) (dvs:List V) (E:XK) (t:TA):TE:=fun σ H Q=>t σ H fun vs H1=>sp (vs ++ dvs) H1 Q E
noncomputable def Binds (K:FG) (fd:FuncData) (ps:List Str) (ds:List Value):Prop :=
  ∀ (s:Shared) (us:List Value),K.In s.heap->(us ++ ds).length=ps.length->BindsTo s fd ⟨us,[]⟩ (ps.zip (us ++ ds))
theorem Binds.all {K:FG} {fd:FuncData} {ps:List Str} (h:∀ us:List Value,us.length=ps.length->bindArgs fd ⟨us,[]⟩=pure (ps.zip us)):Binds K fd ps []:=fun s us _ hl=>by
  rw [List.append_nil] at hl ⊢
  exact .of_eq (h us hl)
noncomputable def pP (CX:CXT) (X:Cx) (E:XK):Prop:=∀ (pins:List (Addr × Obj)) (σ:St) (H:Hp) (s:Shared) (e:Value) (s':Shared),Inv X pins σ H s->CX X.stack H s E e s'->X.xe e s'
section
variable {X:Cx} {CX:CXT} {k:Nat} {f C:Addr} {fd:FuncData} {ps:List Str} {sp:Sp} {dvs:List V} {ds:List Value} {E:XK} {x m:Str} {p pos apos:Pos} {e o:Expr} {es:List Expr} {ta:TE} {t:TA}
set_option tactic.hygienic true in
theorem yB {pins:List (Addr × Obj)} {σ:St} {H:Hp} {s:Shared} {Q:VK} {us:List Value} {vs:List V} (F:FnOk X.prog X.w X.K X.mg X.base CX k f fd ps sp) (hr:Room k X.A) (hb:Binds X.K fd ps ds) (hd:Vals dvs ds) (hx:pP CX X E)
    (I:Inv X pins σ H s) (r:Vals vs us) (h:sp (vs ++ dvs) H Q E):wpAny (model X.prog X.w) X.A (call (.ref f) us) (EP X pins σ Q) X.xe s:=by
  have r2:Vals (vs ++ dvs) (us ++ ds):=r.append hd
  have hl:(us ++ ds).length=ps.length:=by rw [<- r2.length];exact F.len _ _ _ _ h
  refine wpAny_call (codeAny_mono (F.run X.A X.stack s H ⟨us,[]⟩ (us ++ ds) (vs ++ dvs) Q E hr I.env0 (hb s us I.kIn hl) r2 h) fun r s' hq=>?_)
  cases r with
  | error e=>exact hx pins σ H s e s' I hq
  | ok fl =>
    cases fl with
    | ret u=>exact I.after hq
    | next=>exact False.elim hq
    | brk=>exact False.elim hq
    | cont=>exact False.elim hq
theorem wl (F:FnOk X.prog X.w X.K X.mg X.base CX k f fd ps sp) (hr:Room k X.A) (hg:Gl X x) (hm:X.mg x=some (.ref f)) (hk:PySem.W.keepIn X.K (.ref f)=true) (hb:Binds X.K fd ps ds) (hd:Vals dvs ds) (hx:pP CX X E)
    (ha:PA X (e :: es) t) (hdb:(x == ("__debug__":Str))=false:=by decide) (he:starEach (e :: es) X.env=(false,eval e X.env) :: starEach es X.env:=by rfl) (hpl:(backTo pos (starEach es X.env)).any (·.1)=false:=by rfl) :
    PE X (.Call (.Name x p) (e :: es) [] pos) (tCall sp dvs E t):=by
  intro pins s σ H Q I h
  refine wpAny_Call_Name_kw (qr I hg hm ?_ hdb)
  refine PySem.W.callWith_K (h₀:=X.base) I.ok.mod.kin hk (thn (ha pos pins s σ H _ I h) fun us s1 ⟨vs,H1,I1,r,q⟩=>⟨I1.kIn,?_⟩) he hpl
  exact yB F hr hb hd hx I1 r q
end
noncomputable def PK (X:Cx) (kws:List Keyword) (t:TA):Prop :=
  ∀ (pos:Pos) (pins:List (Addr × Obj)) (s:Shared) (σ:St) (H:Hp) (Q:List V->Hp->Prop),Inv X pins σ H s->t σ H Q->wpAny (model X.prog X.w) X.A (evalAll ((backToKw pos (keywordEach kws X.env)).map (·.2))) (AP X pins σ Q) X.xe s
section
variable {X:Cx} {CX:CXT} {k:Nat} {f C:Addr} {fd:FuncData} {ps ks:List Str} {sp:Sp} {E:XK} {x m:Str} {p pos apos kpos:Pos} {e o:Expr} {es:List Expr} {kws:List Keyword} {te ta:TE} {t tk:TA} {nm:Option Str}
theorem yR:PK X [] vh:=fun _ _ _ _ H Q I h=>wpAny_evalAll_nil ⟨[],H,I,.nil,h⟩
theorem wd (ha:PE X e te) (hr:PK X kws t):PK X (⟨nm,e,kpos⟩ :: kws) (mQ te t):=by
  intro pos pins s σ H Q I h
  show wpAny _ _ (evalAll ((do let v <- eval e X.env;standAt pos;pure v) :: (backToKw pos (keywordEach kws X.env)).map (·.2))) _ _ s
  refine wpAny_evalAll_cons (zV (thn (ha pins s σ H _ I h) fun u s1 ⟨x,H1,I1,r1,q1⟩=>zV (wpAny_standAt (zW ?_))))
  exact thn (hr pos pins s1 σ H1 _ I1 q1) fun us s2 ⟨xs,H2,I2,r2,q2⟩=>⟨x :: xs,H2,I2,.cons r1 r2,q2⟩
variable {g:List Value->List Value->List Value} {gV:List V->List V->List V}
end
structure FnScope (N P:List Str) (sc:Scope):Prop where
  kind:sc.kind=.function
  co:sc.isCoroutine=false
  gen:sc.isGenerator=false
  nd:N.Nodup
  pre:N.take P.length=P
  par:∀ x ∈ P,sc.names.lookup x=some .local\/sc.names.lookup x=some .cell
  nofree:∀ y ∈ sc.names,y.2 ≠ .free
theorem lJ {kindOf:Str->Option NameKind} {x:Str}:∀ {binds:List (Str × Value)} {m:Str->Option Value},(∀ v,(x,v) ∉ binds)->bindL kindOf binds m x=m x
  | [],_,_=>rfl
  | (n,v) :: r,m,h=>by
    unfold bindL
    rw [lJ fun w hw=>h w (zZ _ hw)]
    split
    · have:x ≠ n:=by rintro rfl;exact h v zY
      simp [this]
    · rfl
theorem lL {kindOf:Str->Option NameKind} {x:Str}:∀ {binds:List (Str × Value)} {m:Str->Option Value},(∀ v,(x,v) ∉ binds)->bindC kindOf binds m x=m x
  | [],_,_=>rfl
  | (n,v) :: r,m,h=>by
    unfold bindC
    rw [lL fun w hw=>h w (zZ _ hw)]
    split
    · rfl
    · have:x ≠ n:=by rintro rfl;exact h v zY
      simp [this]
theorem lK {kindOf:Str->Option NameKind} {x:Str} {v:Value}:∀ {P:List Str} {vs:List Value} {i:Nat} {m:Str->Option Value},P.Nodup->P[i]?=some x->vs[i]?=some v->kindOf x=some .local ->
    bindL kindOf (P.zip vs) m x=some v
  | [],_,_,_,_,h,_,_=>by simp at h
  | _ :: _,[],_,_,_,_,h,_=>by simp at h
  | p :: P,w :: vs,0,m,nd,h1,h2,hk=>by
    simp at h1 h2;subst h1;subst h2
    show bindL kindOf ((p,w) :: P.zip vs) m p=_
    unfold bindL
    rw [lJ fun v hv=>(List.nodup_cons.mp nd).1 (List.of_mem_zip hv).1,if_pos hk]
    simp
  | p :: P,w :: vs,i+1,m,nd,h1,h2,hk=>by
    show bindL kindOf ((p,w) :: P.zip vs) m x=_
    unfold bindL
    exact lK (i:=i) (List.nodup_cons.mp nd).2 (by simpa using h1) (by simpa using h2) hk
theorem lM {kindOf:Str->Option NameKind} {x:Str} {v:Value}:∀ {P:List Str} {vs:List Value} {i:Nat} {m:Str->Option Value},P.Nodup->P[i]?=some x->vs[i]?=some v->kindOf x ≠ some .local ->
    bindC kindOf (P.zip vs) m x=some v
  | [],_,_,_,_,h,_,_=>by simp at h
  | _ :: _,[],_,_,_,_,h,_=>by simp at h
  | p :: P,w :: vs,0,m,nd,h1,h2,hk=>by
    simp at h1 h2;subst h1;subst h2
    show bindC kindOf ((p,w) :: P.zip vs) m p=_
    unfold bindC
    rw [lL fun v hv=>(List.nodup_cons.mp nd).1 (List.of_mem_zip hv).1,if_neg hk]
    simp
  | p :: P,w :: vs,i+1,m,nd,h1,h2,hk=>by
    show bindC kindOf ((p,w) :: P.zip vs) m x=_
    unfold bindC
    exact lM (i:=i) (List.nodup_cons.mp nd).2 (by simpa using h1) (by simpa using h2) hk
noncomputable def i8 (N:List Str) (vs:List V):St:=vs.map some ++ List.replicate (N.length - vs.length) none
noncomputable def oj (CX:CXT) (P:Program) (w:World) (K:FG) (mg:Str->Option Value) (base:Heap) (N:List Str) (qual:Str) (scope:Scope) (f:Addr) (cd:Value) (A:Around) (outer:List Env) (s:Shared) (H:Hp) (E:XK):Cx where
  prog:=P
  w:=w
  K:=K
  mg:=mg
  base:=base
  A:=A.deeper (envOfC qual scope s.heap.objs.size f cd)
  N:=N
  s₀:=s
  H₀:=H
  env:=envOfC qual scope s.heap.objs.size f cd
  outer:=outer
  stack:=envOfC qual scope s.heap.objs.size f cd :: outer
  ex:=[]
  calm:=true
  fn:=fun _=>true
  pn:=[]
  xe:=fun e s'=>wpAny (model P w) (A.deeper (envOfC qual scope s.heap.objs.size f cd)) (leaving (envOfC qual scope s.heap.objs.size f cd) e) (fun _ s''=>CX outer H s E e s'') (fun e' s''=>CX outer H s E e' s'') s'
theorem ow {sc:Scope} {n:Nat} {x:Str} (h:sc.names.lookup x=some .cell):∃ c,(cellsFrom n sc.names []).lookup x=some c:=by
  have q:=PySem.W.cellsFrom_some sc.names n [] (.inl h)
  exact Option.isSome_iff_exists.mp q
theorem rW {CX:CXT} {P:Program} {w:World} {K:FG} {mg:Str->Option Value} {base:Heap} {N ps:List Str} {qual:Str} {scope:Scope} {f:Addr} {cd:Value} {A:Around} {outer:List Env} {s s1:Shared} {H:Hp} {E:XK} {us:List Value} {vs:List V}
    (S:FnScope N ps scope) (hd:A.handled=none) (e0:Env0 P w K mg base A outer s H) (hl:vs.length=ps.length) (r:Vals vs us)
    (x:InCallC s s.heap.objs.size (bindL (envOfC qual scope s.heap.objs.size f cd).kindOf (ps.zip us) fun _=>none) (cellsFrom (s.heap.objs.size+1) scope.names []) (bindC (envOfC qual scope s.heap.objs.size f cd).kindOf (ps.zip us) fun _=>none) s1) :
    Inv (oj CX P w K mg base N qual scope f cd A outer s H E) [] (i8 N vs) H s1:=by
  have hpl:ps.length<=N.length:=by have:=congrArg List.length S.pre;rw [Aw] at this;omega
  obtain ⟨h1,tk,rfl,hk⟩:=x.done
  have noA:∀ b:Addr,b ∉ (oj CX P w K mg base N qual scope f cd A outer s H E).ex:=fun b z=>absurd (show b ∈ ([]:List Addr) from z) (by simp)
  refine ⟨⟨e0.mod,S.kind,rfl,rfl,Aj _,fun y z c h1 h2=>?_,fun y hy=>?_,fun y c _ h=>?_,fun _=>hd,Around.frames_deeper e0.frames,.inr ⟨rfl,rfl⟩,fun b z=>absurd z (noA b),e0.bs,e0.bsz,fun b _ _=>noA b,fun b z=>absurd z (noA b),e0.funs,e0.frf⟩,
    rfl,e0.bare,Un.kept hk,⟨_,x.toInCall.ns,fun i y v h1 h2 h3=>?_⟩,fun y c h=>⟨_,x.cell y c h⟩,e0.hok.fresh (Aj _),fun y c h=>?_,fun p hp=>absurd (show p ∈ ([]:List (Addr × Obj)) from hp) (by simp),e0.hok.kept hk,?_⟩
  · exact name_of_addr x.apart (PySem.mem_of_lookup h1) (PySem.mem_of_lookup h2)
  · have hy:scope.names.lookup y=some .cell\/scope.names.lookup y=some .free:=hy
    rcases hy with hy | hy
    · exact ow hy
    · exact absurd rfl (S.nofree _ (PySem.mem_of_lookup hy))
  · exact Nat.le_of_lt (x.above y c (PySem.mem_of_lookup h))
  · have hi:i < vs.length:=by
      unfold i8 at h2
      by_cases hi:i < vs.length
      · exact hi
      · rw [List.getElem?_append_right (by simpa using hi)] at h2
        rw [List.getElem?_replicate] at h2
        split at h2 <;> cases h2
    have ha:vs[i]?=some v:=by
      unfold i8 at h2
      rw [AC (by simpa using hi),Ai] at h2
      cases e:vs[i]? with
      | none=>rw [e] at h2;cases h2
      | some a=>rw [e] at h2;cases h2;rfl
    obtain ⟨u,hu,rv⟩:=r.get ha
    have hp:ps[i]?=some y:=by
      rw [<- S.pre,List.getElem?_take_of_lt (by omega)];exact h1
    have ndP:ps.Nodup:=by rw [<- S.pre];exact S.nd.sublist (List.take_sublist _ _)
    refine ⟨u,rv,?_⟩
    rcases S.par y (Af hp) with k | k
    · exact .inl ⟨k,lK ndP hp hu k⟩
    · obtain ⟨c,e⟩:=ow (n:=s.heap.objs.size+1) k
      refine .inr ⟨.inl k,c,e,?_⟩
      have q:=x.cell y c e
      rw [lM ndP hp hu (by show scope.names.lookup y ≠ _;rw [k];decide)] at q
      exact q
  · exact e0.hok.fresh (Nat.le_of_lt (x.above y c (PySem.mem_of_lookup h)))
  · unfold i8
    show _=N.length
    rw [Au,Ad,List.length_replicate]
    omega
set_option tactic.hygienic true in
theorem fn_of {CX:CXT} {P:Program} {w:World} {K:FG} {mg:Str->Option Value} {base:Heap} {k:Nat} {f:Addr} {name qual:Str} {params:Arguments} {body:List Stmt} {scope:Scope} {dV kV doc pm cdv ct oc:Value} {an od:Option Addr}
    {osl:Array (Option Value)} {N ps:List Str} {sp:Sp} (lk:K.lookup f=some ⟨oc,od,.func (PySem.W.fnOf name qual params body scope dV kV doc pm an cdv ct),osl⟩) (hcd:PySem.W.codeIn K cdv qual=true) (S:FnScope N ps scope)
    (len:∀ vs H Q E,sp vs H Q E->vs.length=ps.length)
    (hbody:∀ (A:Around) (outer:List Env) (s:Shared) (H:Hp) (vs:List V) (Q:VK) (E:XK),Room k (A.deeper (envOfC qual scope s.heap.objs.size f cdv))->sp vs H Q E ->
      ∃ t,PSs (oj CX P w K mg base N qual scope f cdv A outer s H E) body t/\t { nx:=fun _ H'=>Q .non H',rt:=Q } (i8 N vs) H) :
    FnOk P w K mg base CX (k+1) f (PySem.W.fnOf name qual params body scope dV kV doc pm an cdv ct) ps sp:=by
  refine ⟨len,fun A outer s H args us vs Q E hr e0 hb r hsp=>?_⟩
  have hl:=len _ _ _ _ hsp
  have KX:K.In s.heap:=e0.mod.kin.keeps fun b o e=>(e0.bs b o e).1
  have lim:s.heap.NoLimit:=e0.mod.nolimit.keeps fun b o e=>(e0.bs b o e).1
  have hkind:∀ y ∈ ps.zip us,scope.names.lookup y.1=some .local\/(scope.names.lookup y.1=some .cell/\((cellsFrom (s.heap.objs.size+1) scope.names []).lookup y.1).isSome=true):=fun ⟨n,v⟩ hy=>by
    rcases S.par n (List.of_mem_zip hy).1 with q | q
    · exact .inl q
    · exact .inr ⟨q,PySem.W.cellsFrom_some _ _ _ (.inl q)⟩
  refine codeAny_call_function hr.depth (KX _ _ lk) rfl S.co S.gen rfl (PySem.W.codeRec_of KX hcd) (hb _ _ _ _ ?_)
  refine wpAny_newFunctionEnv_cells S.kind hkind fun env he s1 x=>?_
  subst he
  refine ⟨lim.keeps x.toInCall.keep,codeAny_func ?_⟩
  obtain ⟨t,ht,hq⟩:=hbody A outer s H vs Q E (hr.deeper _) hsp
  have I:Inv (oj CX P w K mg base N qual scope f cdv A outer s H E) [] (i8 N vs) H s1:=rW S hr.hd e0 hl r x
  refine wpAny_mono (ht [] s1 (i8 N vs) H _ I hq) (fun fl s' hs=>?_) fun e s' hs=>hs
  have fin:∀ {σ':St} {H':Hp} {v:V} {u:Value},Inv (oj CX P w K mg base N qual scope f cdv A outer s H E) [] σ' H' s'->RelV v u->Q v H'->CE outer P w H s Q u s' :=
    fun {σ' H' v u} J rv q=>⟨v,H',J.os,J.bare,J.base,J.hok,rv,q⟩
  cases fl with
  | ret u =>
    obtain ⟨v,σ',H',J,rv,q⟩:=hs
    exact fin J rv q
  | next =>
    obtain ⟨σ',H',J,q⟩:=hs
    exact fin (v:=V.non) (u:=Value.none) J rfl q
  | brk =>
    obtain ⟨_,_,_,q⟩:=hs
    exact False.elim q
  | cont =>
    obtain ⟨_,_,_,q⟩:=hs
    exact False.elim q
end L2
namespace L2
open PySem PySem.Spec PyProof.Rows
section
variable {X:Cx} {x:Str} {p pos:Pos} {e:Expr} {es:List Expr} {t:TA} {id T:String} {r:List V->Hp->VK->Prop}
noncomputable def tCB (r:List V->Hp->VK->Prop) (t:TA):TE:=fun σ H Q=>t σ H fun vs H1=>r vs H1 Q
theorem j9 (hc:CallR X (.builtin id) r) (hg:Gl X x) (hm:X.mg x=none) (hv:bootBuiltins x=some (.builtin id)) (ha:PA X (e :: es) t) (hn:x ≠ "__name__":=by decide) (hdb:(x == ("__debug__":Str))=false:=by decide)
    (he:starEach (e :: es) X.env=(false,eval e X.env) :: starEach es X.env:=by rfl) (hpl:(backTo pos (starEach es X.env)).any (·.1)=false:=by rfl):PE X (.Call (.Name x p) (e :: es) [] pos) (tCB r t):=by
  intro pins s σ H Q I h
  refine wpAny_Call_Name_kw (gN I hg hm hv ?_ hn hdb)
  exact PyProof.Rows.callWith_builtin1 (thn (ha pos pins s σ H _ I h) fun us s1 ⟨vs,H1,I1,r1,q1⟩=>hc pins s1 σ H1 vs us Q I1 r1 q1) he hpl
theorem rn (hc:CallR X (.type T) r) (hg:Gl X x) (hm:X.mg x=none) (hv:bootBuiltins x=some (.type T)) (ha:PA X (e :: es) t) (hn:x ≠ "__name__":=by decide) (hdb:(x == ("__debug__":Str))=false:=by decide)
    (he:starEach (e :: es) X.env=(false,eval e X.env) :: starEach es X.env:=by rfl) (hpl:(backTo pos (starEach es X.env)).any (·.1)=false:=by rfl):PE X (.Call (.Name x p) (e :: es) [] pos) (tCB r t):=by
  intro pins s σ H Q I h
  refine wpAny_Call_Name_kw (gN I hg hm hv ?_ hn hdb)
  exact PyProof.Rows.callWith_type1 (thn (ha pos pins s σ H _ I h) fun us s1 ⟨vs,H1,I1,r1,q1⟩=>hc pins s1 σ H1 vs us Q I1 r1 q1) he hpl
end
end L2
namespace HT
open PySem PyProof.Rows
section
open PySem.SeqAt
open PySem.AutoSeq1 (wpAny_loadPart')
open PySem.MeetsSeq PySem.MeetsSeq2 PySem.MeetsSeq3
end
section
variable {prog:Program} {w:World} {A:Around} {E:Value->Shared->Prop} {s:Shared}
theorem cat_tup {t b:Addr} {vs ws:List Value} {Q:Value->Shared->Prop} (ht:IsTup s.heap t vs.toArray) (hb:IsTup s.heap b ws.toArray) (hv:vs ≠ [])
    (h1:ws=[]->Q (.ref t) s) (h2:ws ≠ []->Q (.ref s.heap.objs.size) { s with heap:=s.heap.push { cls:=.type "tuple",data:=.seq (vs ++ ws).toArray } })
    (hsz:vs.length+ws.length<=sizeLine):wpAny (model prog w) A (binaryOp .Add (.ref t) (.ref b)) Q E s:=by
  obtain ⟨⟨cls,dd,data,sl⟩,ho,hc,n,hd⟩:=id ht
  obtain ⟨⟨cls2,dd2,data2,sl2⟩,ho2,hc2,n2,hd2⟩:=id hb
  simp only at hc hd hc2 hd2
  subst hc hd hc2 hd2
  have e:vs.toArray ++ ws.toArray=(vs ++ ws).toArray:=by simp
  by_cases hw:ws=[]
  · exact concat_meets ⟨_,ho,rfl⟩ ⟨_,ho2,rfl⟩ noFill_tuple_add seq_tuple_add PySem.F.slot_tuple_add PySem.F.entry_tuple_add (PySem.F.args_tuple_add_2 _ _)
      (tuple_addW1 t b vs.toArray ws.toArray n n2 dd dd2 sl sl2 (by simpa using hv) (by simp [hw])) ⟨ho,ho2,h1 hw⟩
  · refine concat_meets ⟨_,ho,rfl⟩ ⟨_,ho2,rfl⟩ noFill_tuple_add seq_tuple_add PySem.F.slot_tuple_add PySem.F.entry_tuple_add (PySem.F.args_tuple_add_2 _ _)
      (tuple_addW2 t b vs.toArray ws.toArray n n2 dd dd2 sl sl2 (by simpa using hv) (by simpa using hw) (by rw [Am,Am];exact hsz)) ⟨ho,ho2,?_⟩
    rw [e]
    exact h2 hw
noncomputable def sIx (n d:Nat):Option Int->Nat
  | none=>d
  | some v=>if v < 0 then (v+(n:Int)).toNat else min v.toNat n
theorem yx (n d:Nat) (hd:d<=n) (o:Option Int):sIx n d o<=n:=by
  cases o with
  | none=>exact hd
  | some v =>
    show (if v < 0 then (v+(n:Int)).toNat else min v.toNat n)<=n
    by_cases hv:v < 0
    · rw [if_pos hv];omega
    · rw [if_neg hv];exact Nat.min_le_right _ _
theorem qH (v:Int) (n d:Nat):(if v < 0 then max (v+(n:Int)) 0 else min v (n:Int))=((sIx n d (some v):Nat):Int):=by
  show (if v < 0 then max (v+(n:Int)) 0 else min v (n:Int))=(((if v < 0 then (v+(n:Int)).toNat else min v.toNat n):Nat):Int)
  by_cases hv:v < 0
  · simp only [if_pos hv];omega
  · simp only [if_neg hv];omega
theorem pO (lo hi:Option Int) (n:Nat):Builtin.Slice.sliceAdjust lo hi 1 (n:Int)=(((sIx n 0 lo:Nat):Int),((sIx n n hi:Nat):Int)):=by
  have h1:¬ ((1:Int) < 0):=by omega
  unfold Builtin.Slice.sliceAdjust
  simp only [h1,if_false]
  refine Prod.ext ?_ ?_
  · cases lo with
    | none=>rfl
    | some v=>exact qH v n 0
  · cases hi with
    | none=>rfl
    | some v=>exact qH v n n
theorem o5 (i j:Nat):Builtin.Slice.slicePlaces (i:Int) (j:Int) 1=j - i:=by
  unfold Builtin.Slice.slicePlaces
  have h1:(1:Int) > 0:=by omega
  simp only [h1,if_true,Int.ediv_one]
  split <;> omega
theorem jN {v:Value} {o:Option Int} {Q:Option Int->Shared->Prop} (p:IsPart v o) (h:Q o s):wpAny (model prog w) A (Builtin.Slice.slicePartIndex v) Q E s:=by
  cases p with
  | none=>exact slicePart_none h
  | int i t=>exact slicePart_int h
theorem eP {sl:Addr} {vl vu:Value} {lo hi:Option Int} {n:Nat} {Q:Int × Int × Nat->Shared->Prop} (hs:s.heap.IsSliceOf sl vl vu .none) (pl:IsPart vl lo) (pu:IsPart vu hi)
    (h:Q (((sIx n 0 lo:Nat):Int),1,sIx n n hi - sIx n 0 lo) s):wpAny (model prog w) A (Builtin.Slice.sliceApplied (.ref sl) (pure (n:Int))) Q E s:=by
  obtain ⟨os,hos,hcs,hds⟩:=id hs
  unfold Builtin.Slice.sliceApplied Builtin.Slice.sliceFields
  refine zV (zV (wpAny_field hos hds (x:=vl) rfl (zV (wpAny_field hos hds (x:=vu) rfl (zV (wpAny_field hos hds (x:=.none) rfl (zW ?_)))))))
  refine zV (slicePart_none ?_)
  show wpAny _ _ (if ((1:Int) == 0)=true then _ else _) _ _ s
  rw [if_neg (by decide)]
  refine zV (jN pl (zV (jN pu (zV (zW ?_)))))
  show wpAny _ _ (match Builtin.Slice.sliceAdjust lo hi 1 (n:Int) with | (lo,hi)=>pure (lo,(1:Int),Builtin.Slice.slicePlaces lo hi 1)) _ _ s
  rw [pO lo hi n]
  show wpAny _ _ (pure (((sIx n 0 lo:Nat):Int),(1:Int),Builtin.Slice.slicePlaces ((sIx n 0 lo:Nat):Int) ((sIx n n hi:Nat):Int) 1)) _ _ s
  rw [o5]
  exact zW h
theorem tR (xs:Array Value) (i k:Nat):((List.range k).filterMap fun (m:Nat)=>xs[((i:Int)+(m:Int) * 1).toNat]?).toArray=((xs.toList.drop i).take k).toArray:=by
  have e:(fun (m:Nat)=>xs[((i:Int)+(m:Int) * 1).toNat]?)=fun m=>xs[i+m]?:=by
    funext m
    have:((i:Int)+(m:Int) * 1).toNat=i+m:=by omega
    rw [this]
  rw [e]
  have:=pick_run xs i k
  rw [List.filterMap_map] at this
  have e2:((fun x=>xs[x]?) ∘ fun x=>i+x)=fun m=>xs[i+m]?:=rfl
  rw [e2] at this
  rw [this]
theorem getItem_tuple_cut {t sl:Addr} {items:Array Value} {vl vu:Value} {lo hi:Option Int} {Q:Value->Shared->Prop} (ht:IsTup s.heap t items) (hs:s.heap.IsSliceOf sl vl vu .none) (pl:IsPart vl lo) (pu:IsPart vu hi)
    (hw:¬ (sIx items.size 0 lo=0/\sIx items.size items.size hi=items.size))
    (h:Q (.ref s.heap.objs.size) { s with heap:=s.heap.push { cls:=.type "tuple",data:=.seq ((items.toList.drop (sIx items.size 0 lo)).take (sIx items.size items.size hi - sIx items.size 0 lo)).toArray } })
    (hsz:items.size<=sizeLine):wpAny (model prog w) A (getItem (.ref t) (.ref sl)) Q E s:=by
  have htake:sizeOk (.seq ((items.toList.drop (sIx items.size 0 lo)).take (sIx items.size items.size hi - sIx items.size 0 lo)).toArray):=by
    show ((items.toList.drop (sIx items.size 0 lo)).take (sIx items.size items.size hi - sIx items.size 0 lo)).toArray.size<=sizeLine
    rw [Am,Aw,List.length_drop,Array.length_toList]
    omega
  have hj:sIx items.size items.size hi<=items.size:=yx _ _ (Aj _) hi
  obtain ⟨os,hos,hcs,hds⟩:=id hs
  have hTs:s.TypeIs (.ref sl) "slice":=⟨os,hos,hcs⟩
  unfold getItem
  try with_reducible refine zX ?_
  first | refine zV (zW ?_) | skip
  refine zV (wpAny_sequenceKey ht.typeIs (by decide) ?_)
  refine zV (wpAny_callSpecial?_slot (name:=Str.ofString "__getitem__") ht.typeIs PyProof.Rows.slot_tuple_getitem
    (wpAny_call_entry PyProof.Rows.slot_tuple_getitem ht.typeIs entry_tuple_getitem ?_ (args_tuple_getitem _ _)))
  show wpAny _ _ (Builtin.Tuple.tupleItemsOf (.ref t) >>= _) _ _ s
  refine zV (tupleItemsOf_ ht ?_)
  refine zV (wpAny_typeOf hTs ?_)
  rw [if_pos (by decide)]
  refine zV (eP hs pl pu ?_)
  have hno:¬ ((((sIx items.size 0 lo:Nat):Int) == 0 && (1:Int) == 1 && (sIx items.size items.size hi - sIx items.size 0 lo) == items.size)=true):=by
    intro q
    rw [Bool.and_eq_true,Bool.and_eq_true] at q
    have q1:((sIx items.size 0 lo:Nat):Int)=0:=eq_of_beq q.1.1
    have q2:sIx items.size items.size hi - sIx items.size 0 lo=items.size:=eq_of_beq q.2
    exact hw ⟨by omega,by omega⟩
  show wpAny _ _ (if (((sIx items.size 0 lo:Nat):Int) == 0 && (1:Int) == 1 && (sIx items.size items.size hi - sIx items.size 0 lo) == items.size)=true then _ else _) _ _ s
  rw [if_neg hno,tR]
  first
    | exact zV (m:=Builtin.Tuple.tupleExact _) (wpAny_newObj_type (zW ⟨_,rfl,zW h⟩) htake)
    | exact zV (m:=Builtin.Tuple.tupleExact _) (wpAny_newObj_type (zV (zW (zW ⟨_,rfl,zW h⟩))) htake)
    | exact zV (zV (m:=Builtin.Tuple.tupleExact _) (wpAny_newObj_type (zW (zW ⟨_,rfl,zW h⟩)) htake))
    | exact zV (zV (m:=Builtin.Tuple.tupleExact _) (wpAny_newObj_type (zW ⟨_,rfl,zW h⟩) htake))
end
end HT
namespace L2
open PySem PySem.Spec PyProof.Rows
noncomputable abbrev TO:=St->Hp->(Option Int->Hp->Prop)->Prop
noncomputable def PO (X:Cx) (e:Option Expr) (t:TO):Prop :=
  ∀ (pins:List (Addr × Obj)) (s:Shared) (σ:St) (H:Hp) (Q:Option Int->Hp->Prop),Inv X pins σ H s->t σ H Q ->
    wpAny (model X.prog X.w) X.A (evalPart e X.env) (fun u s'=>∃ o H',Inv X pins σ H' s'/\IsPart u o/\Q o H') X.xe s
noncomputable def vg:TO:=fun _ H Q=>Q none H
noncomputable def tPart (t:TE):TO:=fun σ H Q=>t σ H fun x H1=>∃ i,x=.int i/\Q (some i) H1
section
variable {X:Cx} {e:Expr} {te:TE} {lo hi:Option Expr} {tl th:TO} {pos p2:Pos}
theorem wc:PO X none vg:=by
  intro pins s σ H Q I h
  rw [evalPart_none]
  exact zW ⟨none,H,I,.none,h⟩
theorem wb (h:PE X e te):PO X (some e) (tPart te):=by
  intro pins s σ H Q I hw
  rw [evalPart_some]
  refine thn (h pins s σ H _ I hw) fun u s1 ⟨x,H1,I1,r1,q1⟩=>?_
  obtain ⟨i,rfl,q⟩:=q1
  obtain ⟨t,rfl⟩:=r1
  exact ⟨some i,H1,I1,.int i t,q⟩
noncomputable def SlR (X:Cx) (r:V->Option Int->Option Int->Hp->VK->Prop):Prop :=
  ∀ (pins:List (Addr × Obj)) (s:Shared) (σ:St) (H:Hp) (x:V) (v vl vu:Value) (lo hi:Option Int) (sl:Addr) (Q:VK),Inv X pins σ H s->RelV x v->s.heap.IsSliceOf sl vl vu .none->IsPart vl lo->IsPart vu hi->r x lo hi H Q ->
    ∃ T id,typeLookup (.type T) "__getitem__"=pure (some (.builtin id))/\s.TypeIs v T/\wpAny (model X.prog X.w) X.A (getItem v (.ref sl)) (EP X pins σ Q) X.xe s
theorem SlR.or {r r':V->Option Int->Option Int->Hp->VK->Prop} (h:SlR X r) (h':SlR X r'):SlR X (fun x lo hi H Q=>r x lo hi H Q\/r' x lo hi H Q):=by
  intro pins s σ H x v vl vu lo hi sl Q I rx hs pl pu q
  rcases q with q | q
  · exact h pins s σ H x v vl vu lo hi sl Q I rx hs pl pu q
  · exact h' pins s σ H x v vl vu lo hi sl Q I rx hs pl pu q
noncomputable def tSl (r:V->Option Int->Option Int->Hp->VK->Prop) (te:TE) (tl th:TO):TE:=fun σ H Q=>te σ H fun x H1=>tl σ H1 fun l H2=>th σ H2 fun u H3=>r x l u H3 Q
theorem tV {r:V->Option Int->Option Int->Hp->VK->Prop} (hr:SlR X r) (he:PE X e te) (hl:PO X lo tl) (hu:PO X hi th):PE X (.Subscript e (.Slice lo hi none p2) pos) (tSl r te tl th):=by
  intro pins s σ H Q I h
  refine Subscript_ (thn (he pins s σ H _ I h) fun v s1 ⟨x,H1,I1,r1,q1⟩=>?_)
  refine wpAny_Slice (thn (hl pins s1 σ H1 _ I1 q1) fun vl s2 ⟨l,H2,I2,pl,q2⟩=>thn (hu pins s2 σ H2 _ I2 q2) fun vu s3 ⟨u,H3,I3,pu,q3⟩=>?_)
  rw [evalPart_none]
  refine zW ?_
  have I4:Inv X pins σ H3 { s3 with heap:=s3.heap.push { cls:=.type "slice",data:=.fields #[vl,vu,.none] } }:=I3.kept (t':=s3.toks) fun b ob q=>z4 _ q
  obtain ⟨T,id,hT,ht,hg⟩:=hr pins { s3 with heap:=s3.heap.push { cls:=.type "slice",data:=.fields #[vl,vu,.none] } } σ H3 x v vl vu l u s3.heap.objs.size Q I4 r1 (Heap.IsSliceOf.new ..) pl pu q3
  show wpAny (model X.prog X.w) X.A (subscriptTail e (.Slice lo hi none p2) v (.ref s3.heap.objs.size)) (EP X pins σ Q) X.xe { s3 with heap:=s3.heap.push { cls:=.type "slice",data:=.fields #[vl,vu,.none] } }
  exact tail_any (ops:=[.ref s3.heap.objs.size,v]) ht hT hg (by with_unfolding_all rfl)
noncomputable def ol (xs:List V) (lo hi:Option Int):List V:=(xs.drop (HT.sIx xs.length 0 lo)).take (HT.sIx xs.length xs.length hi - HT.sIx xs.length 0 lo)
theorem ji (xs:List V) (lo hi:Option Int):(ol xs lo hi).length<=xs.length:=by
  unfold ol
  rw [Aw,List.length_drop]
  omega
noncomputable def yF (K:FG):V->Option Int->Option Int->Hp->VK->Prop:=fun x lo hi H Q=>∃ a xs,x=.ref a/\SqT K H a xs /\
  ¬ (HT.sIx xs.length 0 lo=0/\HT.sIx xs.length xs.length hi=xs.length)/\∀ p,H p=none->Q (.ref p) (upd H p (.tup (ol xs lo hi)))
theorem sl_tup:SlR X (yF X.K):=by
  intro pins s σ H x v vl vu lo hi sl Q I rx hs pl pu h
  obtain ⟨a,xs,rfl,hx,hw,q⟩:=h
  cases rx
  obtain ⟨its,r,ht,hz⟩:=I.tuple hx
  have hlen:its.toArray.size=xs.length:=by rw [Am];exact r.length.symm
  refine ⟨"tuple",_,PyProof.Rows.slot_tuple_getitem.lookup,ht.typeIs,?_⟩
  refine HT.getItem_tuple_cut ht hs pl pu (by rw [hlen];exact hw) ?_ (by rw [hlen];exact hz)
  rw [hlen]
  refine ⟨.ref s.heap.objs.size,_,I.laid (t':=s.toks) (o:=.tup (ol xs lo hi)) (fun b ob q=>z4 _ q) (Aj _) ?_,rfl,q _ (I.hok.fresh (Aj _))⟩
  exact ⟨AG (ji xs lo hi) hz,_,(r.drop (HT.sIx xs.length 0 lo)).take (HT.sIx xs.length xs.length hi - HT.sIx xs.length 0 lo),IsTupD.new _ _⟩
noncomputable def p9 (K:FG):R2:=fun x y H Q=>∃ a b xs ys,x=.ref a/\y=.ref b/\SqT K H a xs/\SqT K H b ys/\xs ≠ []/\xs.length+ys.length<=sizeLine /\
  (ys=[]->Q (.ref a) H)/\(ys ≠ []->∀ p,H p=none->Q (.ref p) (upd H p (.tup (xs ++ ys))))
theorem Vals.nil_iff {xs:List V} {us:List Value} (r:Vals xs us):us=[] ↔ xs=[]:=by
  cases r with
  | nil=>simp
  | cons _ _=>simp
theorem op_catT:OpR X (binaryOp .Add) (p9 X.K):=by
  intro pins s σ H x y v u Q I rx ry h
  obtain ⟨a,b,xs,ys,rfl,rfl,ha,hb,hx,hz,q1,q2⟩:=h
  cases rx
  cases ry
  obtain ⟨its,r1,p1,_⟩:=I.tuple ha
  obtain ⟨its2,r2,p2,_⟩:=I.tuple hb
  refine HT.cat_tup p1 p2 (fun z=>hx (r1.nil_iff.mp z)) (fun z=>⟨.ref a,H,I,rfl,q1 (r2.nil_iff.mp z)⟩) (fun z=>?_) (by rw [<- r1.length,<- r2.length];exact hz)
  refine ⟨.ref s.heap.objs.size,_,I.laid (t':=s.toks) (o:=.tup (xs ++ ys)) (fun b ob q=>z4 _ q) (Aj _) ?_,rfl,q2 (fun w=>z (r2.nil_iff.mpr w)) _ (I.hok.fresh (Aj _))⟩
  exact ⟨by rw [Au];exact hz,_,r1.append r2,IsTupD.new _ _⟩
end
end L2
namespace L2
open PySem PySem.Spec PyProof.Rows
noncomputable def ixN (n:Nat) (i:Int):Option Nat:=if 0<=i then (if i < n then some i.toNat else none) else if -(n:Int)<=i then some (i+n).toNat else none
noncomputable def atI {α:Type} (xs:List α) (i:Int):Option α:=(ixN xs.length i).bind fun j=>xs[j]?
theorem qt {n:Nat} {i:Int} {j:Nat} (h:ixN n i=some j):seqIndex? i n=some j/\j < n/\-(n:Int)<=i/\i < n:=by
  unfold ixN at h
  by_cases h0:0<=i
  · rw [if_pos h0] at h
    by_cases h1:i < n
    · rw [if_pos h1] at h
      have e:i.toNat=j:=AL h
      exact ⟨by rw [seqIndex_of h0 h1,e],by omega,by omega,h1⟩
    · rw [if_neg h1] at h;cases h
  · rw [if_neg h0] at h
    by_cases h1:-(n:Int)<=i
    · rw [if_pos h1] at h
      have e:(i+n).toNat=j:=AL h
      exact ⟨by rw [seqIndex_neg (by omega) h1,e],by omega,h1,by omega⟩
    · rw [if_neg h1] at h;cases h
theorem qM {α:Type} {xs:List α} {i:Int} {v:α} (h:atI xs i=some v):∃ j,seqIndex? i xs.length=some j/\xs[j]?=some v/\j < xs.length/\-(xs.length:Int)<=i/\i < xs.length:=by
  unfold atI at h
  cases e:ixN xs.length i with
  | none=>rw [e] at h;cases h
  | some j =>
    rw [e] at h
    obtain ⟨h1,h2,h3,h4⟩:=qt e
    exact ⟨j,h1,h,h2,h3,h4⟩
noncomputable def qO (b:Expr):Prop:=∀ o i,subscripted b false o i=operate [o,i] (getItem o i)
noncomputable def IxR (X:Cx) (r:R2):Prop :=
  ∀ (value slice:Expr) (pins:List (Addr × Obj)) (s:Shared) (σ:St) (H:Hp) (x y:V) (v u:Value) (Q:VK),Inv X pins σ H s->RelV x v->RelV y u->r x y H Q ->
    subscripted slice false v u=operate [v,u] (getItem v u)->wpAny (model X.prog X.w) X.A (subscriptTail value slice v u) (EP X pins σ Q) X.xe s
noncomputable def MtR (X:Cx) (id:String) (r:V->List V->Hp->VK->Prop):Prop :=
  ∀ (pins:List (Addr × Obj)) (s:Shared) (σ:St) (H:Hp) (x:V) (xs:List V) (v:Value) (us:List Value) (Q:VK),Inv X pins σ H s->RelV x v->Vals xs us->r x xs H Q ->
    wpAny (model X.prog X.w) X.A (call (.builtin id) (v :: us)) (EP X pins σ Q) X.xe s
section
variable {X:Cx} {a b:Expr} {ta tb:TE} {pos:Pos}
theorem IxR.or {r r':R2} (h:IxR X r) (h':IxR X r'):IxR X (fun x y H Q=>r x y H Q\/r' x y H Q):=by
  intro value slice pins s σ H x y v u Q I rx ry q hs
  rcases q with q | q
  · exact h value slice pins s σ H x y v u Q I rx ry q hs
  · exact h' value slice pins s σ H x y v u Q I rx ry q hs
theorem pe_ix {r:R2} (hr:IxR X r) (ha:PE X a ta) (hb:PE X b tb) (hs:qO b):PE X (.Subscript a b pos) (tOp r ta tb):=by
  intro pins s σ H Q I h
  exact Subscript_ (zP ha hb I h fun v u s2 x y H2 I2 rx ry q=>hr a b pins s2 σ H2 x y v u Q I2 rx ry q (hs _ _))
noncomputable def tJ (K:FG):R2:=fun x y H Q=>∃ p xs i v,x=.ref p/\y=.int i/\SqL K H p xs/\atI xs i=some v/\Q v H
noncomputable def tH (K:FG):R2:=fun x y H Q=>∃ p xs i v,x=.ref p/\y=.int i/\SqT K H p xs/\atI xs i=some v/\Q v H
theorem ix_list:IxR X (tJ X.K):=by
  intro value slice pins s σ H x y v u Q I rx ry h hs
  obtain ⟨p,xs,i,z,rfl,rfl,hq,he,q⟩:=h
  cases rx
  obtain ⟨t,rfl⟩:=ry
  obtain ⟨its,r,pl,hz⟩:=I.list hq
  obtain ⟨j,h1,h2,h3,h4,h5⟩:=qM he
  obtain ⟨w,ew,rw'⟩:=r.get h2
  have hl:=r.length
  have hn:=mh
  have fin:EP X pins σ Q w s:=⟨z,H,I,rw',q⟩
  by_cases h0:0<=i
  · have hj:i.toNat=j:=by
      rw [seqIndex_of h0 h5] at h1
      exact AL h1
    exact item_listR pl.isList h0 (by omega) (by rw [hj];simpa using ew) fin hs
  · have hj:(i+(its.toArray.size:Int)).toNat=j:=by
      rw [seqIndex_neg (by omega) h4] at h1
      rw [Am,<- hl]
      exact AL h1
    exact subscriptTail_builtinR (x:=w) pl.isList.typeIs slot_list_getitem.lookup
      (wpAny_getItem_list_neg (Q:=fun r s'=>r=w/\EP X pins σ Q r s') pl.isList (by omega) (by rw [Am] <;> omega) (by omega) (by rw [hj];simpa using ew) ⟨rfl,fin⟩) hs
theorem zz:IxR X (tH X.K):=by
  intro value slice pins s σ H x y v u Q I rx ry h hs
  obtain ⟨p,xs,i,z,rfl,rfl,hq,he,q⟩:=h
  cases rx
  obtain ⟨t,rfl⟩:=ry
  obtain ⟨its,r,pl,hz⟩:=I.tuple hq
  obtain ⟨j,h1,h2,h3,h4,h5⟩:=qM he
  obtain ⟨w,ew,rw'⟩:=r.get h2
  have hl:=r.length
  have hn:=mh
  have fin:EP X pins σ Q w s:=⟨z,H,I,rw',q⟩
  exact subscriptTail_builtinR (x:=w) pl.typeIs slot_tuple_getitem.lookup
    (getItem_tuple (j:=j) (Q:=fun r s'=>r=w/\EP X pins σ Q r s') pl (by omega) (by omega) (by rw [Am,<- hl];exact h1) (by simpa using ew) ⟨rfl,fin⟩) hs
theorem pd (its:List Value) (n j:Nat) (u:Value):Obj.mapSeq (·.setIfInBounds j u) { cls:=.type "list",data:=.seq its.toArray n } = { cls:=.type "list",data:=.seq (its.set j u).toArray n }:=by
  simp [Obj.mapSeq]
theorem Inv.lst {pins:List (Addr × Obj)} {σ:St} {H:Hp} {s:Shared} {p:Addr} {xs:List V} (I:Inv X pins σ H s) (h:H p=some (.lst xs)) :
    ∃ (its:List Value) (n:Nat),Vals xs its/\s.heap.get? p=some { cls:=.type "list",data:=.seq its.toArray n }/\xs.length<=sizeLine:=by
  obtain ⟨z,its,n,r,e⟩:=I.hok p _ h
  exact ⟨its,n,r,e,z⟩
theorem Inv.lstUpd {pins:List (Addr × Obj)} {σ:St} {H:Hp} {s:Shared} {p:Addr} {xs ys:List V} {its its':List Value} {n n':Nat} {f:Obj->Obj} (I:Inv X pins σ H s) (h:H p=some (.lst xs))
    (ho:s.heap.get? p=some { cls:=.type "list",data:=.seq its.toArray n }) (hf:f { cls:=.type "list",data:=.seq its.toArray n } = { cls:=.type "list",data:=.seq its'.toArray n' }) (r:Vals ys its') (hz:ys.length<=sizeLine) (t:Nat) :
    Inv X pins σ (upd H p (.lst ys)) { s with heap:=s.heap.update p f,toks:=t }:=by
  have e:(s.heap.update p f).get? p=some { cls:=.type "list",data:=.seq its'.toArray n' }:=by
    rw [At f ho (by rw [hf] <;> rfl),hf]
  refine I.write (x:=p) (e:=p) (by rw [h];trivial) (.inl rfl) (fun b u hb q=>(AD _ _ (Ne.symm hb)).trans q) ⟨_,e⟩ ?_
  exact ⟨hz,its',n',r,e⟩
noncomputable def p4:V->V->V->Hp->(Hp->Prop)->Prop:=fun o i v H Q=>∃ p xs k j,o=.ref p/\i=.int k/\H p=some (.lst xs)/\ixN xs.length k=some j/\Q (upd H p (.lst (xs.set j v)))
theorem sS:u3 X p4:=by
  intro pins s σ H o i v ov iv u Q I ro ri rv h
  obtain ⟨p,xs,k,j,rfl,rfl,hp,hj,q⟩:=h
  cases ro
  obtain ⟨t,rfl⟩:=ri
  obtain ⟨its,n,r,ho,hz⟩:=I.lst hp
  obtain ⟨h1,h2,h3,h4⟩:=qt hj
  have hl:=r.length
  have hn:=mh
  have I':Inv X pins σ (upd H p (.lst (xs.set j v))) { s with heap:=s.heap.update p (Obj.mapSeq (·.setIfInBounds j u)) } :=
    I.lstUpd hp ho (pd its n j u) (r.set rv j) (by rw [List.length_set];exact hz) s.toks
  by_cases h0:0<=k
  · have hk:k.toNat=j:=by
      rw [seqIndex_of h0 h4] at h1
      exact AL h1
    exact PySem.W.ki_setAt ho h0 (by omega) (by rw [Am,<- hl];exact h4) (by rw [hk];exact ⟨_,I',q⟩)
  · have hk:(k+(its.toArray.size:Int)).toNat=j:=by
      rw [seqIndex_neg (by omega) h3] at h1
      rw [Am,<- hl]
      exact AL h1
    exact PySem.W.ki_setBack ho (by omega) (by rw [Am,<- hl];exact h3) (by omega) (by rw [hk];exact ⟨_,I',q⟩)
theorem lR (lo hi:Option Int) (n:Nat):(sliceBounds lo hi none n).1=((HT.sIx n 0 lo:Nat):Int)/\(sliceBounds lo hi none n).2.1=((HT.sIx n n hi:Nat):Int)/\(sliceBounds lo hi none n).2.2=1:=by
  refine ⟨?_,?_,rfl⟩
  · cases lo with
    | none=>simp [sliceBounds,HT.sIx]
    | some i =>
      simp only [sliceBounds,HT.sIx,Option.getD_none,show (1:Int) > 0 by decide,if_true]
      by_cases h:i < 0
      · simp only [h,if_true] <;> omega
      · simp only [h,if_false] <;> omega
  · cases hi with
    | none=>simp [sliceBounds,HT.sIx]
    | some i =>
      simp only [sliceBounds,HT.sIx,Option.getD_none,show (1:Int) > 0 by decide,if_true]
      by_cases h:i < 0
      · simp only [h,if_true] <;> omega
      · simp only [h,if_false] <;> omega
theorem kO (its:List Value) (lo hi:Option Int):slicePick its.toArray lo hi none=((its.drop (HT.sIx its.length 0 lo)).take (HT.sIx its.length its.length hi - HT.sIx its.length 0 lo)).toArray:=by
  obtain ⟨h1,h2,h3⟩:=lR lo hi its.toArray.size
  unfold slicePick
  rw [h1,h2,h3]
  simp only [sliceRange_one,pick_run,Am] <;> rfl
noncomputable def yG (K:FG):V->Option Int->Option Int->Hp->VK->Prop:=fun x lo hi H Q=>∃ a xs,x=.ref a/\SqL K H a xs/\∀ p,H p=none->Q (.ref p) (upd H p (.lst (ol xs lo hi)))
theorem sl_list:SlR X (yG X.K):=by
  intro pins s σ H x v vl vu lo hi sl Q I rx hs pl pu h
  obtain ⟨a,xs,rfl,hx,q⟩:=h
  cases rx
  obtain ⟨its,r,ht,hz⟩:=I.list hx
  have hlen:=r.length
  refine ⟨"list",_,slot_list_getitem.lookup,ht.isList.typeIs,?_⟩
  refine wpAny_getItem_list_slice ht.isList hs pl pu .none (by simp) ?_ (by rw [Am] <;> omega)
  rw [kO,<- hlen]
  refine ⟨.ref s.heap.objs.size,_,I.laid (t':=s.toks) (o:=.lst (ol xs lo hi)) (fun b ob q=>z4 _ q) (Aj _) ?_,rfl,q _ (I.hok.fresh (Aj _))⟩
  exact ⟨AG (ji xs lo hi) hz,_,0,(r.drop (HT.sIx xs.length 0 lo)).take (HT.sIx xs.length xs.length hi - HT.sIx xs.length 0 lo),Ac _ rfl⟩
theorem aE:CallR X (.builtin "len") (fun xs H Q=>∃ p ys,xs=[.ref p]/\(SqL X.K H p ys\/SqT X.K H p ys)/\Q (.int ys.length) H):=by
  intro pins s σ H xs us Q I r h
  obtain ⟨p,ys,rfl,hq,q⟩:=h
  obtain ⟨u,rfl,rx⟩:=jI r
  cases rx
  have hn:=mh
  rcases hq with hq | hq
  · obtain ⟨its,r',pl,hz⟩:=I.list hq
    have hlen:=r'.length
    exact Calls.call_len_list pl.isList (by simp only [Am] <;> omega) ⟨.int ys.length,H,I.tok _,⟨s.toks+1,by rw [Am,hlen]⟩,q⟩
  · obtain ⟨its,r',pl,hz⟩:=I.tuple hq
    have hlen:=r'.length
    exact len_tuple pl (by simp only [Am] <;> omega) ⟨.int ys.length,H,I.tok _,⟨s.toks+1,by rw [Am,hlen]⟩,q⟩
theorem CallR.or {f:Value} {r r':List V->Hp->VK->Prop} (h:CallR X f r) (h':CallR X f r'):CallR X f (fun xs H Q=>r xs H Q\/r' xs H Q):=by
  intro pins s σ H xs us Q I rs q
  rcases q with q | q
  · exact h pins s σ H xs us Q I rs q
  · exact h' pins s σ H xs us Q I rs q
theorem gG:CallR X (.type "tuple") (fun xs H Q=>∃ p ys,xs=[.ref p]/\((SqL X.K H p ys/\∀ l,H l=none->Q (.ref l) (upd H l (.tup ys)))\/(SqT X.K H p ys/\Q (.ref p) H))):=by
  intro pins s σ H xs us Q I r h
  obtain ⟨p,ys,rfl,h⟩:=h
  obtain ⟨u,rfl,rx⟩:=jI r
  cases rx
  rcases h with ⟨hq,q⟩ | ⟨hq,q⟩
  · obtain ⟨its,r',pl,hz⟩:=I.list hq
    have hlen:=r'.length
    refine call_tuple_list pl.isList (fun h' kp=>?_) (by simp only [Am] <;> omega)
    have I1:Inv X pins σ H { s with heap:=h' }:=I.kept (t':=s.toks) kp
    have I2:Inv X pins σ (upd H h'.objs.size (.tup ys)) { s with heap:=h'.push { cls:=.type "tuple",data:=.seq its.toArray } } :=
      I1.laid (t':=s.toks) (fun b o e=>z4 _ e) (Aj _) (show ObjOk X.prog X.w _ _ _ (.tup ys) from ⟨hz,its,r',IsTupD.new _ _⟩)
    exact ⟨.ref h'.objs.size,_,I2,rfl,q _ (I1.hok.fresh (Aj _))⟩
  · obtain ⟨its,r',pl,hz⟩:=I.tuple hq
    exact call_tuple_same pl ⟨.ref p,H,I,rfl,q⟩
noncomputable def tyV (K:FG) (T:String) (x:V) (H:Hp):Prop:=match x with
  | .str _=>T = "str"
  | .int _=>T = "int"
  | .ref p=>(T = "list"/\∃ xs,SqL K H p xs)\/(T = "tuple"/\((∃ o,K.lookup p=some o/\o.cls=.type "tuple"/\o.dict=none)\/∃ xs,H p=some (.tup xs))) \/
      (T = "dict"/\((∃ kvs,H p=some (.dK kvs))\/∃ kvs,H p=some (.dT kvs)))\/(T = "set"/\∃ S n,H p=some (.set S n))
  | _=>False
theorem sJ {pins:List (Addr × Obj)} {σ:St} {H:Hp} {s:Shared} {T:String} {x:V} {v:Value} (I:Inv X pins σ H s) (r:RelV x v) (ty:tyV X.K T x H) :
    s.TypeIs v T/\∀ a,v=.ref a->∃ ob,s.heap.get? a=some ob/\ob.dict=none:=by
  cases x with
  | str z =>
    obtain ⟨t,rfl⟩:=r
    cases (show T = "str" from ty)
    exact ⟨typeIs_str s z t,fun _ e=>nomatch e⟩
  | int i =>
    obtain ⟨t,rfl⟩:=r
    cases (show T = "int" from ty)
    exact ⟨typeIs_int s i t,fun _ e=>nomatch e⟩
  | ref p =>
    cases r
    rcases ty with ⟨rfl,xs,hq⟩ | ⟨rfl,⟨o,hk,hc,hd⟩ | ⟨xs,ht⟩⟩ | ⟨rfl,hk⟩ | ⟨rfl,S,n,hk⟩
    · obtain ⟨its,_,pl,_⟩:=I.list hq
      refine ⟨pl.isList.typeIs,fun a e=>?_⟩
      cases e
      obtain ⟨o,n,e,c,hd,_⟩:=pl
      exact ⟨o,e,hd⟩
    · refine ⟨⟨o,I.kIn p o hk,hc⟩,fun a e=>?_⟩
      cases e
      exact ⟨o,I.kIn _ o hk,hd⟩
    · obtain ⟨_,its,_,o,e,c,n,d⟩:=I.hok p _ ht
      refine ⟨⟨o,e,c⟩,fun a e2=>?_⟩
      cases e2
      exact ⟨o,e,congrArg Prod.snd d⟩
    · have z:∃ o,s.heap.get? p=some o/\o.ExactDict:=by
        rcases hk with ⟨kvs,hk⟩ | ⟨kvs,hk⟩
        · obtain ⟨_,_,_,_,o,_,_,e,ex,_⟩:=I.hok p _ hk
          exact ⟨o,e,ex⟩
        · obtain ⟨_,_,_,_,o,_,_,e,ex,_⟩:=I.hok p _ hk
          exact ⟨o,e,ex⟩
      obtain ⟨o,e,ex⟩:=z
      refine ⟨⟨o,e,ex.1⟩,fun a e2=>?_⟩
      cases e2
      exact ⟨o,e,ex.2.1⟩
    · obtain ⟨o,_,_,_,e,ex,_⟩:=I.hok p _ hk
      refine ⟨⟨o,e,ex.1⟩,fun a e2=>?_⟩
      cases e2
      exact ⟨o,e,ex.2.1⟩
  | _=>exact False.elim ty
noncomputable def tBM0 (K:FG) (T:String) (r:V->List V->Hp->VK->Prop) (to:TE):TE:=fun σ H Q=>to σ H fun x H1=>tyV K T x H1/\r x [] H1 Q
noncomputable def tBM (K:FG) (T:String) (r:V->List V->Hp->VK->Prop) (to:TE) (t:TA):TE:=fun σ H Q=>to σ H fun x H1=>tyV K T x H1/\t σ H1 fun xs H2=>r x xs H2 Q
variable {o e:Expr} {es:List Expr} {to:TE} {t:TA} {name:Str} {apos cpos:Pos} {T id:String} {r:V->List V->Hp->VK->Prop}
theorem y8 (pa:PlainAttrs T) (slot:Slot T name id) (hty:typeOf (.builtin id)=pure (.type "method_descriptor")) (hm:MtR X id r) (ho:PE X o to)
    (hbase:attributeBase o name X.env (eval o X.env)=eval o X.env:=by rfl) (hline:(apos.endLine == cpos.line)=true:=by rfl):PE X (.Call (.Attribute o name apos) [] [] cpos) (tBM0 X.K T r to):=by
  intro pins s σ H Q I h
  refine wpAny_Call_method0_late hbase hline (thn (ho pins s σ H _ I h) fun v s1 ⟨x,H1,I1,r1,ty,q1⟩=>?_)
  obtain ⟨h1,h2⟩:=sJ I1 r1 ty
  exact ⟨T,id,pa,slot,hty,h1,h2,Calls.callWith_builtin rfl (PySem.evalArgs_none (hm pins s1 σ H1 x [] v [] Q I1 r1 .nil q1))⟩
theorem pe_bm (pa:PlainAttrs T) (slot:Slot T name id) (hty:typeOf (.builtin id)=pure (.type "method_descriptor")) (hm:MtR X id r) (ho:PE X o to) (ha:PA X (e :: es) t)
    (hbase:attributeBase o name X.env (eval o X.env)=eval o X.env:=by rfl)
    (hfew:((backTo cpos (starEach (e :: es) X.env)).all (fun x=>!x.1) && (backToKw cpos (keywordEach [] X.env)).all (fun x=>x.1.isSome)
      && decide ((e :: es).length+([]:List Keyword).length+(if ([]:List Keyword).isEmpty then 0 else 1) < 30))=true:=by rfl)
    (hline:(apos.endLine == cpos.line)=true:=by rfl) (hs:starEach (e :: es) X.env=(false,eval e X.env) :: starEach es X.env:=by rfl) (hplain:(backTo cpos (starEach es X.env)).any (·.1)=false:=by rfl) :
    PE X (.Call (.Attribute o name apos) (e :: es) [] cpos) (tBM X.K T r to t):=by
  intro pins s σ H Q I h
  refine wpAny_Call_method_late hbase hfew hline rfl (thn (ho pins s σ H _ I h) fun v s1 ⟨x,H1,I1,r1,ty,q1⟩=>?_)
  obtain ⟨h1,h2⟩:=sJ I1 r1 ty
  refine ⟨T,id,pa,slot,hty,h1,h2,?_⟩
  have hA:=ha cpos pins s1 σ H1 _ I1 q1
  rw [hs] at hA ⊢
  refine Calls.callWith_builtin (by show (false || (backTo cpos (starEach es X.env)).any (·.1))=false;rw [hplain] <;> rfl) (Calls.evalArgs_plain ?_)
  exact thn hA fun us s2 ⟨vs,H2,I2,r2,q2⟩=>hm pins s2 σ H2 x vs v us Q I2 r1 r2 q2
end
end L2
namespace L2
open PySem PySem.Spec PyProof.Rows
noncomputable def MtM (X:Cx) (id:String) (r:V->List V->Hp->VK->Prop):Prop :=
  ∀ (pins:List (Addr × Obj)) (s:Shared) (σ:St) (H:Hp) (x:V) (xs:List V) (v:Value) (us:List Value) (Q:VK),Inv X pins σ H s->RelV x v->Vals xs us->r x xs H Q ->
    wpAny (model X.prog X.w) X.A (call (.builtin id) (v :: us)) (EP X pins σ Q) X.xe s
theorem Vals.one:∀ {x:V} {us:List Value},Vals [x] us->∃ u,us=[u]/\RelV x u
  | _,_,.cons r .nil=>⟨_,rfl,r⟩
theorem Vals.rep {xs:List V} {us:List Value} (h:Vals xs us):∀ k:Nat,Vals (List.replicate k xs).flatten (List.replicate k us).flatten
  | 0=>.nil
  | k+1=>by
    rw [List.replicate_succ,List.replicate_succ,List.flatten_cons,List.flatten_cons]
    exact Vals.append h (Vals.rep h k)
section
variable {X:Cx} {pins:List (Addr × Obj)} {σ:St} {H:Hp} {s:Shared} {l b:Addr} {xs ys zs:List V}
theorem Inv.lset {its its':List Value} {n:Nat} {f:Array Value->Array Value} {t':Nat} (I:Inv X pins σ H s) (hH:H l=some (.lst xs))
    (e:s.heap.get? l=some { cls:=.type "list",data:=.seq its.toArray n }) (hf:f its.toArray=its'.toArray) (hv:Vals ys its') (hz:ys.length<=sizeLine) :
    Inv X pins σ (upd H l (.lst ys)) { s with heap:=s.heap.update l (Obj.mapSeq f),toks:=t' }:=by
  have q:=PySem.IsL.update e f
  rw [hf] at q
  refine I.write (x:=l) (e:=l) (by rw [hH];exact trivial) (.inl rfl) (fun b' u hb hu=>(AD s.heap (Obj.mapSeq f) (Ne.symm hb)).trans hu) ⟨_,q⟩ ?_
  exact ⟨hz,its',_,hv,q⟩
theorem Inv.lnew {its:List Value} {t':Nat} (I:Inv X pins σ H s) (hv:Vals ys its) (hz:ys.length<=sizeLine) :
    Inv X pins σ (upd H s.heap.objs.size (.lst ys)) { s with heap:=s.heap.push { cls:=.type "list",data:=.seq its.toArray },toks:=t' } :=
  I.laid (fun _ _ q=>z4 _ q) (Aj _) ⟨hz,its,0,hv,Ac _ rfl⟩
theorem Inv.fresh (I:Inv X pins σ H s):H s.heap.objs.size=none:=I.hok.fresh (Aj _)
theorem Inv.lstM (I:Inv X pins σ H s) (hH:H l=some (.lst xs)):xs.length<=sizeLine/\∃ (its:List Value) (n:Nat),Vals xs its/\xs.length=its.length/\s.heap.get? l=some { cls:=.type "list",data:=.seq its.toArray n }:=by
  obtain ⟨z,its,n,r,e⟩:=I.hok l _ hH
  exact ⟨z,its,n,r,r.length,e⟩
theorem t7 {n:Nat} (h:n<=sizeLine):Builtin.List.listTooLong n=false:=by
  unfold Builtin.List.listTooLong
  exact Ap (by omega)
end
section
variable {X:Cx}
noncomputable def qa:V->List V->Hp->VK->Prop:=fun x vs H Q=>∃ l xs y,x=.ref l/\vs=[y]/\H l=some (.lst xs)/\xs.length < sizeLine/\Q .non (upd H l (.lst (xs ++ [y])))
theorem rC:MtM X "list.append" qa:=by
  intro pins s σ H x vs v us Q I rx rv h
  obtain ⟨l,xs,y,rfl,rfl,hH,hz,q⟩:=h
  cases rx
  obtain ⟨u,rfl,ru⟩:=rv.one
  obtain ⟨z,its,n,r,hl,e⟩:=I.lstM hH
  refine call_meets F.slot_list_append ⟨_,e,rfl⟩ F.entry_list_append (F.args_list_append_2 _ _) (PySem.list_append l its.toArray n u (by rw [Am];omega)) ⟨e,?_⟩
  refine ⟨.non,_,I.lset (its':=its ++ [u]) hH e (by simp) (r.append (.cons ru .nil)) ?_,rfl,q⟩
  rw [Au,List.length_singleton]
  omega
noncomputable def p7:V->List V->Hp->VK->Prop:=fun x vs H Q=>∃ l b xs zs,x=.ref l/\vs=[.ref b]/\H l=some (.lst xs)/\H b=some (.lst zs)/\xs.length+zs.length<=sizeLine/\Q .non (upd H l (.lst (xs ++ zs)))
theorem rB:MtM X "list.extend" p7:=by
  intro pins s σ H x vs v us Q I rx rv h
  obtain ⟨l,b,xs,zs,rfl,rfl,hH,hB,hz,q⟩:=h
  cases rx
  obtain ⟨u,rfl,ru⟩:=rv.one
  cases ru
  obtain ⟨z,its,n,r,hl,e⟩:=I.lstM hH
  obtain ⟨z2,its2,n2,r2,hl2,e2⟩:=I.lstM hB
  have hsz:its.toArray.size+its2.toArray.size<=sizeLine:=by rw [Am,Am];omega
  have hlong:¬ (!its.toArray.isEmpty && Builtin.List.listTooLong (its.toArray.size+its2.toArray.size))=true:=by
    rw [t7 hsz,Bool.and_false]
    exact Ak
  refine call_meets F.slot_list_extend ⟨_,e,rfl⟩ F.entry_list_extend (F.args_list_extend_2 _ _)
    (AutoSeq1.list_extend_list_list_0 l its.toArray n b its2.toArray n2 hlong (by rw [Am];omega) (by omega)) ⟨e,e2,?_⟩
  refine ⟨.non,_,I.lset (its':=its ++ its2) hH e (by simp) (r.append r2) ?_,rfl,q⟩
  rw [Au]
  omega
noncomputable def vS:R2:=fun x y H Q=>∃ l b xs zs,x=.ref l/\y=.ref b/\H l=some (.lst xs)/\H b=some (.lst zs)/\xs.length+zs.length<=sizeLine/\∀ p,H p=none->Q (.ref p) (upd H p (.lst (xs ++ zs)))
theorem zd:OpR X (binaryOp .Add) vS:=by
  intro pins s σ H x y v u Q I rx ry h
  obtain ⟨l,b,xs,zs,rfl,rfl,hH,hB,hz,q⟩:=h
  cases rx
  cases ry
  obtain ⟨z,its,n,r,hl,e⟩:=I.lstM hH
  obtain ⟨z2,its2,n2,r2,hl2,e2⟩:=I.lstM hB
  refine PySem.P.add_list e e2 ?_ (by rw [Am,Am];omega)
  have ea:its.toArray ++ its2.toArray=(its ++ its2).toArray:=by simp
  rw [ea]
  exact ⟨.ref _,_,I.lnew (t':=s.toks) (r.append r2) (by rw [Au];omega),rfl,q _ I.fresh⟩
end
end L2
namespace Att
open PySem PySem.W PySem.Calls PyProof.Rows
theorem js {P:Params} {h:Heap}:∀ (ns:List Int) (vs:List Value),WellAll P h vs (ns.map WData.int)->IntsAre vs ns:=by
  intro ns
  induction ns with
  | nil =>
    intro vs w
    rw [List.map_nil] at w
    cases w
    exact .nil
  | cons n ns ih =>
    intro vs w
    rw [An] at w
    cases w with
    | cons a b =>
      cases a
      exact .cons _ _ (ih _ b)
theorem qW {l:OpenLaw} {n:Nat} (hn:l.most=some n) {P:Params} {h:Heap} {args:List WData} {vals:List Value}
    (hpre:l.row.toRowW.claim.pre args=true) (hwl:WellAll P h vals args) :
    ∃ a vs ns,vals=[Value.ref a]/\args=[WData.list (ns.map WData.int)]/\h.get? a=some { cls:=.type "list",data:=.seq vs.toArray }/\IntsAre vs ns/\ns.length<=n:=by
  have hsh:WShape.hasAll [] args [.list .int]=true:=(pre_splitW hpre).1
  have hc:l.pre.holds [] { args:=args }=true:=(pre_splitW hpre).2
  obtain ⟨d,r,rfl,h1,h2⟩:=hasAllW_cons hsh
  obtain rfl:=hasAllW_nil h2
  obtain ⟨xs,rfl,h3⟩:=hasW_list h1
  obtain ⟨ns,rfl⟩:=items_int h3
  have hlen:ns.length<=n:=by
    unfold OpenLaw.pre at hc
    have h4:(WTm.not (.lt (.lit (.int (n:Int))) (.len (.arg 0)))).holds [] { args:=[.list (ns.map .int)] }=true:=by
      have h4:=(holds_andW hc).1
      rw [hn] at h4
      exact h4
    have h5:=condW_of h4 (w_not (w_lt w_lit (w_len_list (w_arg rfl))))
    rw [Ad] at h5
    refine Nat.le_of_not_lt fun q=>?_
    have q':(n:Int) < ((ns.length:Nat):Int):=by omega
    first
      | (rw [Ao q'] at h5;exact absurd h5 (by decide))
      | (simp at h5;omega)
  cases hwl with
  | cons w1 w2 =>
    cases w2
    cases w1 with
    | list ho hall=>exact ⟨_,_,ns,rfl,rfl,ho,js ns _ hall,hlen⟩
theorem rh (l:OpenLaw) (args:List WData):l.row.toRowW.claim.post args (.bool true) args=true :=
  postW_of (r:=l.row.toRowW) (X:=(true == true))
    (show WShape.has [] (.bool true) .bool=true by first | rfl | decide | simp [WShape.has,WShape.arms,WShape.armsAll])
    (show (WTm.eq .res (.lit (.bool true))).value [] { args:=args,res:=some (.bool true),after:=args }=some (.bool (true == true)) from w_eq_bool (w_res rfl) w_lit) rfl
theorem attach_call {l:OpenLaw} {n:Nat} {q:Program} {loose:List Str} {XP:(Str->Option Value)->Heap->Prop} {YP:World->Heap->Prop} {d:DefRec}
    (hn:l.most=some n) (hdf:d.params.defaults=[])
    (call:∀ (w:World) (s₀ s₁:Shared) (mg mb:Str->Option Value) (fa:Addr) (o:Obj) (pm cd doc:Value) (a:Addr) (vs:List Value) (ns:List Int),
      Ground q loose [] XP w s₀ mg mb s₁.heap->YP w s₁.heap ->
      s₁.heap.get? fa=some o->o.data=.func (docDef d.name d.params d.body d.scope pm cd doc)->s₁.heap.CodeRec cd d.name->mg d.name=some (.ref fa) ->
      s₁.heap.get? a=some { cls:=.type "list",data:=.seq vs.toArray }->IntsAre vs ns->ns.length<=n->s₁.gens = #[] ->
      codeAny (model l.prog w) callerA (.call (.ref fa) ⟨[.ref a],[]⟩) (fun r s'=>r=.ok (.ret (.bool true))/\OldK s₁.heap s'.heap/\s'.os=s₁.os/\AllBare s'.gens) s₁) :
    WalkO q loose XP YP l.row.toRowW d [] (fun f vs=>PySem.call f vs):=by
  intro w s₀ s₁ mg mb G Y fa o pm cd doc dV kV ho hd hcd hD hmg hg args vals as hpre hlay hrd hwl hlo
  obtain rfl:dV=.none:=Dflts.none hD hdf
  obtain rfl:kV=.none:=Dflts.noKw hD
  obtain ⟨a,vs,ns,rfl,rfl,hobj,hints,hlen⟩:=qW hn hpre hwl
  refine enter_call (codeAny_mono (call w s₀ s₁ mg mb fa o pm cd doc a vs ns G Y ho (fd_plain hd) hcd hmg hobj hints hlen hg) fun r s' hq=>?_)
  obtain ⟨rfl,h2,h3,h4⟩:=hq
  exact ⟨.inl ⟨.bool true,.bool true,[],rfl,fun _=>rfl,.bool true,rh l _,fun _=>⟨List.Pairwise.nil,fun _ hm=>(nomatch hm)⟩⟩,h2,h3,h4⟩
end Att
namespace L2
open PySem PySem.Spec PyProof.Rows
theorem lf:∀ {vs:List Value} {ns:List Int},IntsAre vs ns->Vals (ns.map V.int) vs
  | _,_,.nil=>.nil
  | _,_,.cons n t h=>.cons ⟨t,rfl⟩ (lf h)
noncomputable def xq (H:Hp):Prop:=∀ b,H b=none\/∃ o xs,H b=some (.frz o (.lst xs))
set_option tactic.hygienic true in
theorem uo {P:Program} {w:World} {K:FG} {mg mb:Str->Option Value} {CX:CXT} {k:Nat} {fa a:Addr} {fd:FuncData} {x:Str} {sp:Sp} {s₁:Shared} {vs:List Value} {ns:List Int}
    (KX:K.In s₁.heap) (hns:s₁.heap.Ns mainGlobals mg) (hb:s₁.heap.Ns builtinsNs mb) (hbb:∀ x:Str,x ≠ "__name__"->mb x=bootBuiltins x) (hlim:s₁.heap.NoLimit) (hg:s₁.gens = #[])
    (ha:s₁.heap.get? a=some { cls:=.type "list",data:=.seq vs.toArray }) (hi:IntsAre vs ns) (hl:ns.length<=sizeLine) (hr:Room k callerA)
    (F:∀ base:Heap,K.In base->base.Ns mainGlobals mg->FnOk P w K mg base CX k fa fd [x] sp) (hbind:∀ (s:Shared) (u:Value),BindsTo s fd ⟨[u],[]⟩ [(x,u)])
    (hsp:∀ H:Hp,xq H->SqL K H a (ns.map V.int)->sp [.ref a] H (fun v _=>v=.bl true) fun _ _ _=>False)
    (hCX:∀ H e s',CX [] H s₁ (fun _ _ _=>False) e s'->False) :
    codeAny (model P w) callerA (.call (.ref fa) ⟨[.ref a],[]⟩) (fun r s'=>r=.ok (.ret (.bool true))/\OldK s₁.heap s'.heap/\s'.os=s₁.os/\AllBare s'.gens) s₁:=by
  have rv:=lf hi
  have lenV:=hi.length
  have core:∀ H:Hp,xq H->SqL K H a (ns.map V.int)->HOk P w H s₁.heap->(∀ b,H b ≠ none->b=a)->(H a ≠ none->K.lookup a=none) ->
      codeAny (model P w) callerA (.call (.ref fa) ⟨[.ref a],[]⟩) (fun r s'=>r=.ok (.ret (.bool true))/\OldK s₁.heap s'.heap/\s'.os=s₁.os/\AllBare s'.gens) s₁:=by
    intro H hO hS hok hA hK
    have base_of:∀ {b:Addr} {o:Obj},s₁.heap.get? b=some o->H b=none->(mo s₁.heap H).get? b=some o:=fun e n=>uC e n
    have noA:∀ {b:Addr} {o:Obj} {es:Array DictEntry} {ep:Nat},s₁.heap.get? b=some o->o.data=.dict es ep->H b=none:=fun {b o es ep} e d=>by
      cases q:H b with
      | none=>rfl
      | some u =>
        have e':b=a:=hA b (by rw [q];simp)
        subst e'
        rw [ha] at e;cases e
        have d':Data.seq vs.toArray _=Data.dict es ep:=d
        cases d'
    have nsK:∀ {b:Addr} {m:Str->Option Value},s₁.heap.Ns b m->(mo s₁.heap H).Ns b m:=fun {b m} ⟨o,es,ep,e,d,r⟩=>⟨o,es,ep,base_of e (noA e d),d,r⟩
    have hKb:K.In (mo s₁.heap H):=fun b o e=>base_of (KX b o e) (by
      cases q:H b with
      | none=>rfl
      | some u =>
        have e':b=a:=hA b (by rw [q];simp)
        subst e'
        rw [hK (by rw [q];simp)] at e;cases e)
    have hM:Mod K mg (mo s₁.heap H):=⟨hKb,nsK hns,⟨mb,nsK hb,hbb⟩,let ⟨mc,h1,h2⟩:=hlim;⟨mc,nsK h1,h2⟩⟩
    have e0:Env0 P w K mg (mo s₁.heap H) callerA [] s₁ H:=⟨rfl,hM,fun b o e=>wu e,Nat.le_of_eq (rX _ _),trivial,fun b hb=>absurd (show b ∈ ([]:List Addr) from hb) (by simp),hok,.of_eq hg⟩
    refine codeAny_mono ((F _ hKb (nsK hns)).run callerA [] s₁ H ⟨[.ref a],[]⟩ [.ref a] [.ref a] _ _ hr e0 (hbind s₁ (.ref a)) (.cons rfl .nil) (hsp H hO hS)) fun r s' h=>?_
    cases r with
    | error e=>exact (hCX H e s' h).elim
    | ok fl =>
      cases fl with
      | next=>exact False.elim h
      | brk=>exact False.elim h
      | cont=>exact False.elim h
      | ret u =>
        obtain ⟨v,H',os,bare,un,hok',r',q⟩:=h
        have q':v=.bl true:=q
        subst q'
        obtain rfl:u=Value.bool true:=r'
        refine ⟨rfl,OldK.of_keep fun b o e=>?_,os,bare⟩
        cases q:H b with
        | none=>exact un.keep b o e q (by intro z;exact absurd (show b ∈ ([]:List Addr) from z) (by simp)) (by simp)
        | some u =>
          rcases hO b with z | ⟨ob,xs,z⟩
          · rw [q] at z;cases z
          · have z2:=un.frzs b ob _ z
            obtain ⟨e1,_⟩:=hok b _ z
            obtain ⟨e2,_⟩:=hok' b _ z2
            rw [e] at e1;cases e1
            exact e2
  cases hk:K.lookup a with
  | some o =>
    have e:=KX a o hk
    rw [ha] at e
    cases e
    refine core (fun _=>none) (fun _=>.inl rfl) (.inr ⟨_,vs.toArray,_,hk,rfl,rfl,rfl,by rw [Am,lenV];exact hl,by simpa using rv⟩) (fun b u z=>by have z':(none:Option HO)=some u:=z;cases z') (fun b z=>absurd rfl z) fun z=>absurd rfl z
  | none =>
    refine core (fun b=>if b=a then some (.frz { cls:=.type "list",data:=.seq vs.toArray } (.lst (ns.map V.int))) else none) (fun b=>?_) (.inl (.inr ⟨{ cls:=.type "list",data:=.seq vs.toArray },if_pos rfl⟩)) (fun b u z=>?_) (fun b z=>?_) fun _=>hk
    · by_cases hb:b=a
      · exact .inr ⟨_,_,if_pos hb⟩
      · exact .inl (if_neg hb)
    · by_cases hb:b=a
      · have z':=(if_pos hb).symm.trans z
        cases z'
        subst hb
        exact ⟨ha,by rw [Ad];exact hl,vs,_,rv,ha⟩
      · have z':=(if_neg hb).symm.trans z
        cases z'
    · by_cases hb:b=a
      · exact hb
      · exact absurd (if_neg hb) z
end L2
namespace L2
open PySem PySem.Spec PyProof.Rows
end L2
namespace L2
open PySem PySem.Spec PyProof.Rows
noncomputable abbrev CX0:CXT:=fun _ _ _ _ _ _=>False
noncomputable abbrev E0:XK:=fun _ _ _=>False
theorem pass0 {X:Cx}:pP CX0 X E0:=fun _ _ _ _ _ _ _ h=>h.elim
structure Fun (K:FG) (x qual:Str) (st:Stmt) (f:Addr) (fd:FuncData):Prop where
  ex:∃ (oc:Value) (od:Option Addr) (kV doc pm:Value) (an:Option Addr) (cdv ct:Value) (osl:Array (Option Value)),
    fd=PySem.W.fnOf x qual (bg st) (aU st) (ai st) .none kV doc pm an cdv ct/\K.lookup f=some ⟨oc,od,.func fd,osl⟩/\PySem.W.codeIn K cdv qual=true
  kp:PySem.W.keepIn K (.ref f)=true
section
variable {P:Program} {w:World} {K:FG} {mg:Str->Option Value} {base:Heap}
theorem Fun.ok {x qual:Str} {st:Stmt} {f:Addr} {fd:FuncData} {N ps:List Str} {k:Nat} {sp:Sp} (F:Fun K x qual st f fd) (S:FnScope N ps (ai st)) (len:∀ vs H Q E,sp vs H Q E->vs.length=ps.length)
    (hbody:∀ (cdv:Value) (A:Around) (outer:List Env) (s:Shared) (H:Hp) (vs:List V) (Q:VK) (E:XK),Room k (A.deeper (envOfC qual (ai st) s.heap.objs.size f cdv))->sp vs H Q E ->
      ∃ t,PSs (oj CX0 P w K mg base N qual (ai st) f cdv A outer s H E).nox (aU st) t/\t { nx:=fun _ H'=>Q .non H',rt:=Q } (i8 N vs) H):FnOk P w K mg base CX0 (k+1) f fd ps sp:=by
  obtain ⟨oc,od,kV,doc,pm,an,cdv,ct,osl,rfl,lk,hcd⟩:=F.ex
  refine fn_of lk hcd S len fun A outer s H vs Q E hr hsp=>?_
  obtain ⟨t,h,q⟩:=hbody cdv A outer s H vs Q E hr hsp
  exact ⟨t,h.nox,q⟩
theorem Fun.binds {x qual:Str} {st:Stmt} {f:Addr} {fd:FuncData} {ps:List Str} (F:Fun K x qual st f fd)
    (h:∀ (kV doc pm:Value) (an:Option Addr) (cdv ct:Value) (us:List Value),us.length=ps.length->bindArgs (PySem.W.fnOf x qual (bg st) (aU st) (ai st) .none kV doc pm an cdv ct) ⟨us,[]⟩=pure (ps.zip us)):Binds K fd ps []:=by
  obtain ⟨oc,od,kV,doc,pm,an,cdv,ct,osl,rfl,lk,hcd⟩:=F.ex
  exact .all (h kV doc pm an cdv ct)
theorem zF {x qual:Str} {st:Stmt} {f:Addr} {oc:Value} {od an:Option Addr} {osl:Array (Option Value)} {kV doc pm cdv ct:Value} (l:K.lookup f=some ⟨oc,od,.func (PySem.W.fnOf x qual (bg st) (aU st) (ai st) .none kV doc pm an cdv ct),osl⟩)
    (c:PySem.W.codeIn K cdv qual=true) (k:PySem.W.keepIn K (.ref f)=true):Fun K x qual st f (PySem.W.fnOf x qual (bg st) (aU st) (ai st) .none kV doc pm an cdv ct):=⟨⟨oc,od,kV,doc,pm,an,cdv,ct,osl,rfl,l,c⟩,k⟩
end
theorem hu_of {A:Around} {k:Nat} (hr:Room k A):A.units+1 < cLine:=Nat.lt_of_le_of_lt (Nat.add_le_add_left (by decide:1<=64) _) hr.units
noncomputable def Same (H H':Hp):Prop:=∀ b o,H b=some o->H' b=some o
theorem Same.refl (H:Hp):Same H H:=fun _ _ h=>h
theorem Same.trans {H H1 H2:Hp} (a:Same H H1) (b:Same H1 H2):Same H H2:=fun c o h=>b c o (a c o h)
theorem Same.free {H H':Hp} (e:Same H H') {l:Addr} (h:H' l=Option.none):H l=Option.none:=by
  cases q:H l with
  | none=>rfl
  | some o =>
    rw [e l o q] at h
    cases h
end L2
end
section
namespace L2
open PySem PySem.Spec PyProof.Rows
section
variable {prog:Program} {w:World} {A:Around} {E:Value->Shared->Prop} {s:Shared}
theorem mR {d:Addr} {k v:Value} {Q:Unit->Shared->Prop} (ty:s.TypeIs (.ref d) "dict") (h:wpAny (model prog w) A.in1 (dictSet d k v) Q E s) :
    wpAny (model prog w) A (setItem (.ref d) k v) Q E s:=by
  unfold setItem
  refine zX (zV (wpAny_sequenceKey ty (by decide) (zV (wpAny_callSpecial?_slot ty slot_dict_setitem (wpAny_call_entry slot_dict_setitem ty entry_dict_setitem ?_ (args_dict_setitem _ _ _))))))
  refine zV (wpAny_notOrdered_dict ty ?_)
  refine (?_:wpAny _ _ (dictSet d k v >>= _) _ _ s)
  exact zV (wpAny_mono h (fun _ _ z=>zW ⟨_,rfl,zW z⟩) fun _ _ z=>z)
theorem lh {d:Addr} {key v:Value} {hs:Int} {o:Obj} {es:Array DictEntry} {ep:Nat} {F:Option Nat->Prop} {Q:Unit->Shared->Prop} (ho:s.heap.get? d=some o) (hc:o.ExactDict) (hd:o.data=.dict es ep) (hz:es.size<=sizeLine)
    (find:wpAny (model prog w) A (dictFind d key hs) (fun r s'=>s'=s/\F r) E s)
    (old:∀ i h' o',F (some i)->h'.get? d=some o'->o'.ExactDict->o'.data=.dict (es.modify i fun e=>{ e with val:=v }) ep->Heap.SameBut d s.heap h'->Q () { s with heap:=h' })
    (new:∀ h' o',F none->h'.get? d=some o'->o'.ExactDict->o'.data=.dict (es.push ⟨hs,key,v⟩) (ep+1)->Heap.SameBut d s.heap h'->Q () { s with heap:=h' }) :
    wpAny (model prog w) A (dictSetHashed d key hs v) Q E s:=by
  unfold dictSetHashed
  refine zX (zV (wpAny_mono find ?_ fun _ _ z=>z))
  rintro (_ | i) _ ⟨rfl,f⟩
  · exact zV (wpAny_rule (wpAny_updateDictKeys (hz:=hz) ho hd (new _ _ f (At _ ho (Obj.isFreed_of_dict (Obj.data_mapDictKeys hd _))) (hc.mapDictKeys _) (Obj.data_mapDictKeys hd _) (Heap.SameBut.update ..))))
  · exact zV (wpAny_rule (zV (wpAny_updateDict ho hd (wpAny_point (old i _ _ f (At _ ho (Obj.isFreed_of_dict (Obj.data_mapDict hd _))) (hc.mapDict _) (Obj.data_mapDict hd _) (Heap.SameBut.update ..))))))
end
section
variable {prog:Program} {w:World} {K:Type} [DecidableEq K] {A:Around} {E:Value->Shared->Prop} {s:Shared} {d:Addr} {k:K}
section
variable {knd:HeapKind prog w K}
noncomputable def DictOfHE (knd:HeapKind prog w K) (h:Heap) (d:Addr) (xs:List (K × Addr × Value)):Prop :=
  ∃ o es ep,h.get? d=some o/\o.ExactDict/\o.data=.dict es ep/\es.toList=xs.map (entryOfKey knd)/\(∀ x ∈ xs,knd.is h x.1 x.2.1)/\(xs.map (·.1)).Nodup/\ep=es.size
theorem DictOfHE.of {h:Heap} {d:Addr} {xs:List (K × Addr × Value)} (x:DictOfHE knd h d xs):h.DictOfH knd d xs:=let ⟨o,es,ep,h1,h2,h3,h4,h5,h6,_⟩:=x;⟨o,es,ep,h1,h2,h3,h4,h5,h6⟩
theorem rz {xs:List (K × Addr × Value)} {y:Addr × Value} (hn:(xs.map (·.1)).Nodup) (h:k ∉ xs.map (·.1)):((xs ++ [(k,y)]).map (·.1)).Nodup:=by
  rw [List.map_append]
  exact List.nodup_append.mpr ⟨hn,List.nodup_cons.mpr ⟨List.not_mem_nil,List.nodup_nil⟩,fun x hx y hy e=>h (by have:=Az.mp hy;subst this;exact e ▸ hx)⟩
theorem k5 {a:Addr} {xs:List (K × Addr × Value)} {v:Value} {Q:Unit->Shared->Prop} (hu:knd.room A) (hkey:knd.is s.heap k a) (hm:DictOfHE knd s.heap d xs)
    (hQ:∀ h',DictOfHE knd h' d (storedH xs k a v)->Heap.SameBut d s.heap h'->Q () { s with heap:=h',toks:=s.toks+knd.draws k })
    (hsz:xs.length<=sizeLine:=by size_fits):wpAny (model prog w) A (dictSet d (.ref a) v) Q E s:=by
  obtain ⟨o,es,ep,ho,hc,hd,he,his,hn,rfl⟩:=hm
  unfold dictSet
  refine zX (zV (knd.pyHash hu hkey ?_))
  refine lh (s:={ s with toks:=s.toks+knd.draws k }) (F:=fun | none=>∀ (j:Nat) (p:Addr × Value),xs[j]? ≠ some (k,p) | some j=>∃ p,xs[j]?=some (k,p)) ho hc hd (size_of_entries he ▸ hsz)
    (wpAny_dictFind_heap (s:={ s with toks:=s.toks+knd.draws k }) hu hkey ho hd he his hn (fun z=>⟨rfl,z⟩) fun j p z=>⟨rfl,p,z⟩) ?_ ?_
  · rintro i h' o' ⟨p,f⟩ g1 g2 g3 g4
    have at':=storedH_old (atKey_of_get hn f) a v
    refine hQ h' ⟨o',_,_,g1,g2,g3,?_,?_,?_,?_⟩ g4 <;> try rw [at']
    · rw [Array.toList_modify,he]
      exact modify_map_putAt (entryOfKey knd) _ k v (fun _ _=>rfl) hn f
    · intro x hx
      obtain ⟨y,hy,rfl⟩:=Ah.mp hx
      have:=knd.keeps (his y hy) ho hd g4
      by_cases e:y.1=k <;> simpa [putAt,e] using this
    · exact (keys_map_putAt xs k v).symm ▸ hn
    · exact (Array.size_modify).symm
  · intro h' o' f g1 g2 g3 g4
    have at':=storedH_new (atKey_none_of_get f) a v
    refine hQ h' ⟨o',_,_,g1,g2,g3,?_,?_,?_,?_⟩ g4 <;> try rw [at']
    · simp [he,entryOfKey]
    · intro x hx
      rcases Ab.mp hx with hx | hx
      · exact knd.keeps (his x hx) ho hd g4
      · cases Az.mp hx;exact knd.keeps hkey ho hd g4
    · exact rz hn (not_mem_keys_of_get f)
    · simp
theorem kP {a:Addr} {xs:List (K × Addr × Value)} {v:Value} {Q:Unit->Shared->Prop} (hu:knd.room A.in1) (hkey:knd.is s.heap k a) (hm:DictOfHE knd s.heap d xs)
    (hQ:∀ h',DictOfHE knd h' d (storedH xs k a v)->Heap.SameBut d s.heap h'->Q () { s with heap:=h',toks:=s.toks+knd.draws k })
    (hsz:xs.length<=sizeLine:=by size_fits):wpAny (model prog w) A (setItem (.ref d) (.ref a) v) Q E s :=
  mR hm.of.typeIs (k5 (hsz:=hsz) hu hkey hm hQ)
end
section
variable {knd:KeyKind prog w K} {key:Value}
theorem kB {kvs:List (K × Value)} {v:Value} {Q:Unit->Shared->Prop} (hkey:knd.is k key=true) (hm:DictOfE knd s.heap d kvs)
    (hQ:∀ h',DictOfE knd h' d (stored kvs k v)->Heap.SameBut d s.heap h'->Q () { s with heap:=h',toks:=s.toks+1 })
    (hsz:kvs.length<=sizeLine:=by size_fits):wpAny (model prog w) A (dictSet d key v) Q E s:=by
  obtain ⟨o,⟨es⟩,ep,ho,hc,hd,hk,hp,hn,rfl⟩:=hm
  have same:=hp.findIdx k
  have hz:(⟨es⟩:Array DictEntry).size<=sizeLine:=by have:=hp.length;simp at this ⊢;omega
  unfold dictSet
  refine zX (zV (knd.pyHash hkey ?_))
  refine lh (s:={ s with toks:=s.toks+1 }) (F:=fun r=>es.findIdx? (fun e=>knd.is k e.key)=r) ho hc hd hz
    (wpAny_dictFind_of (s:={ s with toks:=s.toks+1 }) hkey ho hd hk ⟨rfl,by simp⟩) ?_ ?_
  · intro i h' o' f g1 g2 g3 g4
    have at':stored kvs k v=_:=if_pos (any_of_findIdx_some (same.symm.trans f))
    refine hQ h' ⟨o',_,_,g1,g2,g3,hk.modify _ _,?_,?_,(Array.size_modify).symm⟩ g4 <;> rw [at']
    · simpa using hp.modify hn f v
    · exact (keys_map_store kvs k v).symm ▸ hn
  · intro h' o' f g1 g2 g3 g4
    have no:=not_mem_of_findIdx_none (same.symm.trans f)
    have at':stored kvs k v=_:=if_neg fun z=>by
      obtain ⟨x,hx,e⟩:=List.any_eq_true.mp z
      exact no (Ah.mpr ⟨x,hx,of_decide_eq_true e⟩)
    refine hQ h' ⟨o',_,_,g1,g2,g3,hk.push hkey _,?_,?_,by simp⟩ g4 <;> rw [at']
    · simpa using hp.append hkey (knd.hash k) v
    · rw [List.map_append]
      exact List.nodup_append.mpr ⟨hn,List.nodup_cons.mpr ⟨List.not_mem_nil,List.nodup_nil⟩,fun x hx y hy e=>no (by cases Az.mp hy;have e':x=k:=e;exact e' ▸ hx)⟩
theorem jO {kvs:List (K × Value)} {v:Value} {Q:Unit->Shared->Prop} (hkey:knd.is k key=true) (hm:DictOfE knd s.heap d kvs)
    (hQ:∀ h',DictOfE knd h' d (stored kvs k v)->Heap.SameBut d s.heap h'->Q () { s with heap:=h',toks:=s.toks+1 })
    (hsz:kvs.length<=sizeLine:=by size_fits):wpAny (model prog w) A (setItem (.ref d) key v) Q E s :=
  mR hm.of.typeIs (kB (hsz:=hsz) hkey hm hQ)
end
end
section
variable {κ:Type} [DecidableEq κ]
noncomputable def jl (kvs:List (κ × V)) (k:κ):Option V:=(kvs.find? fun kv=>decide (kv.1=k)).map (·.2)
noncomputable def fm (kvs:List (κ × V)) (k:κ) (v:V):List (κ × V) :=
  if (kvs.any fun kv=>decide (kv.1=k))=true then kvs.map (fun kv=>if kv.1=k then (kv.1,v) else kv) else kvs ++ [(k,v)]
theorem gQ {p:κ × V} {r:List (κ × V)} {k:κ} (e:p.1=k):jl (p :: r) k=some p.2:=by simp [jl,List.find?_cons,e]
theorem gR {p:κ × V} {r:List (κ × V)} {k:κ} (e:¬ p.1=k):jl (p :: r) k=jl r k:=by simp [jl,List.find?_cons,e]
theorem mL (k:κ):∀ kvs:List (κ × V),(kvs.any fun kv=>decide (kv.1=k))=(jl kvs k).isSome
  | []=>rfl
  | p :: r=>by
    rw [List.any_cons]
    by_cases e:p.1=k
    · simp only [gQ e,Ao e,Bool.true_or,Option.isSome_some]
    · rw [gR e,Ap e,Bool.false_or];exact mL k r
theorem jf (kvs:List (κ × V)) (k:κ) (v:V):(fm kvs k v).length<=kvs.length+1:=by
  unfold fm
  split
  · rw [Ad];omega
  · rw [Au,Av,List.length_nil];omega
theorem RelO.isSome_eq {o:Option V} {u:Option Value} (r:RelO o u):o.isSome=u.isSome:=by
  cases o with
  | none=>cases u with
    | none=>rfl
    | some _=>exact (show False from r).elim
  | some _=>cases u with
    | none=>exact (show False from r).elim
    | some _=>rfl
theorem RelO.getD {o:Option V} {u:Option Value} {d:V} {d':Value} (r:RelO o u) (rd:RelV d d'):RelV (o.getD d) (u.getD d'):=by
  cases o with
  | none=>cases u with
    | none=>exact rd
    | some _=>exact (show False from r).elim
  | some _=>cases u with
    | none=>exact (show False from r).elim
    | some _=>exact r
theorem KV.val {kvs:List (κ × V)} {vs:List (κ × Value)} (r:KV kvs vs) (k:κ):RelO (jl kvs k) (valueAt vs k):=by
  unfold KV at r
  induction r with
  | nil=>exact True.intro
  | @cons p q ps qs h t ih =>
    obtain ⟨h1,h2⟩:=h
    by_cases e:p.1=k
    · have e':q.1=k:=h1.symm.trans e
      have b:valueAt (q :: qs) k=some q.2:=by simp [valueAt,List.find?_cons,e']
      rw [gQ e,b];exact h2
    · have e':¬ q.1=k:=fun z=>e (h1.trans z)
      have b:valueAt (q :: qs) k=valueAt qs k:=by simp [valueAt,List.find?_cons,e']
      rw [gR e,b];exact ih
theorem KV.any {kvs:List (κ × V)} {vs:List (κ × Value)} (r:KV kvs vs) (k:κ):(kvs.any fun kv=>decide (kv.1=k))=vs.any fun kv=>decide (kv.1=k):=by
  unfold KV at r
  induction r with
  | nil=>rfl
  | cons h t ih=>rw [List.any_cons,List.any_cons,ih,h.1]
theorem KV.repl {kvs:List (κ × V)} {vs:List (κ × Value)} (r:KV kvs vs) (k:κ) {y:V} {u:Value} (ry:RelV y u) :
    KV (kvs.map fun kv=>if kv.1=k then (kv.1,y) else kv) (vs.map fun kv=>if kv.1=k then (kv.1,u) else kv):=by
  unfold KV at r ⊢
  induction r with
  | nil=>exact .nil
  | @cons p q ps qs h t ih =>
    rw [An,An]
    refine .cons ?_ ih
    obtain ⟨h1,h2⟩:=h
    by_cases e:p.1=k
    · rw [if_pos e,if_pos (h1.symm.trans e)];exact ⟨h1,ry⟩
    · rw [if_neg e,if_neg (fun z=>e (h1.trans z))];exact ⟨h1,h2⟩
theorem KV.put {kvs:List (κ × V)} {vs:List (κ × Value)} (r:KV kvs vs) (k:κ) {y:V} {u:Value} (ry:RelV y u):KV (fm kvs k y) (stored vs k u):=by
  unfold fm stored
  rw [r.any k]
  by_cases e:(vs.any fun kv=>decide (kv.1=k))=true
  · rw [if_pos e,if_pos e];exact r.repl k ry
  · rw [if_neg e,if_neg e];exact Paired.snoc r ⟨rfl,ry⟩
theorem KV.length {kvs:List (κ × V)} {vs:List (κ × Value)} (r:KV kvs vs):kvs.length=vs.length:=Paired.length r
end
theorem uw {P:Program} {w:World} {k:Key} {u:Value} (r:RelV (kV k) u):(bH P w).is k u=true:=by
  cases k with
  | inl i=>obtain ⟨t,e⟩:=(show ∃ t,u=Value.int i t from r);subst e;exact nG P w i t
  | inr x=>obtain ⟨t,e⟩:=(show ∃ t,u=Value.str x t from r);subst e;exact nF P w x t
theorem lE {P:Program} {w:World}:∀ {ks:List Key} {us:List Value},Vals (ks.map kV) us->ItemsAre (bH P w) ks us
  | [],_,r=>by rw [List.map_nil] at r;cases r;exact .nil
  | k :: ks,_,r=>by
    rw [An] at r
    cases r with
    | cons h t=>exact .cons (uw h) (lE t)
noncomputable abbrev KT (H:Hp):List (List Key × V)->List (List Key × Addr × Value)->Prop:=Paired fun p q=>p.1=q.1/\H q.2.1=some (.tup (p.1.map kV))/\RelV p.2 q.2.2
theorem KT.val {H:Hp} {kvs:List (List Key × V)} {xs:List (List Key × Addr × Value)} (r:KT H kvs xs) (k:List Key):RelO (jl kvs k) ((atKey xs k).map (·.2)):=by
  induction r with
  | nil=>exact True.intro
  | @cons p q ps qs h t ih =>
    obtain ⟨h1,_,h2⟩:=h
    by_cases e:p.1=k
    · have e':q.1=k:=h1.symm.trans e
      have b:atKey (q :: qs) k=some q.2:=by simp [atKey,List.find?_cons,e']
      rw [gQ e,b];exact h2
    · have e':¬ q.1=k:=fun z=>e (h1.trans z)
      have b:atKey (q :: qs) k=atKey qs k:=by simp [atKey,List.find?_cons,e']
      rw [gR e,b];exact ih
theorem KT.repl {H:Hp} {kvs:List (List Key × V)} {xs:List (List Key × Addr × Value)} (r:KT H kvs xs) (k:List Key) {y:V} {u:Value} (ry:RelV y u) :
    KT H (kvs.map fun kv=>if kv.1=k then (kv.1,y) else kv) (xs.map (putAt k u)):=by
  induction r with
  | nil=>exact .nil
  | @cons p q ps qs h t ih =>
    rw [An,An]
    refine .cons ?_ ih
    obtain ⟨h1,h2,h3⟩:=h
    unfold putAt
    by_cases e:p.1=k
    · rw [if_pos e,if_pos (h1.symm.trans e)];exact ⟨h1,h2,ry⟩
    · rw [if_neg e,if_neg (fun z=>e (h1.trans z))];exact ⟨h1,h2,h3⟩
theorem KT.put {H:Hp} {kvs:List (List Key × V)} {xs:List (List Key × Addr × Value)} (r:KT H kvs xs) (k:List Key) {b:Addr} {y:V} {u:Value} (hb:H b=some (.tup (k.map kV))) (ry:RelV y u) :
    KT H (fm kvs k y) (storedH xs k b u):=by
  have e:(kvs.any fun kv=>decide (kv.1=k))=(atKey xs k).isSome:=by
    rw [mL,(r.val k).isSome_eq,Option.isSome_map]
  unfold fm storedH
  rw [e]
  by_cases q:(atKey xs k).isSome=true
  · rw [if_pos q,if_pos q];exact r.repl k ry
  · rw [if_neg q,if_neg q];exact Paired.snoc r ⟨rfl,hb,ry⟩
theorem KT.keeps {H H':Hp} {kvs:List (List Key × V)} {xs:List (List Key × Addr × Value)} (r:KT H kvs xs) (ht:∀ b ys,H b=some (.tup ys)->H' b=some (.tup ys)):KT H' kvs xs :=
  Paired.mapP r fun _ _ z=>⟨z.1,ht _ _ z.2.1,z.2.2⟩
section
variable {P:Program} {w:World} {H:Hp} {h:Heap} {a:Addr}
theorem xC {u:HO} (ok:HOk P w H h) (e:Rd H a u):ObjOk P w H h a u:=e.ok ok
theorem uJ {kvs:List (Key × V)} (ok:HOk P w H h) (e:Rd H a (.dK kvs)):kvs.length<=sizeLine/\(a == sysModules)=false/\∃ vs,KV kvs vs/\DictOfE (bH P w) h a vs :=
  show ObjOk P w H h a (.dK kvs) from xC ok e
theorem xO {kvs:List (Key × V)} (ok:HOk P w H h) (e:Rd H a (.dK kvs)):kvs.length<=sizeLine/\(a == sysModules)=false/\∃ vs,KV kvs vs/\h.DictOf (bH P w) a vs:=let ⟨z,y,vs,r,d⟩:=uJ ok e;⟨z,y,vs,r,d.of⟩
theorem pw {ks:List Key} (ok:HOk P w H h) (e:H a=some (.tup (ks.map kV))):(tupleKind (bH P w)).is h ks a:=by
  obtain ⟨_,its,r,o,h1,h2,n,h3⟩:=(show ObjOk P w H h a (.tup (ks.map kV)) from ok a _ e)
  exact ⟨o,its.toArray,n,h1,h2,congrArg Prod.fst h3,by simpa using lE r⟩
theorem pB {kvs:List (List Key × V)} (ok:HOk P w H h) (e:Rd H a (.dT kvs)):kvs.length<=sizeLine/\(a == sysModules)=false /\
    ∃ xs,KT H kvs xs/\DictOfHE (tupleKind (bH P w)) h a xs:=by
  obtain ⟨z,y,xs,r,o,es,ep,h1,h2,h3,h4,h5⟩:=(show ObjOk P w H h a (.dT kvs) from xC ok e)
  refine ⟨z,y,xs,r,o,es,ep,h1,h2,h3,h4,fun x hx=>?_,h5⟩
  have all:∀ {l:List (List Key × V)} {m:List (List Key × Addr × Value)},KT H l m->∀ x ∈ m,(tupleKind (bH P w)).is h x.1 x.2.1:=by
    intro l m q
    induction q with
    | nil=>intro x hx;exact nomatch hx
    | @cons p q ps qs hq t ih =>
      intro x hx
      rcases z8.mp hx with e | hx
      · subst e
        exact pw ok (by rw [<- hq.1];exact hq.2.1)
      · exact ih x hx
  exact all r x hx
theorem xN {kvs:List (List Key × V)} (ok:HOk P w H h) (e:Rd H a (.dT kvs)):kvs.length<=sizeLine/\(a == sysModules)=false /\
    ∃ xs,KT H kvs xs/\h.DictOfH (tupleKind (bH P w)) a xs:=let ⟨z,y,xs,r,d⟩:=pB ok e;⟨z,y,xs,r,d.of⟩
end
noncomputable def DGet (H:Hp) (a:Addr) (y:V) (r:Option V):Prop :=
  (∃ kvs k,Rd H a (.dK kvs)/\y=kV k/\r=jl kvs k)\/∃ kvs k b,Rd H a (.dT kvs)/\y=.ref b/\H b=some (.tup (k.map kV))/\r=jl kvs k
noncomputable def DPut (H:Hp) (a:Addr) (y v:V) (H':Hp):Prop :=
  (∃ kvs k,H a=some (.dK kvs)/\y=kV k/\kvs.length < sizeLine/\H'=upd H a (.dK (fm kvs k v))) \/
  ∃ kvs k b,H a=some (.dT kvs)/\y=.ref b/\H b=some (.tup (k.map kV))/\kvs.length < sizeLine/\H'=upd H a (.dT (fm kvs k v))
theorem DGet.t {H:Hp} {a b:Addr} {kvs:List (List Key × V)} {k:List Key} (e:H a=some (.dT kvs)) (eb:H b=some (.tup (k.map kV))):DGet H a (.ref b) (jl kvs k):=.inr ⟨kvs,k,b,.inl e,rfl,eb,rfl⟩
theorem DPut.t {H:Hp} {a b:Addr} {kvs:List (List Key × V)} {k:List Key} {v:V} (e:H a=some (.dT kvs)) (eb:H b=some (.tup (k.map kV))) (hl:kvs.length < sizeLine) :
    DPut H a (.ref b) v (upd H a (.dT (fm kvs k v))):=.inr ⟨kvs,k,b,e,rfl,eb,hl,rfl⟩
section
variable {X:Cx} {pins:List (Addr × Obj)} {σ:St} {H:Hp} {s:Shared} {a:Addr} {y v:V} {u r:Value} {o:Option V} {A:Around} {E:Value->Shared->Prop}
theorem Inv.big (I:Inv X pins σ H s):sysModules < s.heap.objs.size:=by
  have h:mainGlobals < s.heap.objs.size:=(I.mod.glob.keeps I.bk).lt
  exact Nat.lt_trans (by decide) h
theorem r6 {Q:Value->Shared->Prop} (hu:A.units+1 < cLine) (I:Inv X pins σ H s) (g:DGet H a y (some v)) (ry:RelV y u) (h:∀ w' s',Inv X pins σ H s'->RelV v w'->Q w' s') :
    wpAny (model X.prog X.w) A (getItem (.ref a) u) Q E s:=by
  rcases g with ⟨kvs,k,e,ey,l⟩ | ⟨kvs,k,b,e,ey,eb,l⟩
  · subst ey
    obtain ⟨z,hd,vs,rel,dd⟩:=xO I.hok e
    obtain ⟨w',hw,rw'⟩:=RelO.some_of (v:=v) (o:=valueAt vs k) (by rw [l];exact rel.val k)
    exact wpAny_getItem_of (uw ry) dd.mapOf hw (h w' _ (I.tok _) rw')
  · subst ey
    cases (show u=Value.ref b from ry)
    obtain ⟨z,hd,xs,rel,dd⟩:=xN I.hok e
    obtain ⟨w',hw,rw'⟩:=RelO.some_of (v:=v) (o:=(atKey xs k).map (·.2)) (by rw [l];exact rel.val k)
    obtain ⟨p,hp,hp2⟩:=z5.mp hw
    refine wpAny_getItem_heap (tupleKind_room_in1 hu) (pw I.hok eb) dd hp ?_
    rw [hp2]
    exact h w' _ (I.tok _) rw'
theorem qF {h':Heap} {t':Nat} {ob:HO} (I:Inv X pins σ H s) (mu:Mut (H a)) (hs:Heap.SameBut a s.heap h') (he:∃ q,h'.get? a=some q) (new:ObjOk X.prog X.w (upd H a ob) h' a ob) :
    Inv X pins σ (upd H a ob) { s with heap:=h',toks:=t' } :=
  I.write (x:=a) (e:=a) mu (.inl rfl) (fun b q hb z=>(hs.2 b hb).trans z) he new
theorem zK {P:Program} {w:World} {H':Hp} {h':Heap} {kvs:List (Key × V)} {vs:List (Key × Value)} (z:kvs.length<=sizeLine) (hd:(a == sysModules)=false) (rel:KV kvs vs) (dd:DictOfE (bH P w) h' a vs) :
    ObjOk P w H' h' a (.dK kvs):=⟨z,hd,vs,rel,dd⟩
theorem r0 {H':Hp} {Q:Unit->Shared->Prop} (hu:A.units+1 < cLine) (I:Inv X pins σ H s) (g:DPut H a y v H') (ry:RelV y u) (rv:RelV v r) (h:∀ s',Inv X pins σ H' s'->Q () s') :
    wpAny (model X.prog X.w) A (setItem (.ref a) u r) Q E s:=by
  rcases g with ⟨kvs,k,e,ey,l,eH⟩ | ⟨kvs,k,b,e,ey,eb,l,eH⟩
  · subst ey eH
    obtain ⟨z,hd,vs,rel,dd⟩:=uJ I.hok (.inl e)
    have hz:vs.length<=sizeLine:=by rw [<- rel.length];exact z
    have hl:(fm kvs k v).length<=sizeLine:=by have:=jf kvs k v;omega
    refine jO (hsz:=hz) (uw ry) dd fun h' dd' hs=>h _ ?_
    have he:∃ q,h'.get? a=some q:=let ⟨q,_,_,hq,_⟩:=dd';⟨q,hq⟩
    exact qF I (by rw [e];exact True.intro) hs he (zK hl hd (rel.put k rv) dd')
  · subst ey eH
    cases (show u=Value.ref b from ry)
    obtain ⟨z,hd,xs,rel,dd⟩:=pB I.hok (.inl e)
    have hz:xs.length<=sizeLine:=by rw [<- Paired.length rel];exact z
    have hl:(fm kvs k v).length<=sizeLine:=by have:=jf kvs k v;omega
    refine kP (hsz:=hz) (tupleKind_room_in1 hu) (pw I.hok eb) dd fun h' dd' hs=>h _ ?_
    obtain ⟨q,es,ep,hq,h2,h3,h4,_,h5⟩:=dd'
    refine qF I (by rw [e];exact True.intro) hs ⟨q,hq⟩ ⟨hl,hd,_,(rel.put k eb rv).keeps fun c ys ec=>?_,q,es,ep,hq,h2,h3,h4,h5⟩
    rw [aJ (ne_of ec e (fun z=>nomatch z))]
    exact ec
end
theorem oi {X:Cx} {pins:List (Addr × Obj)} {σ:St} {H:Hp} {s:Shared} {a:Addr} {y:V} {o:Option V} (I:Inv X pins σ H s) (g:DGet H a y o):s.TypeIs (.ref a) "dict":=by
  rcases g with ⟨kvs,k,e,_,_⟩ | ⟨kvs,k,b,e,_,_,_⟩
  · obtain ⟨_,_,vs,_,dd⟩:=xO I.hok e
    exact dd.typeIs
  · obtain ⟨_,_,xs,_,dd⟩:=xN I.hok e
    exact dd.typeIs
theorem uH {P:Program} {w:World} {H:Hp} (h:Heap) (hb:sysModules < h.objs.size):ObjOk P w H (h.push { cls:=.type "dict",data:=.dict #[] }) h.objs.size (.dT []) :=
  ⟨Nat.zero_le _,beq_eq_false_iff_ne.mpr (Ne.symm (Al hb)),[],.nil,_,#[],0,Ac _ rfl,⟨rfl,rfl,rfl⟩,rfl,rfl,List.nodup_nil,rfl⟩
noncomputable def yq:TE:=fun _ H Q=>∀ p,H p=none->Q (.ref p) (upd H p (.dT []))
section
variable {X:Cx} {pos:Pos}
theorem tX:PE X (.Dict [] [] pos) yq:=fun pins s σ H Q I h =>
  wpAny_Dict_empty ⟨.ref s.heap.objs.size,_,I.laid (a:=s.heap.objs.size) (o:=.dT []) (t':=s.toks) (fun _ _ q=>z4 _ q) (Aj _) (uH s.heap I.big),rfl,h _ (I.hok.fresh (Aj _))⟩
end
end L2
namespace L2
open PySem PySem.Spec PyProof.Rows
end L2
end
section
namespace L2
open PySem PySem.Spec PyProof.Rows
noncomputable def jt (cells:List (Str × Addr)) (cs:List (Str × Addr)) (x:Str × NameKind):List (Str × Addr) :=
  if x.2 == .free then (match cells.lookup x.1 with | some c=>(x.1,c) :: cs | none=>cs) else cs
noncomputable def clo (cells:List (Str × Addr)) (names:List (Str × NameKind)):List (Str × Addr):=names.foldl (jt cells) []
theorem ku {α β:Type} {f:α->β->Sem (ForInStep β)} {g:β->α->β}:∀ {l:List α} {c:β},(∀ x ∈ l,∀ c,f x c=pure (.yield (g c x)))->forIn l c f=pure (l.foldl g c)
  | [],c,_=>rfl
  | x :: l,c,h=>by
    rw [List.forIn_cons,h x zY,pure_bind]
    exact ku fun y hy=>h y (zZ _ hy)
theorem gk {scope:Scope} {env:Env} (h:∀ x ∈ scope.names,x.2=.free->∃ c,env.cells.lookup x.1=some c):closureFor scope env=pure (clo env.cells scope.names):=by
  simp only [closureFor]
  rw [ku (g:=jt env.cells) (fun x hx c=>by
    obtain ⟨n,kind⟩:=x
    unfold jt
    by_cases hk:kind=.free
    · subst hk
      obtain ⟨a,e⟩:=h _ hx rfl
      have e':env.cells.lookup n=some a:=e
      simp [cellOf,e']
    · have hb:(kind == NameKind.free)=false:=by simpa using hk
      simp [hb])]
  rfl
theorem lG {cells:List (Str × Addr)} {x:Str} {c:Addr}:∀ {l:List (Str × NameKind)} {cs:List (Str × Addr)},(∀ y d,cs.lookup y=some d->cells.lookup y=some d)->(l.foldl (jt cells) cs).lookup x=some c->cells.lookup x=some c
  | [],cs,h,e=>h x c e
  | y :: l,cs,h,e=>by
    refine lG (l:=l) (cs:=jt cells cs y) (fun z d q=>?_) e
    unfold jt at q
    split at q
    · cases e2:cells.lookup y.1 with
      | none=>rw [e2] at q;exact h z d q
      | some a =>
        rw [e2] at q
        simp only [List.lookup_cons] at q
        cases hz:z == y.1 with
        | true=>rw [hz] at q;have:=eq_of_beq hz;subst this;rw [e2];exact q
        | false=>rw [hz] at q;exact h z d q
    · exact h z d q
theorem my {cells:List (Str × Addr)} {l:List (Str × NameKind)} {x:Str} {c:Addr} (e:(clo cells l).lookup x=some c):cells.lookup x=some c:=lG (fun _ _ q=>by simp at q) e
theorem ky {cells:List (Str × Addr)} {x:Str} {c:Addr} (hc:cells.lookup x=some c):∀ {l:List (Str × NameKind)} {cs:List (Str × Addr)},cs.lookup x=some c->(l.foldl (jt cells) cs).lookup x=some c
  | [],_,e=>e
  | y :: l,cs,e=>by
    refine ky hc (l:=l) (cs:=jt cells cs y) ?_
    unfold jt
    split
    · cases e2:cells.lookup y.1 with
      | none=>exact e
      | some a =>
        simp only [List.lookup_cons]
        cases hz:x == y.1 with
        | true=>have:=eq_of_beq hz;subst this;rw [hc] at e2;exact e2.symm
        | false=>exact e
    · exact e
theorem lH {cells:List (Str × Addr)} {x:Str} {c:Addr} (hc:cells.lookup x=some c):∀ {l:List (Str × NameKind)} {cs:List (Str × Addr)},(x,NameKind.free) ∈ l->(l.foldl (jt cells) cs).lookup x=some c
  | [],_,m=>by simp at m
  | y :: l,cs,m=>by
    rcases z8.mp m with rfl | m
    · refine ky hc (l:=l) ?_
      simp [jt,hc]
    · exact lH hc (l:=l) (cs:=jt cells cs y) m
theorem qG {cells:List (Str × Addr)} {l:List (Str × NameKind)} {x:Str} {c:Addr} (hc:cells.lookup x=some c) (m:(x,NameKind.free) ∈ l):(clo cells l).lookup x=some c:=lH hc m
theorem hV {env:Env}:∀ {names:List (Str × NameKind)} {x:Str},names.lookup x=some .free ->
    (names.map fun (n,k)=>if (k == NameKind.free && env.scope.kind == .function && env.kindOf n == some .cell) then (n,NameKind.cell) else (n,k)).lookup x=some .cell \/
    (names.map fun (n,k)=>if (k == NameKind.free && env.scope.kind == .function && env.kindOf n == some .cell) then (n,NameKind.cell) else (n,k)).lookup x=some .free
  | [],_,h=>by simp at h
  | (n,k) :: r,x,h=>by
    have ih:=@hV env r x
    show List.lookup x ((if (k == NameKind.free && env.scope.kind == .function && env.kindOf n == some .cell)=true then (n,NameKind.cell) else (n,k)) :: _)=_ \/
      List.lookup x ((if (k == NameKind.free && env.scope.kind == .function && env.kindOf n == some .cell)=true then (n,NameKind.cell) else (n,k)) :: _)=_
    cases hx:x == n with
    | true =>
      simp only [List.lookup_cons,hx] at h
      cases h
      split
      · left;simp [List.lookup_cons,hx]
      · right;simp [List.lookup_cons,hx]
    | false =>
      simp only [List.lookup_cons,hx] at h
      split
      · simp only [List.lookup_cons,hx];exact ih h
      · simp only [List.lookup_cons,hx];exact ih h
theorem jZ {env:Env}:∀ {names:List (Str × NameKind)} {x:Str},(∀ y ∈ names,y.2 ≠ .cell) ->
    ((names.map fun (n,k)=>if (k == NameKind.free && env.scope.kind == .function && env.kindOf n == some .cell) then (n,NameKind.cell) else (n,k)).lookup x=some .cell \/
    (names.map fun (n,k)=>if (k == NameKind.free && env.scope.kind == .function && env.kindOf n == some .cell) then (n,NameKind.cell) else (n,k)).lookup x=some .free)->(x,NameKind.free) ∈ names
  | [],_,_,h=>by simp at h
  | (n,k) :: r,x,hc,h=>by
    have ih:=@jZ env r x (fun y hy=>hc y (zZ _ hy))
    have hk:=hc (n,k) zY
    have h':List.lookup x ((if (k == NameKind.free && env.scope.kind == .function && env.kindOf n == some .cell)=true then (n,NameKind.cell) else (n,k)) :: (r.map fun (n,k)=>if (k == NameKind.free && env.scope.kind == .function && env.kindOf n == some .cell) then (n,NameKind.cell) else (n,k)))=some .cell \/
      List.lookup x ((if (k == NameKind.free && env.scope.kind == .function && env.kindOf n == some .cell)=true then (n,NameKind.cell) else (n,k)) :: (r.map fun (n,k)=>if (k == NameKind.free && env.scope.kind == .function && env.kindOf n == some .cell) then (n,NameKind.cell) else (n,k)))=some .free:=h
    cases hx:x == n with
    | true =>
      have e:=eq_of_beq hx
      subst e
      by_cases hf:k=.free
      · subst hf;exact zY
      · exfalso
        have hb:(k == NameKind.free)=false:=by simpa using hf
        simp [hb,List.lookup_cons] at h'
        rcases h' with q | q
        · exact hk q
        · exact hf q
    | false =>
      refine zZ _ (ih ?_)
      split at h'
      · simpa only [List.lookup_cons,hx] using h'
      · simpa only [List.lookup_cons,hx] using h'
noncomputable def aX (X:Cx) (NY:List Str) (scope:Scope) (s:Shared) (H:Hp) (C:Addr) (fp:List Addr):Cx where
  prog:=X.prog
  w:=X.w
  K:=X.K
  mg:=X.mg
  base:=X.base
  A:=X.A
  N:=NY
  s₀:=s
  H₀:=H
  env:=compEnvC scope (clo X.env.cells scope.names) C X.env
  outer:=X.stack
  stack:=X.stack
  ex:=fp
  fn:=fun _=>false
  calm:=X.calm
  pn:=[]
  xe:=fun _ _=>False
noncomputable def cap (ix:List (Option Nat)) (σ:St):St:=ix.map fun o=>match o with | some i=>(σ[i]?).getD none | none=>none
noncomputable def iV (sc:Scope) (XN:List Str) (Xsc:Scope) (NY:List Str) (ix:List (Option Nat)):Bool :=
  sc.kind == .function && sc.names.all (fun y=>y.2 != .cell) && sc.names.all (fun y=>y.2 != .local || sc.names.lookup y.1 == some .local) && sc.names.all (fun y=>y.2 != .free || sc.names.lookup y.1 == some .free)
    && sc.names.all (fun y=>y.2 != .free || (Xsc.names.lookup y.1 == some .cell || Xsc.names.lookup y.1 == some .free))
    && ix.length == NY.length && (NY.zip ix).all fun p=>match p.2 with | none=>true | some i=>(XN[i]? == some p.1) && sc.names.contains (p.1,NameKind.free)
structure CompOk (sc:Scope) (XN:List Str) (Xsc:Scope) (NY:List Str) (ix:List (Option Nat)):Prop where
  kind:sc.kind=.function
  nocell:∀ y ∈ sc.names,y.2 ≠ .cell
  loc:∀ y ∈ sc.names,y.2=.local->sc.names.lookup y.1=some .local
  fre:∀ y ∈ sc.names,y.2=.free->sc.names.lookup y.1=some .free
  out:∀ y ∈ sc.names,y.2=.free->Xsc.names.lookup y.1=some .cell\/Xsc.names.lookup y.1=some .free
  len:ix.length=NY.length
  cap:∀ (j:Nat) x i,NY[j]?=some x->ix[j]?=some (some i)->XN[i]?=some x/\(x,NameKind.free) ∈ sc.names
theorem CompOk.of {sc:Scope} {XN:List Str} {Xsc:Scope} {NY:List Str} {ix:List (Option Nat)} (h:iV sc XN Xsc NY ix=true):CompOk sc XN Xsc NY ix:=by
  simp only [iV,Bool.and_eq_true,List.all_eq_true,beq_iff_eq] at h
  obtain ⟨⟨⟨⟨⟨⟨h1,h2⟩,h3⟩,h4⟩,h5⟩,h6⟩,h7⟩:=h
  refine ⟨h1,fun y hy=>by simpa using h2 y hy,fun y hy e=>?_,fun y hy e=>?_,fun y hy e=>?_,h6,fun j x i e1 e2=>?_⟩
  · have:=h3 y hy;rw [e] at this;simpa using this
  · have:=h4 y hy;rw [e] at this;simpa using this
  · have:=h5 y hy;rw [e] at this;simpa using this
  · have m:(x,some i) ∈ NY.zip ix:=by
      refine Af (i:=j) ?_
      rw [List.getElem?_zip_eq_some]
      exact ⟨e1,e2⟩
    have:=h7 _ m
    simpa using this
section
variable {X:Cx}
theorem FpOk.of_upd {pins:List (Addr × Obj)} {H:Hp} {b D:Addr} {o:HO} (f:FpOk X pins H b) (h:b ≠ D):FpOk X pins (upd H D o) b:=⟨by rw [aJ h];exact f.1,f.2⟩
theorem HOk.track {P:Program} {w:World} {H:Hp} {h:Heap} {a:Addr} {o:HO} (x:HOk P w H h) (hn:H a=none) (new:ObjOk P w (upd H a o) h a o):HOk P w (upd H a o) h:=fun b u e=>by
  by_cases hb:b=a
  · subst hb;rw [bc] at e;cases e;exact new
  · rw [aJ hb] at e
    exact (x b u e).stay (fun c v _ q=>q) (fun c q=>by rw [aJ (bd q hn)];exact q) fun c xs q=>by rw [aJ (bd q hn)];exact q
noncomputable def PTs (Y:Cx) (ifs:List Expr) (t:TT):Prop :=
  ∀ (pins:List (Addr × Obj)) (s:Shared) (σ:St) (H:Hp) (Q:Bool->Hp->Prop),Inv Y pins σ H s->t σ H Q ->
    wpAny (model Y.prog Y.w) Y.A (forIn ifs true fun c r=>if r=true then do let ok <- isTrue c Y.env (eval c Y.env);pure (ForInStep.yield ok) else pure (ForInStep.yield r)) (TP Y pins σ Q) Y.xe s
noncomputable def tYes:TT:=fun _ H Q=>Q true H
theorem vW {Y:Cx}:PTs Y [] tYes:=fun pins s σ H Q I h=>wpAny_tests_nil ⟨H,I,h⟩
theorem vV {Y:Cx} {c:Expr} {t:TT} (h:PT Y c t):PTs Y [c] t:=fun pins s σ H Q I q=>wpAny_tests_one (h pins s σ H Q I q)
noncomputable def oK (J:It) (g:TG) (tc:TT) (te:TE) (Z:List V->Hp->Prop) (τ0:St) (H1:Hp):Prop :=
  ∃ W:Nat->Nat->List V->St->Hp->Prop,(∃ m,W 0 m [] τ0 H1)/\∀ i m ys τ H,W i m ys τ H->ys.length < sizeLine /\
    ((J.stop i H/\Z ys H)\/(J.go i H/\∃ N:List V->St->Hp->Prop,(∀ ys' τ' H',N ys' τ' H'->∃ m',m' < m/\W (i+1) m' ys' τ' H')/\∀ x H',J.yld i H x H'->g x τ H' fun τ2 H2=>tc τ2 H2 fun b H3 =>
      if b=true then te τ2 H3 fun y H4=>N (ys ++ [y]) τ2 H4 else N ys τ2 H3))
noncomputable def xx (wi:TI) (g:TG) (tc:TT) (te:TE) (ix:List (Option Nat)):TE:=fun σ H Q =>
  wi σ H fun J H1=>oK J g tc te (fun ys H2=>∀ p,H2 p=none->Q (.ref p) (upd H2 p (.lst ys))) (cap ix σ) H1
theorem pC {NY:List Str} {scope:Scope} {ix:List (Option Nat)} {pins:List (Addr × Obj)} {σ:St} {H:Hp} {s s4:Shared} {fp:List Addr} {C:Addr} (ck:CompOk scope X.N X.env.scope NY ix)
    (I:Inv X pins σ H s) (f:∀ b ∈ fp,FpOk X pins H b) (hC:s.heap.objs.size<=C) (hfp:∀ b ∈ fp,b < s.heap.objs.size) (h4:s4.os=s.os) (hg:s4.gens=s.gens) (keep:∀ b o,s.heap.get? b=some o->s4.heap.get? b=some o)
    (ns:s4.heap.Ns C fun _=>none):Inv (aX X NY scope s H C fp) [] (cap ix σ) H s4:=by
  have fC:FpOk X pins H C:=I.fpOk hC (I.hok.fresh hC)
  have cls:∀ x c,(clo X.env.cells scope.names).lookup x=some c->X.env.cells.lookup x=some c:=fun x c e=>my e
  have hset:∀ x,(x,NameKind.free) ∈ scope.names->∃ c,X.env.cells.lookup x=some c:=fun x m=>by
    rcases ck.out _ m rfl with q | q
    · exact I.ok.has x (.inl q)
    · exact I.ok.has x (.inr q)
  refine ⟨⟨I.ok.mod,ck.kind,I.ok.glob,I.ok.blt,hC,fun x y c e1 e2=>I.ok.inj x y c (cls x c e1) (cls y c e2),fun x hx=>?_,fun x c e _=>(Ak e).elim,fun e=>I.ok.hd e,I.ok.frames,.inl rfl,fun b hb=>⟨Al (Aq (hfp b hb) hC),fun x c e=>(f b hb).2.2.2.2.1 x c (cls x c e)⟩,
    I.bs,AG I.ok.bsz I.sz,fun b o e hb=>?_,fun b hb hz=>?_,I.stack,I.stkFree⟩,h4,by rw [hg];exact I.bare,Un.kept keep,⟨_,ns,fun i x v e1 e2 e3=>?_⟩,fun x c e=>?_,fC.1,fun x c e=>I.freeC x c (cls x c e),fun p hp=>absurd (show p ∈ ([]:List (Addr × Obj)) from hp) (by simp),I.hok.kept keep,?_⟩
  · have m:(x,NameKind.free) ∈ scope.names:=jZ ck.nocell hx
    obtain ⟨c,e⟩:=hset x m
    exact ⟨c,qG e m⟩
  · rcases (f b hb).2.2.2.1 with z | z
    · exact I.ok.noex b o e z
    · exact absurd (Aq (Aa e) (AG I.ok.bsz z)) (Nat.lt_irrefl _)
  · rcases z8.mp (I.stkSub b hz) with e | e
    · exact (f b hb).2.1 e
    · exact (f b hb).2.2.1 e
  · -- a captured name
    have q:∃ k,ix[i]?=some (some k)/\σ[k]?=some (some v):=by
      unfold cap at e2
      rw [Ai] at e2
      cases e:ix[i]? with
      | none=>rw [e] at e2;simp at e2
      | some o =>
        rw [e] at e2
        cases o with
        | none=>simp at e2
        | some k =>
          refine ⟨k,rfl,?_⟩
          simp only [Ax,Option.some.injEq] at e2
          cases e':σ[k]? with
          | none=>rw [e'] at e2;simp at e2
          | some o'=>rw [e'] at e2;simp at e2;rw [e2]
    obtain ⟨k,ek,ev⟩:=q
    obtain ⟨eN,m⟩:=ck.cap i x k e1 ek
    obtain ⟨mX,hnX,hl⟩:=I.loc
    have hv:Vis X.env.scope x:=by
      rcases ck.out _ m rfl with q | q
      · exact .inr (.inl q)
      · exact .inr (.inr q)
    obtain ⟨u,r,l⟩:=hl k x v eN ev hv
    refine ⟨u,r,.inr ?_⟩
    rcases l with ⟨kl,_⟩ | ⟨_,c,ec,hc⟩
    · exfalso
      rcases ck.out _ m rfl with q | q
      · have:=kl.symm.trans q;cases this
      · have:=kl.symm.trans q;cases this
    · obtain ⟨o,ho,hd⟩:=hc
      exact ⟨hV (ck.fre _ m rfl),c,qG ec m,o,keep c o ho,hd⟩
  · obtain ⟨v,o,ho,hd⟩:=I.cell x c (cls x c e)
    exact ⟨v,o,keep c o ho,hd⟩
  · show (cap ix σ).length=NY.length
    unfold cap
    rw [Ad]
    exact ck.len
set_option tactic.hygienic true in
theorem gj {prog:Program} {w:World} {A:Around} {R:Result->Shared->Prop} {s:Shared} {elt target iter:Expr} {ifs:List Expr} {scope:Scope} {pos:Pos} {it acc:Value} {env:Env} (I:Nat->Shared->Prop)
    (turn:∀ n s,I n s->wpAny (model prog w) A (pyNext it) (fun r s₁=>match r with
      | none=>R (.ok .next) s₁
      | some v=>wpAny (model prog w) A (letOwnedTupleGo target it v) (fun _ s₁'=>wpAny (model prog w) A (assign target env v) (fun _ s₂ =>
          wpAny (model prog w) A (forIn ifs true fun c r=>if r=true then do let ok <- isTrue c env (eval c env);pure (ForInStep.yield ok) else pure (ForInStep.yield r)) (fun ok s₃ =>
            if ok=true then wpAny (model prog w) A (eval elt env) (fun x s₄ =>
              wpAny (model prog w) A (call (.builtin "list.append") [acc,x]) (fun _ s₅=>∃ m,m < n/\I m s₅) (fun _ _=>False) s₄) (fun _ _=>False) s₃
            else ∃ m,m < n/\I m s₃) (fun _ _=>False) s₂) (fun _ _=>False) s₁') (fun _ _=>False) s₁) (fun _ _=>False) s)
    (n:Nat) (h:I n s) :
    codeAny (model prog w) A (.compLoop (.ListComp elt [⟨target,iter,ifs,0⟩] scope pos) 0 it acc env) R s:=by
  refine codeAny_loop rfl I (fun n s hI=>?_) n h
  show wpAny _ A ((compTurn (.ListComp elt [⟨target,iter,ifs,0⟩] scope pos) 0 it acc env).onRaise (fun x=>do noteFrame x env;theTreesLotGoes x)) _ _ s
  refine wpAny_noted ?_
  rw [compTurn_list]
  refine zV (wpAny_standAt (zV (wpAny_mono (turn n s hI) (fun r s₁ h₁=>?_) fun _ _ h'=>h'.elim)))
  cases r with
  | none=>exact zW h₁
  | some v =>
    refine zV (wpAny_mono h₁ (fun _ s₁' h₁'=>?_) fun _ _ h'=>h'.elim)
    refine zV (wpAny_mono h₁' (fun _ s₂ h₂=>zV (wpAny_mono h₂ (fun ok s₃ h₃=>?_) fun _ _ h'=>h'.elim)) fun _ _ h'=>h'.elim)
    cases ok with
    | false=>exact zW ⟨rfl,h₃⟩
    | true =>
      exact zV (zV (wpAny_mono h₃ (fun x s₄ h₄=>zV (wpAny_mono h₄ (fun _ s₅ h₅=>zW (zW ⟨rfl,h₅⟩)) fun _ _ h'=>h'.elim)) fun _ _ h'=>h'.elim))
set_option tactic.hygienic true in
theorem oq {elt tg iter:Expr} {ifs:List Expr} {NY:List Str} {scope:Scope} {ix:List (Option Nat)} {pos:Pos} {pins:List (Addr × Obj)} {σ:St} {H:Hp} {s:Shared} {fp:List Addr} {it:Addr} {tn:Nat->Heap->Prop} {J:It} {g:TG} {tc:TT} {te:TE} {Z:List V->Hp->Prop} {E:Value->Shared->Prop}
    {RR:Value->Addr->Result->Shared->Prop} (hc:X.calm=true) (ck:CompOk scope X.N X.env.scope NY ix)
    (hg:∀ s H C fp,PG (aX X NY scope s H C fp) tg g) (ht:∀ s H C fp,PTs (aX X NY scope s H C fp) ifs tc) (he:∀ s H C fp,PE (aX X NY scope s H C fp) elt te)
    (I:Inv X pins σ H s) (T:Turn X.prog X.w X.K tg J fp it tn) (st:tn 0 s.heap) (f:∀ b ∈ fp,FpOk X pins H b) (hW:oK J g tc te Z (cap ix σ) H)
    (hRR:∀ D C s' ys H' m,s'.heap.Ns C m->H' D=none->FpOk X pins (upd H' D (.lst ys)) C->Inv X pins σ (upd H' D (.lst ys)) s'->Z ys H'->RR (.ref D) C (.ok .next) s') :
    wpAny (model X.prog X.w) X.A (newList []) (fun acc s₃=>wpAny (model X.prog X.w) X.A (newFunctionEnv scope X.env.globals (clo X.env.cells scope.names) [] X.env.qual none .none (some X.env)) (fun cenv s₄ =>
      codeAny (model X.prog X.w) X.A (.compStart (.ListComp elt [⟨tg,iter,ifs,0⟩] scope pos) 0 (.ref it) acc { cenv with scope:=relabel scope X.env }) (RR acc cenv.locals) s₄) E s₃) E s:=by
  obtain ⟨W,⟨m0,w0⟩,turn⟩:=hW
  refine wpAny_newObj_type (wpAny_newFunctionEnv ck.nocell (by intro y hy;simp at hy) (fun h₁ hns₁ hsb₁=>?_) ck.kind)
  dsimp only at hns₁ hsb₁ ⊢
  generalize hH2:s.heap.push { cls:=.type "list",dict:=none,data:=.seq ([]:List Value).toArray }=H2 at hns₁ hsb₁ ⊢
  have hCs:H2.objs.size=s.heap.objs.size+1:=by rw [<- hH2,AE]
  have hDC:s.heap.objs.size ≠ H2.objs.size:=by rw [hCs];exact Al (Nat.lt_succ_self _)
  have hCle:s.heap.objs.size<=H2.objs.size:=by rw [hCs];exact Nat.le_succ _
  generalize hD:s.heap.objs.size=D at *
  generalize hC:H2.objs.size=C at *
  have below:∀ b o,s.heap.get? b=some o->b < D:=fun b o e=>by rw [<- hD];exact Aa e
  have old:∀ b o,s.heap.get? b=some o->h₁.get? b=some o:=fun b o e=>hsb₁.extBut b o (Al (Aq (below b o e) hCle)) (z4 _ (hH2 ▸ z4 _ e))
  have hacc0:H2.get? D=some { cls:=.type "list",dict:=none,data:=.seq ([]:List Value).toArray }:=by
    rw [<- hH2,<- hD];exact Ac _ rfl
  have hacc:h₁.PlainList D #[]:=⟨_,hsb₁.extBut _ _ hDC (z4 _ hacc0)⟩
  have hfp:∀ b ∈ fp,b < s.heap.objs.size:=fun b hb=>by
    obtain ⟨o,e,_⟩:=T.obj 0 _ st b hb
    exact Aa e
  have hfpD:∀ b ∈ fp,b < D:=fun b hb=>by rw [<- hD];exact hfp b hb
  have IY:Inv (aX X NY scope s H C fp) [] (cap ix σ) H { s with heap:=h₁,toks:=s.toks+([]:List (Str × Value)).length } :=
    pC ck I f (by rw [hD];exact hCle) hfp rfl rfl old hns₁
  have HDn:H D=none:=I.hok.fresh (by rw [hD];exact Aj _)
  have stackLt:∀ b ∈ frs X.stack,b < D:=fun b hb=>by
    obtain ⟨_,o,ho,_⟩:=I.stack.mem hb
    exact below b o ho
  have loop:∀ s₃:Shared,s₃ = { s with heap:=h₁,toks:=s.toks+([]:List (Str × Value)).length } ->
      codeAny (model X.prog X.w) X.A (.compLoop (.ListComp elt [⟨tg,iter,ifs,0⟩] scope pos) 0 (.ref it) (.ref D) (aX X NY scope s H C fp).env) (RR (.ref D) C) s₃:=by
    rintro s₃ rfl
    refine gj (fun n s'=>∃ i ys τ H' its,Inv (aX X NY scope s H C fp) [] τ H' s'/\H' D=none/\s'.heap.PlainList D its/\Vals ys its.toList/\tn i s'.heap/\(∀ b ∈ fp,H' b=none)/\W i n ys τ H') ?_ m0
      ⟨0,[],cap ix σ,H,#[],IY,HDn,hacc,.nil,T.keep _ _ _ st fun b _ o e=>old b o e,fun b hb=>(f b hb).1,w0⟩
    rintro n s3 ⟨i,ys,τ,H3,its,I3,d3,l3,v3,st3,fr3,w3⟩
    obtain ⟨nl,e3⟩:=id l3
    have I3p:Inv (aX X NY scope s H C fp) [(D,{ cls:=.type "list",data:=.seq its nl })] τ H3 s3:=I3.pins_of fun p hp=>by
      have e:p=(D,{ cls:=.type "list",data:=.seq its nl }):=by simpa using hp
      subst e
      exact ⟨e3,d3,hDC,fun z=>Nat.lt_irrefl _ (stackLt D z),fun v z=>by cases z⟩
    have fpo:∀ {H':Hp} {pl:List (Addr × Obj)},(∀ b ∈ fp,H' b=none)->(∀ p ∈ pl,p.1=D)->∀ b ∈ fp,FpOk (aX X NY scope s H C fp) pl H' b:=fun hn hp b hb =>
      ⟨hn b hb,Al (Aq (hfpD b hb) hCle),fun z=>by
        rcases z8.mp (I.stkSub b z) with e | e
        · exact (f b hb).2.1 e
        · exact (f b hb).2.2.1 e,.inl hb,fun x c e=>(f b hb).2.2.2.2.1 x c (my e),fun p hp'=>by
        have e:p.1=D:=hp p ((Ab.mp hp').elim (fun z=>absurd (show p ∈ ([]:List (Addr × Obj)) from z) (by simp)) fun z=>z)
        rw [e]
        exact Nat.ne_of_gt (hfpD b hb)⟩
    obtain ⟨zl,step⟩:=turn i n ys τ H3 w3
    have single:∀ p ∈ [(D,({ cls:=.type "list",data:=.seq its nl }:Obj))],p.1=D:=fun p hp=>by
      have e:p=(D,{ cls:=.type "list",data:=.seq its nl }):=by simpa using hp
      rw [e]
    rcases step with ⟨stop,qn⟩ | ⟨go,N,hN,step⟩
    · refine wpAny_mono (T.done (aX X NY scope s H C fp) rfl rfl rfl hc i _ s3 τ H3 (fun _ _=>False) I3p (fpo fr3 single) st3 stop) (fun r s4 ⟨hr,I4⟩=>?_) fun _ _ e=>e
      subst hr
      obtain ⟨mC,hnC,_⟩:=id I4.loc
      obtain ⟨e4,d4,_⟩:=I4.pin (D,{ cls:=.type "list",data:=.seq its nl }) (by simp [aX])
      have lt4:∀ b o,s.heap.get? b=some o->b ≠ D:=fun b o e=>Al (below b o e)
      have u4:=I4.base
      refine hRR D C s4 ys H3 mC hnC d4 ?_ ?_ qn
      · exact (I.fpOk (by rw [hD];exact hCle) (by exact I4.free)).of_upd (Ne.symm hDC)
      · refine I.call' (ch:=fp) I4.os (H':=upd H3 D (.lst ys)) ⟨u4.keep,u4.slot,fun b o e n hx=>?_,u4.there,fun b xs e=>?_,fun b o u e=>?_,fun b ps e=>?_⟩ ?_ I4.bare fun b hb=>?_
        · rw [aJ (lt4 b o e)];exact u4.free b o e n hx
        · have q:=u4.tups b xs e;rw [aJ (bd q d4)];exact q
        · have q:=u4.frzs b o u e;rw [aJ (bd q d4)];exact q
        · obtain ⟨more,q⟩:=u4.tbls b ps e;exact ⟨more,by rw [aJ (bd q d4)];exact q⟩
        · exact I4.hok.track d4 ⟨Nat.le_of_lt zl,its.toList,nl,v3,by simpa using e4⟩
        · exact ⟨(f b hb).2.2.2.1,(f b hb).2.1,(f b hb).2.2.2.2.1,(f b hb).2.2.2.2.2⟩
    · refine wpAny_mono (T.item (aX X NY scope s H C fp) rfl rfl rfl hc i _ s3 τ H3 (fun _ _=>False) I3p (fpo fr3 single) st3 go) (fun r s4 ⟨u,hr,h4⟩=>?_) fun _ _ e=>e
      subst hr
      refine wpAny_mono h4 (fun _ s5 ⟨x,H5,I5,r5,y5,st5,fr5⟩=>?_) fun _ _ e=>e
      have I5':=I5.pinned (fpo fr5 single) (T.obj _ _ st5)
      refine wpAny_mono (hg s H C fp _ s5 τ H5 x u _ I5' r5 (step x H5 y5)) (fun _ s6 ⟨τ6,H6,I6,q6⟩=>?_) fun _ _ e=>e
      refine wpAny_mono (ht s H C fp _ s6 τ6 H6 _ I6 q6) (fun b s7 ⟨H7,I7,q7⟩=>?_) fun _ _ e=>e
      have after:∀ {s':Shared} {H':Hp},Inv (aX X NY scope s H C fp) ([(D,{ cls:=.type "list",data:=.seq its nl })] ++ j7 fp s5.heap) τ6 H' s'->tn (i+1) s'.heap/\(∀ b ∈ fp,H' b=none)/\H' D=none/\s'.heap.PlainList D its:=fun {s' H'} I' =>
        ⟨T.keep _ _ _ st5 fun b hb o e=>(I'.pin (b,o) (z7 _ (z7 _ (ft hb e)))).1,fun b hb=>by
          obtain ⟨o,e,d⟩:=T.obj _ _ st5 b hb
          exact (I'.pin (b,o) (z7 _ (z7 _ (ft hb e)))).2.1,(I'.pin (D,_) (z7 _ (z6 _ (Az.mpr rfl)))).2.1,
          nl,(I'.pin (D,_) (z7 _ (z6 _ (Az.mpr rfl)))).1⟩
      cases b with
      | false =>
        rw [if_neg Ak]
        rw [if_neg Ak] at q7
        obtain ⟨m',hm,w7⟩:=hN _ _ _ q7
        obtain ⟨a1,a2,a3,a4⟩:=after I7
        exact ⟨m',hm,i+1,ys,τ6,H7,its,I7.pins_of (fun _ z=>absurd z (by simp)),a3,a4,v3,a1,a2,w7⟩
      | true =>
        rw [if_pos rfl]
        rw [if_pos rfl] at q7
        refine wpAny_mono (he s H C fp _ s7 τ6 H7 _ I7 q7) (fun y s8 ⟨yv,H8,I8,r8,n8⟩=>?_) fun _ _ e=>e
        obtain ⟨m',hm,w8⟩:=hN _ _ _ n8
        obtain ⟨a1,a2,a3,a4⟩:=after I8
        have hsz0:ys.length=its.size:=by simpa using v3.length
        have hsz:its.size<=sizeLine:=by omega
        refine wpAny_list_append_plain (hsz:=hsz) a4 fun h9 l9 sb9=>?_
        have I9:Inv (aX X NY scope s H C fp) [] τ6 H8 { s8 with heap:=h9,toks:=s8.toks }:=(I8.pins_of (pins':=[]) fun _ z=>absurd z (by simp)).turned (it:=D) (fun b o hb e=>(sb9.2 b hb).trans e) a3 hDC (.inr (by show s.heap.objs.size<=D;rw [hD];exact Aj _)) (fun x c e z=>?_) fun p z=>absurd (show p ∈ ([]:List (Addr × Obj)) from z) (by simp)
        · refine ⟨m',hm,i+1,ys ++ [yv],τ6,H8,its.push y,I9,a3,l9,?_,T.keep _ _ _ a1 fun b hb o e=>(sb9.2 b (Al (hfpD b hb))).trans e,a2,w8⟩
          rw [Array.toList_push]
          exact v3.append (.cons r8 .nil)
        · obtain ⟨v,o,ho,_⟩:=I.cell x c (my e)
          exact Nat.lt_irrefl _ (z ▸ below c o ho)
  exact codeAny_compStart_list (loop _ rfl) (T.self X.A 0 _ _ _ (T.keep _ _ _ st fun b _ o e=>old b o e) (loop _ rfl))
theorem wj {elt tg iter:Expr} {ifs:List Expr} {scope:Scope} {pos:Pos} {wi:TI} {g:TG} {tc:TT} {te:TE} (NY:List Str) (ix:List (Option Nat)) (hc:X.calm=true) (hi:PI X tg iter wi)
    (hg:∀ s H C fp,PG (aX X NY scope s H C fp) tg g) (ht:∀ s H C fp,PTs (aX X NY scope s H C fp) ifs tc) (he:∀ s H C fp,PE (aX X NY scope s H C fp) elt te)
    (ck:iV scope X.N X.env.scope NY ix=true) (hs:∀ x,foldedSetIterable iter X.env x=pure x:=by intro _;rfl):PE X (.ListComp elt [⟨tg,iter,ifs,0⟩] scope pos) (xx wi g tc te ix):=by
  intro pins s σ H Q I h
  have ck:=CompOk.of ck
  rw [eval_ListComp]
  refine wpAny_comprehension_free (use:=none) rfl hs (gk (scope:=scope) (env:=X.env) fun x m e=>?_) ck.kind ck.loc (thn (hi pins s σ H _ I h) fun v s1 h1=>thn h1 fun itv s2 h2=>?_)
  · rcases ck.out x m e with q | q
    · exact I.ok.has x.1 (.inl q)
    · exact I.ok.has x.1 (.inr q)
  · obtain ⟨it,fp,tn,J,H2,e,I2,T,st2,f2,hW⟩:=h2
    subst e
    refine oq (RR:=fun acc C=>compPost (model X.prog X.w) X.A X.xe none (EP X pins σ Q) acc C) hc ck hg ht he I2 T st2 f2 hW ?_
    intro D C s' ys H' m hn hD fC I' hZ
    obtain ⟨f0,f1,f2,f3,f4,f5⟩:=fC
    exact ⟨m,hn,fun h' sb=>⟨.ref D,_,I'.turned (t':=s'.toks) (fun b o hb e=>(sb.2 b hb).trans e) f0 f1 f3 f4 f5,rfl,hZ D hD⟩⟩
noncomputable def xA (i:Nat) (wi:TI) (g:TG) (tc:TT) (te:TE) (ix:List (Option Nat)):TS:=fun D σ H =>
  wi σ H fun J H1=>oK J g tc te (fun ys H2=>∀ p,H2 p=none->D.nx (σ.set i (some (.ref p))) (upd H2 p (.lst ys))) (cap ix σ) H1
set_option tactic.hygienic true in
theorem o1 {i:Nat} {y:Str} {py spos:Pos} {elt tg iter:Expr} {ifs:List Expr} {scope:Scope} {pos:Pos} {wi:TI} {g:TG} {tc:TT} {te:TE} (hN:X.N.Nodup) (hy:X.N[i]?=some y) (hx:Loc X.env.scope y) (NY:List Str) (ix:List (Option Nat)) (hc:X.calm=true) (hi:PI X tg iter wi)
    (hg:∀ s H C fp,PG (aX X NY scope s H C fp) tg g) (ht:∀ s H C fp,PTs (aX X NY scope s H C fp) ifs tc) (he:∀ s H C fp,PE (aX X NY scope s H C fp) elt te)
    (ck:iV scope X.N X.env.scope NY ix=true)
    (hsw:swapsWith (.ListComp elt [⟨tg,iter,ifs,0⟩] scope pos) (some (.Name y py)) spos.line X.env=pure true:=by rfl)
    (hf:X.fn y=true\/X.env.scope.names.lookup y=some .local:=by first | exact .inl rfl | exact .inr rfl | assumption)
    (hs:∀ x,foldedSetIterable iter X.env x=pure x:=by intro _;rfl):PS X (.Assign [.Name y py] (.ListComp elt [⟨tg,iter,ifs,0⟩] scope pos) spos) (xA i wi g tc te ix):=by
  intro pins s σ H D I h
  have ck:=CompOk.of ck
  rw [exec_Assign_Name_used _ _ _ _ hsw]
  refine zV (wpAny_standAt (zV ?_))
  show wpAny _ X.A (do let _ <- comprehension (.ListComp elt [⟨tg,iter,ifs,0⟩] scope pos) scope X.env _ (newList []) false (eval iter X.env) (some (assign (.Name y py) X.env))) _ _ s
  refine zV (wpAny_mono (wpAny_comprehension_free (use:=some (assign (.Name y py) X.env)) (Q:=fun _ s'=>SP X pins D .next s') rfl hs (gk (scope:=scope) (env:=X.env) fun x m e=>?_) ck.kind ck.loc
    (thn (hi pins s σ H _ I h) fun v s1 h1=>thn h1 fun itv s2 h2=>?_)) (fun _ s' hq=>zW (zW hq)) fun _ _ e=>e)
  · rcases ck.out x m e with q | q
    · exact I.ok.has x.1 (.inl q)
    · exact I.ok.has x.1 (.inr q)
  · obtain ⟨it,fp,tn,J,H2,e,I2,T,st2,f2,hW⟩:=h2
    subst e
    refine oq (RR:=fun acc C=>compPost (model X.prog X.w) X.A X.xe (some (assign (.Name y py) X.env)) (fun _ s'=>SP X pins D .next s') acc C) hc ck hg ht he I2 T st2 f2 hW ?_
    intro D' C s' ys H' m hn hD fC I' hZ
    obtain ⟨f0,f1,f2,f3,f4,f5⟩:=fC
    show wpAny _ X.A (assign (.Name y py) X.env (.ref D')) _ _ _
    refine wpAny_assign_Name (li I' hN hy hx (v:=.ref D') rfl (fun s'' I'' ⟨a,sb,ha⟩=>?_) hf)
    have hCa:C ≠ a:=by
      rcases ha with e | e
      · rw [e];exact f1
      · exact fun z=>f4 y a e z.symm
    exact ⟨m,hn.sameBut sb hCa,fun h' sb'=>⟨_,_,I''.turned (t':=s''.toks) (fun b o hb e=>(sb'.2 b hb).trans e) f0 f1 f3 f4 f5,hZ D' hD⟩⟩
end
end L2
end
section
namespace L2
open PySem PySem.Spec PyProof.Rows
section
variable {X:Cx}
inductive KindOf (K:FG) (H:Hp):V->String->Prop
  | int (i:Int):KindOf K H (.int i) "int"
  | bool (b:Bool):KindOf K H (.bl b) "bool"
  | str (x:Str):KindOf K H (.str x) "str"
  | non:KindOf K H .non "NoneType"
  | tuple {a:Addr} {xs:List V}:SqT K H a xs->KindOf K H (.ref a) "tuple"
  | list {a:Addr} {xs:List V}:SqL K H a xs->KindOf K H (.ref a) "list"
  | dK {a:Addr} {kvs}:H a=some (.dK kvs)->KindOf K H (.ref a) "dict"
  | dT {a:Addr} {kvs}:H a=some (.dT kvs)->KindOf K H (.ref a) "dict"
noncomputable def nX (k t:String):Bool:=k == t || (k == "bool" && t == "int")
theorem Inv.clsK {pins:List (Addr × Obj)} {s:Shared} {σ:St} {H:Hp} {a:Addr} {k:String} (I:Inv X pins σ H s) (h:KindOf X.K H (.ref a) k):∃ o,s.heap.get? a=some o/\o.cls=.type k:=by
  cases h with
  | tuple h=>obtain ⟨its,_,⟨o,e,c,_⟩,_⟩:=I.tuple h;exact ⟨o,e,c⟩
  | list h=>obtain ⟨its,_,⟨o,n,e,c,_⟩,_⟩:=I.list h;exact ⟨o,e,c⟩
  | dK h=>obtain ⟨_,_,_,_,o,_,_,e,c,_⟩:=I.hok a _ h;exact ⟨o,e,c.1⟩
  | dT h=>obtain ⟨_,_,_,_,o,_,_,e,c,_⟩:=I.hok a _ h;exact ⟨o,e,c.1⟩
theorem mz:CallR X (.builtin "isinstance") (fun xs H Q=>∃ x k,xs=[x,.ty "int"]/\KindOf X.K H x k/\Q (.bl (nX k "int")) H):=by
  intro pins s σ H xs us Q I r h
  obtain ⟨x,k,rfl,hk,q⟩:=h
  obtain ⟨u,v,rfl,ru,rv⟩:=lg r
  cases (show v=Value.type "int" from rv)
  cases hk with
  | int i=>obtain ⟨tk,rfl⟩:=ru;exact IsiPair.int_int ⟨.bl true,H,I,rfl,q⟩
  | bool b=>cases (show u=Value.bool b from ru);exact IsiPair.bool_int ⟨.bl true,H,I,rfl,q⟩
  | str z=>obtain ⟨tk,rfl⟩:=ru;exact IsiPair.str_int ⟨.bl false,H,I.tok _,rfl,q⟩
  | non=>cases (show u=Value.none from ru);exact IsiPair.NoneType_int ⟨.bl false,H,I.tok _,rfl,q⟩
  | tuple hh=>cases ru;obtain ⟨o,e,c⟩:=I.clsK (.tuple hh);exact IsiPair.tuple_int e c ⟨.bl false,H,I.tok _,rfl,q⟩
  | list hh=>cases ru;obtain ⟨o,e,c⟩:=I.clsK (.list hh);exact IsiPair.list_int e c ⟨.bl false,H,I.tok _,rfl,q⟩
  | dK hh=>cases ru;obtain ⟨o,e,c⟩:=I.clsK (.dK hh);exact IsiPair.dict_int e c ⟨.bl false,H,I.tok _,rfl,q⟩
  | dT hh=>cases ru;obtain ⟨o,e,c⟩:=I.clsK (.dT hh);exact IsiPair.dict_int e c ⟨.bl false,H,I.tok _,rfl,q⟩
theorem gH:CallR X (.builtin "isinstance") (fun xs H Q=>∃ x k,xs=[x,.ty "bool"]/\KindOf X.K H x k/\Q (.bl (nX k "bool")) H):=by
  intro pins s σ H xs us Q I r h
  obtain ⟨x,k,rfl,hk,q⟩:=h
  obtain ⟨u,v,rfl,ru,rv⟩:=lg r
  cases (show v=Value.type "bool" from rv)
  cases hk with
  | int i=>obtain ⟨tk,rfl⟩:=ru;exact IsiPair.int_bool ⟨.bl false,H,I.tok _,rfl,q⟩
  | bool b=>cases (show u=Value.bool b from ru);exact IsiPair.bool_bool ⟨.bl true,H,I,rfl,q⟩
  | str z=>obtain ⟨tk,rfl⟩:=ru;exact IsiPair.str_bool ⟨.bl false,H,I.tok _,rfl,q⟩
  | non=>cases (show u=Value.none from ru);exact IsiPair.NoneType_bool ⟨.bl false,H,I.tok _,rfl,q⟩
  | tuple hh=>cases ru;obtain ⟨o,e,c⟩:=I.clsK (.tuple hh);exact IsiPair.tuple_bool e c ⟨.bl false,H,I.tok _,rfl,q⟩
  | list hh=>cases ru;obtain ⟨o,e,c⟩:=I.clsK (.list hh);exact IsiPair.list_bool e c ⟨.bl false,H,I.tok _,rfl,q⟩
  | dK hh=>cases ru;obtain ⟨o,e,c⟩:=I.clsK (.dK hh);exact IsiPair.dict_bool e c ⟨.bl false,H,I.tok _,rfl,q⟩
  | dT hh=>cases ru;obtain ⟨o,e,c⟩:=I.clsK (.dT hh);exact IsiPair.dict_bool e c ⟨.bl false,H,I.tok _,rfl,q⟩
theorem gl:CallR X (.builtin "isinstance") (fun xs H Q=>∃ x k,xs=[x,.ty "tuple"]/\KindOf X.K H x k/\Q (.bl (nX k "tuple")) H):=by
  intro pins s σ H xs us Q I r h
  obtain ⟨x,k,rfl,hk,q⟩:=h
  obtain ⟨u,v,rfl,ru,rv⟩:=lg r
  cases (show v=Value.type "tuple" from rv)
  cases hk with
  | int i=>obtain ⟨tk,rfl⟩:=ru;exact IsiPair.int_tuple ⟨.bl false,H,I.tok _,rfl,q⟩
  | bool b=>cases (show u=Value.bool b from ru);exact IsiPair.bool_tuple ⟨.bl false,H,I.tok _,rfl,q⟩
  | str z=>obtain ⟨tk,rfl⟩:=ru;exact IsiPair.str_tuple ⟨.bl false,H,I.tok _,rfl,q⟩
  | non=>cases (show u=Value.none from ru);exact IsiPair.NoneType_tuple ⟨.bl false,H,I.tok _,rfl,q⟩
  | tuple hh=>cases ru;obtain ⟨o,e,c⟩:=I.clsK (.tuple hh);exact IsiPair.tuple_tuple e c ⟨.bl true,H,I,rfl,q⟩
  | list hh=>cases ru;obtain ⟨o,e,c⟩:=I.clsK (.list hh);exact IsiPair.list_tuple e c ⟨.bl false,H,I.tok _,rfl,q⟩
  | dK hh=>cases ru;obtain ⟨o,e,c⟩:=I.clsK (.dK hh);exact IsiPair.dict_tuple e c ⟨.bl false,H,I.tok _,rfl,q⟩
  | dT hh=>cases ru;obtain ⟨o,e,c⟩:=I.clsK (.dT hh);exact IsiPair.dict_tuple e c ⟨.bl false,H,I.tok _,rfl,q⟩
theorem sB {bs:List Bool}:((List.range bs.length).all fun i=>bs.getD i false)=bs.all id:=by
  rw [Bool.eq_iff_iff]
  simp only [List.all_eq_true,List.mem_range,id]
  constructor
  · intro h b hb
    obtain ⟨i,hi,rfl⟩:=List.mem_iff_getElem.mp hb
    simpa [List.getD,hi] using h i hi
  · intro h i hi
    simpa [List.getD,hi] using h _ (List.getElem_mem hi)
theorem oB (hc:X.calm=true):CallR X (.builtin "all") (fun xs H Q=>∃ (a:Addr) (bs:List Bool),xs=[.ref a]/\SqL X.K H a (bs.map V.bl)/\Q (.bl (bs.all id)) H):=by
  intro pins s σ H xs us Q I r h
  obtain ⟨a,bs,rfl,hq,q⟩:=h
  obtain ⟨u,rfl,ru⟩:=jI r
  cases ru
  obtain ⟨its,rv,p,hz⟩:=I.list hq
  have hl:=rv.length
  rw [Ad] at hl
  have hlt:a < s.heap.objs.size:=by obtain ⟨o,_,e,_⟩:=id p;exact Aa e
  refine call_all_walk (wpAny_pyIter_list p.isList ?_)
  refine ⟨s.heap.objs.size,_,_,_,_,_,fun i=>bs.getD i false,rfl,Walks.list (show X.A.in1.handled=none from I.ok.hd hc) s.heap.objs.size a (Al hlt) its.toArray,⟨⟨_,Ac _ rfl,rfl,rfl⟩,p.isList.at fun o e=>z4 _ e⟩,?_,?_⟩
  · intro i v s' Q' E' hv hQ'
    have hv':its[i]?=some v:=by simpa using hv
    have hi:i < bs.length:=by
      have:=(Ae.mp hv').1
      omega
    obtain ⟨u,hu,ru⟩:=rv.get (i:=i) (x:=V.bl (bs[i])) (by simp [hi])
    rw [hv'] at hu
    cases hu
    cases (show v=Value.bool bs[i] from ru)
    refine AF ?_
    have e:bs.getD i false=bs[i]:=by simp [List.getD,hi]
    have hQ2:Q' (bs.getD i false) s':=hQ'
    rw [e] at hQ2
    exact hQ2
  · intro h' tk hk
    have I1:Inv X pins σ H { s with heap:=h',toks:=tk }:=I.kept fun b o e=>hk b o (by
      intro hm
      have e':b=s.heap.objs.size:=by simpa using hm
      exact absurd (e' ▸ Aa e) (Nat.lt_irrefl _)) (z4 _ e)
    refine ⟨.bl (bs.all id),H,I1,?_,q⟩
    show Value.bool _=Value.bool _
    rw [Am,<- hl,sB]
end
end L2
end
section
namespace L2
open PySem PySem.Spec PyProof.Rows
structure Callee (P:Program) (w:World) (K:FG) (mg:Str->Option Value) (base:Heap) (x:Str) (k:Nat) (ps:List Str) (sp:Sp):Prop where
  ex:∃ (f:Addr) (fd:FuncData),FnOk P w K mg base CX0 k f fd ps sp/\mg x=some (.ref f)/\PySem.W.keepIn K (.ref f)=true/\Binds K fd ps []
structure DefAt (K:FG) (mg:Str->Option Value) (x:Str) (st:Stmt) (f:Addr) (fd:FuncData):Prop where
  fn:Fun K x x st f fd
  mg:mg x=some (.ref f)
noncomputable def Def (K:FG) (mg:Str->Option Value) (x:Str) (st:Stmt):Prop:=∃ f fd,DefAt K mg x st f fd
theorem Def.callee {P:Program} {w:World} {K:FG} {mg:Str->Option Value} {base:Heap} {x:Str} {st:Stmt} {k:Nat} {ps:List Str} {sp:Sp} (D:Def K mg x st)
    (hb:∀ (kV doc pm:Value) (an:Option Addr) (cdv ct:Value) (us:List Value),us.length=ps.length->bindArgs (PySem.W.fnOf x x (bg st) (aU st) (ai st) .none kV doc pm an cdv ct) ⟨us,[]⟩=pure (ps.zip us))
    (h:∀ f fd,Fun K x x st f fd->FnOk P w K mg base CX0 k f fd ps sp):Callee P w K mg base x k ps sp :=
  let ⟨f,fd,d⟩:=D
  ⟨f,fd,h f fd d.fn,d.mg,d.fn.kp,d.fn.binds hb⟩
section
variable {X:Cx} {x:Str} {p pos:Pos} {e:Expr} {es:List Expr} {t:TA} {k:Nat} {ps:List Str} {sp:Sp}
noncomputable def tFn (sp:Sp) (t:TA):TE:=fun σ H Q=>t σ H fun vs H1=>sp vs H1 Q E0
theorem pe_fn (c:Callee X.prog X.w X.K X.mg X.base x k ps sp) (hr:Room k X.A) (ha:PA X (e :: es) t) (hg:Gl X x:=by rfl) (hdb:(x == ("__debug__":Str))=false:=by decide)
    (he:starEach (e :: es) X.env=(false,eval e X.env) :: starEach es X.env:=by rfl) (hpl:(backTo pos (starEach es X.env)).any (·.1)=false:=by rfl):PE X (.Call (.Name x p) (e :: es) [] pos) (tFn sp t):=by
  obtain ⟨f,fd,F,hm,hk,hb⟩:=c.ex
  have h:=wl (pos:=pos) (p:=p) (dvs:=[]) (E:=E0) F hr hg hm hk hb .nil pass0 ha hdb he hpl
  intro pins s σ H Q I q
  refine h pins s σ H Q I ?_
  show t σ H fun vs H1=>sp (vs ++ []) H1 Q E0
  have q':t σ H (fun vs H1=>sp vs H1 Q E0):=q
  simpa using q'
end
noncomputable def But (p:Addr) (H H':Hp):Prop:=∀ b o,H b=some o->b ≠ p->H' b=some o
theorem But.trans {p:Addr} {H H1 H2:Hp} (a:But p H H1) (b:But p H1 H2):But p H H2:=fun c o h n=>b c o (a c o h n) n
noncomputable abbrev Pt:=Int × Int
noncomputable def bE (p q r:Pt):Int:=(q.1 - p.1) * (r.2 - p.2) - (q.2 - p.2) * (r.1 - p.1)
noncomputable def Small (p:Pt):Prop:=-(2 ^ 62) < p.1/\p.1 < 2 ^ 62/\-(2 ^ 62) < p.2/\p.2 < 2 ^ 62
noncomputable def Rising (ps:List Pt):Prop:=∀ (i j:Nat) (p q:Pt),i < j->ps[i]?=some p->ps[j]?=some q->p.1 < q.1
noncomputable def NoLine (ps:List Pt):Prop:=∀ (i j k:Nat) (p q r:Pt),i < j->j < k->ps[i]?=some p->ps[j]?=some q->ps[k]?=some r->bE p q r ≠ 0
structure GoodSh (ps:List Pt):Prop where
  pos:0 < ps.length
  most:ps.length<=24
  small:∀ p ∈ ps,Small p
  rising:Rising ps
  noline:NoLine ps
noncomputable def jb:List Pt->List (Pt × Pt)
  | []=>[]
  | p :: r=>r.map (fun q=>(p,q)) ++ jb r
theorem lz:∀ {ps:List Pt} {i j:Nat} {p q:Pt},i < j->ps[i]?=some p->ps[j]?=some q->(p,q) ∈ jb ps
  | [],_,_,_,_,_,h,_=>by simp at h
  | a :: r,0,0,_,_,h,_,_=>by omega
  | a :: r,0,j+1,p,q,_,h1,h2=>by
    simp at h1 h2;subst h1
    exact z6 _ (Ah.mpr ⟨q,Af h2,rfl⟩)
  | a :: r,i+1,0,_,_,h,_,_=>by omega
  | a :: r,i+1,j+1,p,q,h,h1,h2=>z7 _ (lz (ps:=r) (i:=i) (j:=j) (by omega) (by simpa using h1) (by simpa using h2))
theorem nw:∀ {ps:List Pt} {p q:Pt},(p,q) ∈ jb ps->∃ i j:Nat,i < j/\ps[i]?=some p/\ps[j]?=some q
  | [],_,_,h=>by simp [jb] at h
  | a :: r,p,q,h=>by
    rcases Ab.mp h with h | h
    · obtain ⟨z,hz,e⟩:=Ah.mp h
      cases e
      obtain ⟨j,hj,e⟩:=List.mem_iff_getElem.mp hz
      exact ⟨0,j+1,by omega,rfl,by simp [hj,e]⟩
    · obtain ⟨i,j,h0,h1,h2⟩:=nw h
      exact ⟨i+1,j+1,by omega,by simpa using h1,by simpa using h2⟩
theorem lw:∀ ps:List Pt,(jb ps).length<=ps.length * ps.length
  | []=>by simp [jb]
  | a :: r=>by
    have ih:=lw r
    simp only [jb,Au,Ad,Av]
    have:(r.length+1) * (r.length+1)=r.length * r.length+2 * r.length+1:=by
      rw [Nat.add_mul,Nat.mul_add];omega
    omega
noncomputable def sF (ps:List Pt) (z:Pt):Prop:=∀ (i j:Nat) (p q:Pt),i < j->ps[i]?=some p->ps[j]?=some q->bE p q z ≠ 0
noncomputable def above (ps:List Pt) (x y:Int):Nat:=((jb ps).filter fun pr=>decide (bE pr.1 pr.2 (x,y)<=0)).length
theorem uM {α:Type} {p q:α->Bool}:∀ {l:List α},(∀ a ∈ l,p a=true->q a=true)->(l.filter p).length<=(l.filter q).length
  | [],_=>by simp
  | a :: l,h=>by
    have ih:=uM (l:=l) fun b hb=>h b (zZ _ hb)
    have ha:=h a zY
    cases hp:p a with
    | true=>rw [List.filter_cons_of_pos hp,List.filter_cons_of_pos (ha hp)];simpa using ih
    | false =>
      rw [List.filter_cons_of_neg (by simp [hp])]
      cases hq:q a with
      | true=>rw [List.filter_cons_of_pos hq];simp;omega
      | false=>rw [List.filter_cons_of_neg (by simp [hq])];exact ih
theorem uL {α:Type} {p q:α->Bool}:∀ {l:List α} {z:α},(∀ a ∈ l,p a=true->q a=true)->z ∈ l->q z=true->p z=false->(l.filter p).length < (l.filter q).length
  | [],_,_,hz,_,_=>by simp at hz
  | a :: l,z,h,hz,h1,h2=>by
    have hl:∀ b ∈ l,p b=true->q b=true:=fun b hb=>h b (zZ _ hb)
    rcases z8.mp hz with rfl | hz
    · rw [List.filter_cons_of_neg (by simp [h2]),List.filter_cons_of_pos h1]
      have:=uM hl
      simp;omega
    · have ih:=uL hl hz h1 h2
      have ha:=h a zY
      cases hp:p a with
      | true=>rw [List.filter_cons_of_pos hp,List.filter_cons_of_pos (ha hp)];simpa using ih
      | false =>
        rw [List.filter_cons_of_neg (by simp [hp])]
        cases hq:q a with
        | true=>rw [List.filter_cons_of_pos hq];simp;omega
        | false=>rw [List.filter_cons_of_neg (by simp [hq])];exact ih
theorem qK (p q:Pt) (x y:Int):bE p q (x,y+1)=bE p q (x,y)+(q.1 - p.1):=by
  unfold bE
  have e:(q.1 - p.1) * (y+1 - p.2)=(q.1 - p.1) * (y - p.2)+(q.1 - p.1):=by
    rw [show y+1 - p.2=(y - p.2)+1 by omega,Int.mul_add,Int.mul_one]
  show (q.1 - p.1) * (y+1 - p.2) - (q.2 - p.2) * (x - p.1)=(q.1 - p.1) * (y - p.2) - (q.2 - p.2) * (x - p.1)+(q.1 - p.1)
  rw [e];omega
theorem uY {ps:List Pt} {x y:Int} (R:Rising ps) {i j:Nat} {p q:Pt} (hij:i < j) (hi:ps[i]?=some p) (hj:ps[j]?=some q) (h0:bE p q (x,y)=0):above ps x (y+1) < above ps x y:=by
  refine uL (z:=(p,q)) (fun pr hpr h=>?_) (lz hij hi hj) (by simp [h0]) ?_
  · obtain ⟨i',j',h',e1,e2⟩:=nw (p:=pr.1) (q:=pr.2) hpr
    have:=R i' j' _ _ h' e1 e2
    have h:=of_decide_eq_true h
    rw [qK] at h
    exact Ao (by omega)
  · have:=R i j _ _ hij hi hj
    show decide (bE p q (x,y+1)<=0)=false
    rw [qK,h0]
    exact Ap (by omega)
theorem uZ (ps:List Pt) (x y:Int):above ps x y<=ps.length * ps.length:=AG (List.length_filter_le _ _) (lw ps)
theorem dq {α:Type} {l:List α} {z a:α} {i:Nat} (h:(l ++ [z])[i]?=some a):(l[i]?=some a/\i < l.length)\/(a=z/\i=l.length):=by
  by_cases hi:i < l.length
  · rw [AC hi] at h;exact .inl ⟨h,hi⟩
  · rw [List.getElem?_append_right (by omega)] at h
    have:i - l.length=0:=by
      cases e:i - l.length with
      | zero=>rfl
      | succ n=>rw [e] at h;simp at h
    rw [this] at h;simp at h
    exact .inr ⟨h.symm,by omega⟩
theorem Rising.snoc {ps:List Pt} {z:Pt} (R:Rising ps) (h:∀ p ∈ ps,p.1 < z.1):Rising (ps ++ [z]):=fun i j p q hij h1 h2=>by
  rcases dq h1 with ⟨a1,b1⟩ | ⟨rfl,b1⟩
  · rcases dq h2 with ⟨a2,b2⟩ | ⟨rfl,b2⟩
    · exact R i j p q hij a1 a2
    · exact h p (Af a1)
  · rcases dq h2 with ⟨a2,b2⟩ | ⟨rfl,b2⟩
    · omega
    · omega
theorem NoLine.snoc {ps:List Pt} {z:Pt} (N:NoLine ps) (F:sF ps z):NoLine (ps ++ [z]):=fun i j k p q r hij hjk h1 h2 h3=>by
  rcases dq h1 with ⟨a1,b1⟩ | ⟨rfl,b1⟩
  · rcases dq h2 with ⟨a2,b2⟩ | ⟨rfl,b2⟩
    · rcases dq h3 with ⟨a3,b3⟩ | ⟨rfl,b3⟩
      · exact N i j k p q r hij hjk a1 a2 a3
      · exact F i j p q hij a1 a2
    · rcases dq h3 with ⟨a3,b3⟩ | ⟨rfl,b3⟩ <;> omega
  · rcases dq h2 with ⟨a2,b2⟩ | ⟨rfl,b2⟩ <;> omega
section InBlock
variable {X:Cx} {NY:List Str} {scope:Scope} {s:Shared} {H:Hp} {C:Addr} {fp:List Addr}
end InBlock
end L2
end
section
namespace L2
open PySem PySem.Spec PyProof.Rows
mutual
inductive DV (K:FG) (H:Hp):V->PyData->Prop
  | non:DV K H .non .none
  | bl (b:Bool):DV K H (.bl b) (.bool b)
  | int (i:Int):DV K H (.int i) (.int i)
  | str (x:Str):DV K H (.str x) (.str x)
  | tup {a:Addr} {xs:List V} {ds:List PyData}:SqT K H a xs->DVs K H xs ds->DV K H (.ref a) (.tuple ds)
  | lst {a:Addr} {xs:List V} {ds:List PyData}:SqL K H a xs->DVs K H xs ds->DV K H (.ref a) (.list ds)
inductive DVs (K:FG) (H:Hp):List V->List PyData->Prop
  | nil:DVs K H [] []
  | cons {x:V} {d:PyData} {xs:List V} {ds:List PyData}:DV K H x d->DVs K H xs ds->DVs K H (x :: xs) (d :: ds)
end
section
variable {X:Cx} {pins:List (Addr × Obj)} {σ:St} {H:Hp} {s:Shared}
mutual
theorem DV.reads (I:Inv X pins σ H s):∀ {v:V} {d:PyData} {u:Value},DV X.K H v d->RelV v u->∃ as,Reads s.heap u d as
  | _,_,u,.non,r=>by cases (show u=Value.none from r);exact ⟨_,.none⟩
  | _,_,u,.bl b,r=>by cases (show u=Value.bool b from r);exact ⟨_,.bool b⟩
  | _,_,u,.int i,r=>by obtain ⟨t,rfl⟩:=r;exact ⟨_,.int i t⟩
  | _,_,u,.str x,r=>by obtain ⟨t,rfl⟩:=r;exact ⟨_,.str x t⟩
  | _,_,u,.tup (a:=a) h rs,r=>by
    cases (show u=Value.ref a from r)
    obtain ⟨its,rv,⟨o,e,c,n,d⟩,_⟩:=I.tuple h
    obtain ⟨as,q⟩:=DVs.reads I rs rv
    exact ⟨_,.tuple e c d (by simpa using q)⟩
  | _,_,u,.lst (a:=a) h rs,r=>by
    cases (show u=Value.ref a from r)
    obtain ⟨its,rv,⟨o,n,e,c,_,d⟩,_⟩:=I.list h
    obtain ⟨as,q⟩:=DVs.reads I rs rv
    exact ⟨_,.list e c d (by simpa using q)⟩
theorem DVs.reads (I:Inv X pins σ H s):∀ {v:List V} {d:List PyData} {us:List Value},DVs X.K H v d->Vals v us->∃ as,ReadsAll s.heap us d as
  | _,_,_,.nil,.nil=>⟨_,.nil⟩
  | _,_,_,.cons h r,.cons q t=>by
    obtain ⟨as,e1⟩:=DV.reads I h q
    obtain ⟨bs,e2⟩:=DVs.reads I r t
    exact ⟨_,.cons e1 e2⟩
end
end
end L2
end
section
namespace L2
open PySem PySem.Spec PyProof.Rows
end L2
end
section
namespace L2
open PySem PySem.Spec PyProof.Rows
end L2
end
section
namespace L2
open PySem PySem.Spec PyProof.Rows
end L2
end
section
namespace L2
open PySem PySem.Spec PyProof.Rows
end L2
end
section
namespace L2
open PySem PySem.Spec PyProof.Rows
section
variable {X:Cx}
theorem mj {ns:List Int} {us:List Value} (r:Vals (ns.map V.int) us):∃ xs:Array (Int × Tok),us.toArray=intItems xs/\ns=xs.toList.map (·.1):=by
  induction ns generalizing us with
  | nil=>cases r;exact ⟨#[],by simp [intItems],rfl⟩
  | cons n ns ih =>
    cases r with
    | cons q t =>
      obtain ⟨k,rfl⟩:=q
      obtain ⟨xs,e1,e2⟩:=ih t
      refine ⟨((n,k) :: xs.toList).toArray,?_,by simp [e2]⟩
      have e3:=congrArg Array.toList e1
      simp only [intItems,List.toList_toArray,Array.toList_map] at e3
      simp [intItems,e3]
theorem iM {xs:Array (Int × Tok)} {i:Nat} (h:i < xs.size):numAt xs i ∈ xs.toList.map (·.1):=by
  have e:(xs.toList.map (·.1))[i]?=some (numAt xs i):=by simp [numAt,h]
  exact Af e
theorem iO {xs:Array (Int × Tok)} {n:Int} (h:n ∈ xs.toList.map (·.1)):∃ i,i < xs.size/\numAt xs i=n:=by
  obtain ⟨i,hi,e⟩:=List.mem_iff_getElem.mp h
  have hi':i < xs.size:=by simpa using hi
  refine ⟨i,hi',?_⟩
  rw [<- e]
  simp [numAt,hi']
theorem si (hc:X.calm=true):CallR X (.builtin "min") (fun xs H Q=>∃ (l:Addr) (ns:List Int),xs=[.ref l]/\SqL X.K H l (ns.map V.int)/\ns ≠ []/\∀ m,m ∈ ns->(∀ n ∈ ns,m<=n)->Q (.int m) H):=by
  intro pins s σ H xs us Q I r h
  obtain ⟨l,ns,rfl,hl,hn,q⟩:=h
  obtain ⟨u,rfl,ru⟩:=jI r
  cases (show u=Value.ref l from ru)
  obtain ⟨its,rv,p,hz⟩:=I.list hl
  obtain ⟨ys,e1,e2⟩:=mj rv
  have hs:0 < ys.size:=by
    have:=List.length_pos_iff.mpr hn
    rw [e2] at this
    simpa using this
  have pl:=p.isList
  rw [e1] at pl
  refine min_intList (I.ok.hd hc) pl hs fun v h' tk hv hk=>?_
  obtain ⟨t,rfl⟩:=intItems_at hv
  obtain ⟨b1,b2⟩:=argBest_lt (numAt ys) (ys.size - 1)
  refine ⟨.int _,H,I.kept hk,⟨t,rfl⟩,q _ (by rw [e2];exact iM (by omega)) fun n hm=>?_⟩
  rw [e2] at hm
  obtain ⟨i,hi,rfl⟩:=iO hm
  exact b2 i (by omega)
end
end L2
end
section
namespace L2
open PySem PySem.Spec PyProof.Rows
noncomputable def xP (b:Option (Int × Tok)):Array Value:=match b with | none=>#[] | some p=>#[.int p.1 p.2,.int p.1 p.2]
noncomputable def mG (xs:Array (Int × Tok)) (j:Nat) (b:Option (Int × Tok)):Prop:=match b with
  | none=>j=0
  | some p=>(∃ i,i < j/\numAt xs i=p.1)/\∀ i,i < j->numAt xs i<=p.1
section
variable {prog:Program} {w:World} {A:Around} {R:Result->Shared->Prop}
theorem rF (hh:A.handled=none) {I l S:Addr} (hIl:l ≠ I) (hSI:S ≠ I) (hSl:S ≠ l) (xs:Array (Int × Tok)) (d:Value):∀ (k j:Nat) (s:Shared) (b:Option (Int × Tok)) (c:Nat),xs.size - j=k->j<=xs.size->s.heap.IsListIter I l j->s.heap.IsList l (intItems xs) ->
    s.heap.get? S=some { cls:=.type "list",dict:=none,data:=.seq (xP b) c,slots:=#[] }->mG xs j b ->
    (∀ v h' tk,((xs.size=0/\v=d)\/∃ p:Int × Tok,v=.int p.1 p.2/\mG xs xs.size (some p))->(∀ a o,a ≠ I->a ≠ S->s.heap.get? a=some o->h'.get? a=some o)->R (.ok (.ret v)) { s with heap:=h',toks:=tk }) ->
    codeAny (model prog w) A (.builtin "max.loop" ⟨[.ref I,.none,.ref S],[("default",d)]⟩) R s:=by
  have nm:(toString "max" ++ toString ".loop":String) = "max.loop":=by decide
  intro k
  induction k with
  | zero =>
    intro j s b c hk hj hit hl hS hb fin
    obtain rfl:j=xs.size:=by omega
    refine codeAny_builtin F.entry_max_loop ?_
    rw [Around.under_plainId F.plain_max_loop _]
    show wpAny _ A.in1 (seqItems? (.ref S) >>= _) _ _ s
    refine zV (wpAny_seqItems hS rfl ?_)
    show wpAny _ A.in1 (tryCatch (pyNext (.ref I)) _ >>= _) _ _ s
    refine zV (wpAny_tryCatch (wpAny_pyNext_list_end (show A.in1.handled=none from hh) hit hl (by simp [intItems]) fun h' eb=>?_))
    cases b with
    | none =>
      have h0:xs.size=0:=hb
      show wpAny _ A.in1 (rule _ >>= fun _=>ret d) _ _ _
      exact zV (wpAny_rule (zW (fin d h' s.toks (.inl ⟨h0,rfl⟩) fun a o ha _ e=>eb a o ha e)))
    | some p =>
      have hS':=eb S _ hSI hS
      show wpAny _ A.in1 (updateSeq S (fun _=>#[]) >>= _) _ _ _
      refine zV (wpAny_updateSeq hS' rfl (zV (wpAny_letGo (zW ?_))) (hz:=by show 2<=sizeLine;decide))
      exact fin _ _ s.toks (.inr ⟨p,rfl,hb⟩) fun a o ha hs e=>(AD _ _ (Ne.symm hs)).trans (eb a o ha e)
  | succ k ih =>
    intro j s b c hk hj hit hl hS hb fin
    have hlt:j < xs.size:=by omega
    obtain ⟨x,hx⟩:∃ x,xs[j]?=some x:=⟨xs[j],by simp [hlt]⟩
    have hv:(intItems xs)[j]?=some (.int x.1 x.2):=by simp [intItems,hx]
    have hnum:numAt xs j=x.1:=by simp [numAt,hx]
    refine codeAny_builtin F.entry_max_loop ?_
    rw [Around.under_plainId F.plain_max_loop _]
    show wpAny _ A.in1 (seqItems? (.ref S) >>= _) _ _ s
    refine zV (wpAny_seqItems hS rfl ?_)
    show wpAny _ A.in1 (tryCatch (pyNext (.ref I)) _ >>= _) _ _ s
    refine zV (wpAny_tryCatch (wpAny_pyNext_list_item hit hl hv fun h' hit' sb=>?_))
    have hS':h'.get? S=_:=(sb.2 S hSI).trans hS
    have hl':h'.IsList l (intItems xs):=hl.at fun o e=>(sb.2 l hIl).trans e
    have on:∀ (h2:Heap) (tk:Nat) (b':Option (Int × Tok)) (c':Nat),(∀ a o,a ≠ S->h'.get? a=some o->h2.get? a=some o)->h2.get? S=some { cls:=.type "list",dict:=none,data:=.seq (xP b') c',slots:=#[] }->mG xs (j+1) b' ->
        codeAny (model prog w) A (.builtin "max.loop" ⟨[.ref I,.none,.ref S],[("default",d)]⟩) R { s with heap:=h2,toks:=tk }:=fun h2 tk b' c' k2 hS2 hb' =>
      ih (j+1) _ b' c' (by omega) hlt (hit'.at fun o e=>k2 I o (Ne.symm hSI) e) (hl'.at fun o e=>k2 l o (Ne.symm hSl) e) hS2 hb' fun v h3 tk' hv' k3=>fin v h3 tk' hv' fun a o ha hs e=>k3 a o ha hs (k2 a o hs ((sb.2 a ha).trans e))
    cases b with
    | none =>
      have h0:j=0:=hb
      show wpAny _ A.in1 (updateSeq S (fun _=>#[.int x.1 x.2,.int x.1 x.2]) >>= _) _ _ _
      refine zV (wpAny_updateSeq hS' rfl ?_)
      rw [nm]
      refine zW ⟨plainId_quiet F.plain_max_loop _,on _ s.toks (some x) _ (fun a o ha e=>(AD _ _ (Ne.symm ha)).trans e) (At _ hS' rfl) ⟨⟨j,by omega,hnum⟩,fun i hi=>?_⟩⟩
      obtain rfl:i=j:=by omega
      omega
    | some p =>
      obtain ⟨⟨i0,hi0,e0⟩,hle⟩:=hb
      show wpAny _ A.in1 (tryCatch (holding [.int x.1 x.2,.int x.1 x.2] (richCompare .Gt (.int x.1 x.2) (.int p.1 p.2) >>= _)) _ >>= _) _ _ _
      refine zV (wpAny_tryCatch (zX (zV ?_)))
      refine (gt_int (a:=x.1) (b:=p.1) ?_:wpAny (model prog w) A.in1 (compareOp .Gt (.int x.1 x.2) (.int p.1 p.2)) _ _ _)
      refine zV (zX (AF (zV (wpAny_letGo (zW ?_)))))
      by_cases hgt:p.1 < x.1
      · rw [Ao hgt,if_pos rfl]
        refine zV (wpAny_updateSeq hS' rfl (zV (wpAny_letGo ?_)) (hz:=by show 2<=sizeLine;decide))
        rw [nm]
        refine zW ⟨plainId_quiet F.plain_max_loop _,on _ s.toks (some x) _ (fun a o ha e=>(AD _ _ (Ne.symm ha)).trans e) (At _ hS' rfl) ⟨⟨j,by omega,hnum⟩,fun i hi=>?_⟩⟩
        by_cases hij:i=j
        · subst hij;omega
        · have:=hle i (by omega);omega
      · rw [Ap hgt,if_neg Ak]
        refine zV (wpAny_letGo ?_)
        rw [nm]
        refine zW ⟨plainId_quiet F.plain_max_loop _,on h' s.toks (some p) c (fun a o _ e=>e) hS' ⟨⟨i0,by omega,e0⟩,fun i hi=>?_⟩⟩
        by_cases hij:i=j
        · subst hij;omega
        · exact hle i (by omega)
end
end L2
end
section
namespace L2
open PySem PySem.Spec PyProof.Rows
section
variable {prog:Program} {w:World} {A:Around} {E:Value->Shared->Prop} {s:Shared} {l:Addr} {xs:Array (Int × Tok)}
theorem rp {t:Addr} {h':Heap} (hk:∀ b o,b ∉ [s.heap.objs.size]->(s.heap.push { cls:=.type "tuple_iterator",data:=.fields #[.ref t,.int 0 0] }).get? b=some o->h'.get? b=some o) :
    ∀ b o,s.heap.get? b=some o->h'.get? b=some o:=fun b o e=>by
  refine hk b o (fun hm=>?_) (z4 _ e)
  rcases z8.mp hm with e1 | hm
  · exact absurd (e1 ▸ Aa e) (Nat.lt_irrefl _)
  · cases hm
theorem k4 {t:Addr} {items:Array Value} {Q:Value->Shared->Prop} (ht:s.heap.IsTuple t items)
    (h:∀ s₂:Shared,s₂ = { s with heap:=s.heap.push { cls:=.type "tuple_iterator",data:=.fields #[.ref t,.int 0 0] } } ->
      (s₂.heap.IsTupleIter s.heap.objs.size t 0/\s₂.heap.IsTuple t items)->(∀ b ∈ [s.heap.objs.size,t],b < s₂.heap.objs.size)->t ≠ s.heap.objs.size->Q (.ref s.heap.objs.size) s₂) :
    wpAny (model prog w) A (pyIter (.ref t)) Q E s:=by
  have hlt:t < s.heap.objs.size:=by obtain ⟨_,e,_⟩:=ht;exact Aa e
  refine wpAny_pyIter_tuple ht (h _ rfl ⟨⟨_,Ac _ rfl,rfl,rfl⟩,ht.push _⟩ (fun b hb=>?_) (Al hlt))
  show b < (s.heap.push _).objs.size
  rw [AE]
  rcases z8.mp hb with rfl | hb
  · exact Nat.lt_succ_self _
  · rcases z8.mp hb with rfl | hb
    · exact Nat.lt_succ_of_lt hlt
    · cases hb
theorem l8 {t:Addr} {Q:Value->Shared->Prop} (hh:A.handled=none) (hl:s.heap.IsTuple t (intItems xs)) (hne:0 < xs.size)
    (h:∀ v h' tk,(intItems xs)[argBest (fun i j=>decide (numAt xs i < numAt xs j)) (xs.size - 1)]?=some v->(∀ b o,s.heap.get? b=some o->h'.get? b=some o)->Q v { s with heap:=h',toks:=tk }) :
    wpAny (model prog w) A (call (.builtin "min") [.ref t]) Q E s:=by
  refine call_min_walk (k4 hl fun s₂ e st hfp hlI=>?_)
  subst e
  refine ⟨_,_,_,_,_,_,_,rfl,Walks.tuple (A:=A.in1) hh _ t hlI (intItems xs),st,hfp,by simpa [intItems] using hne,CmpOf.ints_lt (numAt xs) (fun _ _=>intItems_at),fun v h' tk hP hk=>?_⟩
  exact h v h' tk (by simpa [intItems] using hP) (rp hk)
end
section
variable {X:Cx}
theorem sg (hc:X.calm=true):CallR X (.builtin "min") (fun xs H Q=>∃ (l:Addr) (ns:List Int),xs=[.ref l]/\SqT X.K H l (ns.map V.int)/\ns ≠ []/\∀ m,m ∈ ns->(∀ n ∈ ns,m<=n)->Q (.int m) H):=by
  intro pins s σ H xs us Q I r h
  obtain ⟨l,ns,rfl,hl,hn,q⟩:=h
  obtain ⟨u,rfl,ru⟩:=jI r
  cases (show u=Value.ref l from ru)
  obtain ⟨its,rv,p,hz⟩:=I.tuple hl
  obtain ⟨ys,e1,e2⟩:=mj rv
  have hs:0 < ys.size:=by
    have:=List.length_pos_iff.mpr hn
    rw [e2] at this
    simpa using this
  have pl:s.heap.IsTuple l its.toArray:=p
  rw [e1] at pl
  refine l8 (I.ok.hd hc) pl hs fun v h' tk hv hk=>?_
  obtain ⟨t,rfl⟩:=intItems_at hv
  obtain ⟨b1,b2⟩:=argBest_lt (numAt ys) (ys.size - 1)
  refine ⟨.int _,H,I.kept hk,⟨t,rfl⟩,q _ (by rw [e2];exact iM (by omega)) fun n hm=>?_⟩
  rw [e2] at hm
  obtain ⟨i,hi,rfl⟩:=iO hm
  exact b2 i (by omega)
end
end L2
end
section
namespace L2
open PySem PySem.Spec PyProof.Rows
end L2
end
section
namespace L2
open PySem PySem.Spec PyProof.Rows
section
variable {prog:Program} {w:World} {A:Around} {E:Value->Shared->Prop} {s:Shared}
theorem gF {id:String} {b:Builtin} {args:List Value} {kw:List (Str × Value)} {Q:Value->Shared->Prop} (hk:builtinKind id=none) (hp:plainId id=true)
    (hb:entryFor table id=some b) (ha:argsOk id ⟨args,kw⟩)
    (hc:wpAny (model prog w) A.in1 (b ⟨args,kw⟩) (fun fin s'=>match fin with
      | .done f=>(match (Except.ok f:Result) with | .ok (.ret v)=>Q v s' | .ok _=>False | .error e=>E e s')
      | .again c'=>c'.quiet=true/\codeAny (model prog w) A c' (fun r s'=>match r with | .ok (.ret v)=>Q v s' | .ok _=>False | .error e=>E e s') s') E s) :
    wpAny (model prog w) A (call (.builtin id) args kw) Q E s:=by
  refine wpAny_call (codeAny_call_builtin hp hb ?_)
  simp only [checkBuiltinCall,hk]
  cases hsig:Manifest.signature? id with
  | none=>exact zW hc
  | some sig =>
    simp only [argsOk,hsig] at ha
    have h2:Bind.checkArgs id sig ⟨args,kw⟩=pure ():=ha
    show wpAny _ A.in1 (Bind.checkArgs id sig ⟨args,kw⟩) _ _ s
    rw [h2];exact zW hc
theorem sA (a d:Value):argsOk "max" ⟨[a],[("default",d)]⟩:=by unfold argsOk;kernel_rfl
theorem sk {l:Addr} {xs:Array (Int × Tok)} {d:Value} {Q:Value->Shared->Prop} (hh:A.handled=none) (hl:s.heap.IsList l (intItems xs))
    (h:∀ v h' tk,((xs.size=0/\v=d)\/∃ p:Int × Tok,v=.int p.1 p.2/\mG xs xs.size (some p))->(∀ b o,s.heap.get? b=some o->h'.get? b=some o)->Q v { s with heap:=h',toks:=tk }) :
    wpAny (model prog w) A (call (.builtin "max") [.ref l] [("default",d)]) Q E s:=by
  have hname:(toString "max" ++ toString ".loop":String) = "max.loop":=by decide
  refine gF F.kind_max F.plain_max F.entry_max (sA _ _) ?_
  show wpAny _ A.in1 (Builtin.Builtins.bindParams "max" ["key","default"] 0 ⟨[],[("default",d)]⟩ >>= _) _ _ s
  refine zV (wpAny_of_eq (show Builtin.Builtins.bindParams "max" ["key","default"] 0 ⟨[],[("default",d)]⟩=pure [none,some d] from rfl) ?_)
  refine zV (zW ?_)
  refine zV (iter_intList hl fun s₂ e st hfp hlI=>?_)
  subst e
  refine zV (wpAny_newObj_type ?_)
  rw [hname]
  have hlt:l < s.heap.objs.size:=by obtain ⟨_,e,_⟩:=hl;exact Aa e
  have hsz:(s.heap.push { cls:=.type "list_iterator",data:=.fields #[.ref l,.int 0 0] }).objs.size=s.heap.objs.size+1:=AE _ _
  have a1:(s.heap.push { cls:=.type "list_iterator",data:=.fields #[.ref l,.int 0 0] }).objs.size ≠ s.heap.objs.size:=by rw [hsz];exact Nat.succ_ne_self _
  have a2:(s.heap.push { cls:=.type "list_iterator",data:=.fields #[.ref l,.int 0 0] }).objs.size ≠ l:=by rw [hsz];exact Nat.ne_of_gt (Nat.lt_succ_of_lt hlt)
  refine zW ⟨plainId_quiet F.plain_max_loop _,rF (A:=A) hh hlI a1 a2 xs d xs.size 0 _ none 0 (by omega) (by omega)
    (st.1.at fun o e=>z4 _ e) (st.2.at fun o e=>z4 _ e) (Ac _ rfl) rfl fun v h' tk hv hk=>?_⟩
  refine h v h' tk hv fun b o e=>hk b o (fun q=>?_) (fun q=>?_) (z4 _ (z4 _ e))
  · exact absurd q (Al (Aa e))
  · exact absurd (q.trans hsz) (Al (Nat.lt_succ_of_lt (Aa e)))
end
section
variable {X:Cx}
theorem kN {ns:List Int} {xs:Array (Int × Tok)} (e:ns=xs.toList.map (·.1)):xs.size=0 ↔ ns=[]:=by
  rw [e];simp
noncomputable def p6 (K:FG) (P:List Int->Int->Prop) (x d:V) (H:Hp) (Q:VK):Prop:=∃ (l:Addr) (ns:List Int),x=.ref l/\SqL K H l (ns.map V.int)/\(ns=[]->Q d H)/\∀ m,m ∈ ns->P ns m->Q (.int m) H
theorem mW (hc:X.calm=true) {pins:List (Addr × Obj)} {s:Shared} {σ:St} {H:Hp} {x d:V} {u ud:Value} {Q:VK} (I:Inv X pins σ H s) (rx:RelV x u) (rd:RelV d ud) (h:p6 X.K (fun ns m=>∀ n ∈ ns,n<=m) x d H Q) :
    wpAny (model X.prog X.w) X.A (call (.builtin "max") [u] [("default",ud)]) (EP X pins σ Q) X.xe s:=by
  obtain ⟨l,ns,rfl,hl,h0,h1⟩:=h
  cases (show u=Value.ref l from rx)
  obtain ⟨its,rv,p,hz⟩:=I.list hl
  obtain ⟨ys,e1,e2⟩:=mj rv
  have pl:=p.isList
  rw [e1] at pl
  refine sk (I.ok.hd hc) pl fun v h' tk hv hk=>?_
  rcases hv with ⟨hs,rfl⟩ | ⟨q,rfl,⟨⟨i,hi,hq⟩,hle⟩⟩
  · exact ⟨d,H,I.kept hk,rd,h0 ((kN e2).mp hs)⟩
  · refine ⟨.int q.1,H,I.kept hk,⟨q.2,rfl⟩,h1 _ (by rw [e2,<- hq];exact iM hi) fun n hm=>?_⟩
    rw [e2] at hm
    obtain ⟨j,hj,rfl⟩:=iO hm
    exact hle j hj
noncomputable def tKw1 (r:V->V->Hp->VK->Prop) (te td:TE):TE:=fun σ H Q=>te σ H fun x H1=>td σ H1 fun d H2=>r x d H2 Q
theorem y6 {id:String} {nm:Str} {e d:Expr} {te td:TE} {p pos kpos:Pos} {r:V->V->Hp->VK->Prop} (hrun:∀ {pins:List (Addr × Obj)} {s:Shared} {σ:St} {H:Hp} {x d:V} {u ud:Value} {Q:VK},Inv X pins σ H s->RelV x u->RelV d ud->r x d H Q->wpAny (model X.prog X.w) X.A (call (.builtin id) [u] [("default",ud)]) (EP X pins σ Q) X.xe s)
    (hg:Gl X nm) (hm:X.mg nm=none) (hv:bootBuiltins nm=some (.builtin id)) (he:PE X e te) (hd:PE X d td) (hn:nm ≠ "__name__") (hdb:(nm == ("__debug__":Str))=false)
    (hs:backTo pos (starEach [e] X.env)=(false,eval e X.env) :: backTo pos (starEach [] X.env)) (hs0:backTo pos (starEach [] X.env)=[]) (hplain:(backTo pos (starEach [e] X.env)).any (·.1)=false)
    (hall:(backToKw pos (keywordEach [⟨some "default",d,kpos⟩] X.env)).all (·.1.isSome)=true) (hkw:(backToKw pos (keywordEach [⟨some "default",d,kpos⟩] X.env)).any (·.1.isNone)=false) (hks:(backToKw pos (keywordEach [⟨some "default",d,kpos⟩] X.env)).filterMap (·.1)=(["default"]:List Str)) :
    PE X (.Call (.Name nm p) [e] [⟨some "default",d,kpos⟩] pos) (tKw1 r te td):=by
  intro pins s σ H Q I h
  refine wpAny_Call_Name_kw (gN I hg hm hv ?_ hn hdb)
  refine PyProof.Rows.callWith_kw ?_ hs hplain hall hkw
  rw [hs,hs0]
  refine Calls.spliced_cons (thn (he pins s σ H _ I h) fun u s1 ⟨x,H1,I1,r1,q1⟩=>Calls.spliced_nil ?_)
  refine thn (wd (nm:=some "default") (kpos:=kpos) hd yR pos pins s1 σ H1 (fun vs H2=>match vs with | [d]=>r x d H2 Q | _=>False) I1 q1) fun us s2 ⟨xs,H2,I2,r2,q2⟩=>?_
  match xs,q2,r2 with
  | [d'],q2,r2 =>
    rw [hks]
    obtain ⟨ud,rfl,rd⟩:=jI r2
    exact hrun I2 r1 rd q2
end
end L2
end
section
namespace L2
open PySem PySem.Spec PyProof.Rows
noncomputable def Itd (hi:Int) (n:Nat):It:=⟨fun i _=>i < n,fun i H x H'=>H'=H/\x=.int (hi - i),fun i _=>n<=i⟩
theorem mM {P:Program} {w:World} {K:FG} {tg:Expr} (it:Addr) (hi:Int) (n:Nat):Turn P w K tg (Itd hi n) [it] it (fun i h=>IsRangeIter h it (hi+(i:Nat) * (-1)) ((n:Int) - (i:Nat)) (-1)) where
  mem:=by simp
  obj:=fun i h st b hb=>by
    have e:b=it:=by simpa using hb
    subst e
    exact ⟨_,st,fun v z=>by
      have z':Data.fields _=Data.cell v:=z
      cases z'⟩
  keep:=fun i h h' st k=>k it (by simp) _ st
  item:=by
    intro X hP hw hK hc i pins s σ H E I hf st hg
    subst hP hw hK
    obtain ⟨f0,f1,f2,f3,f4,f5⟩:=hf it (by simp)
    have W:=Walks.range (prog:=X.prog) (w:=X.w) (I.ok.hd hc) it hi (-1) n
    refine W.item i s _ _ hg st fun v h' tk hv st' kk=>?_
    obtain ⟨t,rfl⟩:=hv
    have I1:Inv X pins σ H { s with heap:=h',toks:=tk }:=I.turned (fun b o hb e=>kk b o (by simpa using hb) e) f0 f1 f3 f4 f5
    refine ⟨_,rfl,n4 (s:={ s with heap:=h',toks:=tk }) (n:="range_iterator") st' rfl rfl (by decide) ⟨.int (hi - i),H,I1,⟨t,?_⟩,⟨rfl,rfl⟩,st',fun b hb=>(hf b hb).1⟩⟩
    rw [show hi+(i:Int) * (-1)=hi - i by omega]
  done:=by
    intro X hP hw hK hc i pins s σ H E I hf st hg
    subst hP hw hK
    obtain ⟨f0,f1,f2,f3,f4,f5⟩:=hf it (by simp)
    exact wpAny_pyNext_range_end (I.ok.hd hc) st (by have:n<=i:=hg;omega) fun h' eb=>⟨rfl,I.turned (t':=s.toks) (fun b o hb e=>eb b o hb e) f0 f1 f3 f4 f5⟩
  self:=fun _ _ _ _ _ st h=>wpAny_pyIter_rangeiter st h
section
variable {X:Cx} {tg:Expr}
theorem fW (a b:Int):Builtin.Range.rangeSize a b (-1)=if a > b then a - b else 0:=by
  unfold Builtin.Range.rangeSize
  rw [if_neg (by decide)]
  split
  · rw [show (a - b - 1) / (- (-1:Int))=a - b - 1 by simp];omega
  · rfl
theorem oQ {a b:Int} (h1:-(2 ^ 62)<=a) (h2:a < 2 ^ 62) (h3:-(2 ^ 62)<=b) (h4:b < 2 ^ 62):Builtin.Range.small a b (-1)=true:=by
  unfold Builtin.Range.small
  rw [fW]
  have n1:¬ ((-1:Int) > 0):=by decide
  simp only [Builtin.Range.rangeFitsLong,Bool.and_eq_true,Bool.or_eq_true,decide_eq_true_eq,beq_iff_eq,n1,if_false]
  split <;> omega
noncomputable def xI (ta:TA):TI:=fun σ H R=>ta σ H fun vs H1=>∃ i j:Int,vs=[.int i,.int j,.int (-1)]/\(-(2 ^ 62)<=i/\i < 2 ^ 62/\-(2 ^ 62)<=j/\j < 2 ^ 62)/\R (Itd i (i - j).toNat) H1
theorem rf {pins:List (Addr × Obj)} {σ:St} {H:Hp} {s:Shared} {R:It->Hp->Prop} {E:Value->Shared->Prop} {lo hi:Int} {t u v:Tok} {tk:Nat} (I:Inv X pins σ H s) (h1:-(2 ^ 62)<=lo) (h2:lo < 2 ^ 62) (h3:-(2 ^ 62)<=hi) (h4:hi < 2 ^ 62)
    (q:R (Itd lo (lo - hi).toNat) H):wpAny (model X.prog X.w) X.A (pyIter (.ref s.heap.objs.size)) (PIE X pins σ tg R) E { s with heap:=s.heap.push { cls:=.type "range",data:=.fields #[.int lo t,.int hi u,.int (-1) v] },toks:=tk }:=by
  refine wpAny_pyIter_range (IsRange.new ..) (oQ h1 h2 h3 h4) ?_
  have I1:Inv X pins σ H { s with heap:=s.heap.push { cls:=.type "range",data:=.fields #[.int lo t,.int hi u,.int (-1) v] },toks:=tk }:=I.kept fun b o e=>z4 _ e
  refine ⟨(s.heap.push { cls:=.type "range",data:=.fields #[.int lo t,.int hi u,.int (-1) v] }).objs.size,[(s.heap.push { cls:=.type "range",data:=.fields #[.int lo t,.int hi u,.int (-1) v] }).objs.size],_,_,H,rfl,
    I1.kept (t':=tk) fun b o e=>z4 _ e,mM _ lo (lo - hi).toNat,?_,fun b hb=>?_,q⟩
  · have e1:lo+((0:Nat):Int) * (-1)=lo:=by simp
    have e2:(((lo - hi).toNat:Nat):Int) - ((0:Nat):Int)=Builtin.Range.rangeSize lo hi (-1):=by rw [fW];split <;> omega
    show IsRangeIter _ _ (lo+((0:Nat):Int) * (-1)) ((((lo - hi).toNat:Nat):Int) - ((0:Nat):Int)) (-1)
    rw [e1,e2]
    exact Ac _ rfl
  · have e:b=(s.heap.push { cls:=.type "range",data:=.fields #[.int lo t,.int hi u,.int (-1) v] }).objs.size:=by simpa using hb
    subst e
    exact I1.fpOk (Aj _) (I1.hok.fresh (Aj _))
theorem rj {a b c:Expr} {ta:TA} {p pos:Pos} (hg:Gl X "range") (hm:X.mg "range"=none) (ha:PA X [a,b,c] ta) (hs:starEach [a,b,c] X.env=(false,eval a X.env) :: starEach [b,c] X.env) (hpl:(backTo pos (starEach [b,c] X.env)).any (·.1)=false) :
    PI X tg (.Call (.Name "range" p) [a,b,c] [] pos) (xI ta):=by
  intro pins s σ H R I h
  refine Call_ (gN I hg hm boot_range (PyProof.Rows.callWith_type1 (thn (ha pos pins s σ H _ I h) fun us s1 ⟨vs,H1,I1,r1,q1⟩=>?_) hs hpl))
  obtain ⟨i,j,e,⟨q1,q2,q3,q4⟩,q⟩:=q1
  subst e
  cases r1 with
  | cons r rr =>
    cases rr with
    | cons r' rr =>
      cases rr with
      | cons r'' rr =>
        cases rr
        obtain ⟨t,rfl⟩:=r
        obtain ⟨t',rfl⟩:=r'
        obtain ⟨t'',rfl⟩:=r''
        exact call_range_3 (by decide) (rf I1 q1 q2 q3 q4 q) (.inl (PyProof.noPylong_small (by decide)))
end
end L2
end
section
namespace PySem
open Sem (wp)
noncomputable def RawAt (h:Heap) (d:Addr) (es:Array DictEntry) (ep:Nat):Prop:=∃ o,h.get? d=some o/\o.ExactDict/\o.data=.dict es ep
section
variable {prog:Program} {w:World} {A:Around} {E:Value->Shared->Prop} {s:Shared}
theorem RawAt.typeIs {d:Addr} {es:Array DictEntry} {ep:Nat} (x:RawAt s.heap d es ep):s.TypeIs (.ref d) "dict":=let ⟨o,ho,hc,_⟩:=x;⟨o,ho,hc.1⟩
theorem nc {it d:Addr} {i ep:Nat} {es:Array DictEntry} {Q:Option Value->Shared->Prop} (hit:s.heap.IsKeyIter it d i es.size ep)
    (hm:RawAt s.heap d es ep) (hx:i < es.size)
    (hQ:∀ h',h'.IsKeyIter it d (i+1) es.size ep->Heap.SameBut it s.heap h'->Q (some es[i].key) { s with heap:=h' }) :
    wpAny (model prog w) A (pyNext (.ref it)) Q E s:=by
  have ty:=hit.typeIs
  obtain ⟨⟨c1,d1,x1,s1⟩,h1,e1,e2⟩:=hit
  obtain ⟨⟨c2,d2,x2,s2⟩,h2,_,e4⟩:=hm
  obtain ⟨hp,g,dr,tk,os⟩:=s
  simp only at e1 e2 e4
  subst e1 e2 e4
  have hi:(if (i:Int) < 0 then none else es[(i:Int).toNat]?)=some es[i]:=by simp [hx]
  unfold pyNext
  refine zV (wpAny_attempt (wpAny_callSpecial?_slot ty F.slot_dict_keyiterator_next
    (wpAny_call_entry F.slot_dict_keyiterator_next ty F.entry_dict_keyiterator_next ?_ (F.args_dict_keyiterator_next_1 _))))
  wp_walk
  rw [hi]
  wp_walk
  exact ⟨_,rfl,zW (hQ _ ⟨_,At _ h1 rfl,rfl,rfl⟩ (Heap.SameBut.update ..))⟩
theorem o0 {it d:Addr} {i ep:Nat} {es:Array DictEntry} {Q:Option Value->Shared->Prop} (hh:A.handled=none) (hit:s.heap.IsKeyIter it d i es.size ep)
    (hm:RawAt s.heap d es ep) (hx:es.size<=i)
    (hQ:∀ h',Heap.ExtBut it s.heap h'->Q none { s with heap:=h' }):wpAny (model prog w) A (pyNext (.ref it)) Q E s:=by
  have ty:=hit.typeIs
  obtain ⟨⟨c1,d1,x1,s1⟩,h1,e1,e2⟩:=hit
  obtain ⟨⟨c2,d2,x2,s2⟩,h2,_,e4⟩:=hm
  obtain ⟨hp,g,dr,tk,os⟩:=s
  simp only at e1 e2 e4
  subst e1 e2 e4
  have hi:(if (i:Int) < 0 then none else es[(i:Int).toNat]?)=none:=by simp [hx]
  have hh':A.in1.handled=none:=hh
  unfold pyNext
  refine zV (wpAny_attempt (wpAny_callSpecial?_slot ty F.slot_dict_keyiterator_next
    (wpAny_call_entry F.slot_dict_keyiterator_next ty F.entry_dict_keyiterator_next ?_ (F.args_dict_keyiterator_next_1 _))))
  wp_walk
  rw [hi]
  wp_walk
  refine wpAny_raiseNew_none hh' ?_
  refine zV (wpAny_isInstance (v:=.ref _) (T:="StopIteration") (b:=true) ?_ isSubtype_stop ?_)
  · exact ⟨_,Ac _ rfl,rfl⟩
  · exact zW (hQ _ (((Heap.SameBut.update ..).extBut.push _).push _))
theorem m9 {it d:Addr} {i ep:Nat} {es:Array DictEntry} {Q:Option Value->Shared->Prop} (hit:s.heap.IsValIter it d i es.size ep)
    (hm:RawAt s.heap d es ep) (hx:i < es.size)
    (hQ:∀ h',h'.IsValIter it d (i+1) es.size ep->Heap.SameBut it s.heap h'->Q (some es[i].val) { s with heap:=h' }) :
    wpAny (model prog w) A (pyNext (.ref it)) Q E s:=by
  have ty:=hit.typeIs
  obtain ⟨⟨c1,d1,x1,s1⟩,h1,e1,e2⟩:=hit
  obtain ⟨⟨c2,d2,x2,s2⟩,h2,_,e4⟩:=hm
  obtain ⟨hp,g,dr,tk,os⟩:=s
  simp only at e1 e2 e4
  subst e1 e2 e4
  have hi:(if (i:Int) < 0 then none else es[(i:Int).toNat]?)=some es[i]:=by simp [hx]
  unfold pyNext
  refine zV (wpAny_attempt (wpAny_callSpecial?_slot ty F.slot_dict_valueiterator_next
    (wpAny_call_entry F.slot_dict_valueiterator_next ty F.entry_dict_valueiterator_next ?_ (F.args_dict_valueiterator_next_1 _))))
  wp_walk
  rw [hi]
  wp_walk
  exact ⟨_,rfl,zW (hQ _ ⟨_,At _ h1 rfl,rfl,rfl⟩ (Heap.SameBut.update ..))⟩
theorem oZ {it d:Addr} {i ep:Nat} {es:Array DictEntry} {Q:Option Value->Shared->Prop} (hh:A.handled=none) (hit:s.heap.IsValIter it d i es.size ep)
    (hm:RawAt s.heap d es ep) (hx:es.size<=i)
    (hQ:∀ h',Heap.ExtBut it s.heap h'->Q none { s with heap:=h' }):wpAny (model prog w) A (pyNext (.ref it)) Q E s:=by
  have ty:=hit.typeIs
  obtain ⟨⟨c1,d1,x1,s1⟩,h1,e1,e2⟩:=hit
  obtain ⟨⟨c2,d2,x2,s2⟩,h2,_,e4⟩:=hm
  obtain ⟨hp,g,dr,tk,os⟩:=s
  simp only at e1 e2 e4
  subst e1 e2 e4
  have hi:(if (i:Int) < 0 then none else es[(i:Int).toNat]?)=none:=by simp [hx]
  have hh':A.in1.handled=none:=hh
  unfold pyNext
  refine zV (wpAny_attempt (wpAny_callSpecial?_slot ty F.slot_dict_valueiterator_next
    (wpAny_call_entry F.slot_dict_valueiterator_next ty F.entry_dict_valueiterator_next ?_ (F.args_dict_valueiterator_next_1 _))))
  wp_walk
  rw [hi]
  wp_walk
  refine wpAny_raiseNew_none hh' ?_
  refine zV (wpAny_isInstance (v:=.ref _) (T:="StopIteration") (b:=true) ?_ isSubtype_stop ?_)
  · exact ⟨_,Ac _ rfl,rfl⟩
  · exact zW (hQ _ (((Heap.SameBut.update ..).extBut.push _).push _))
theorem lY {d:Addr} {es:Array DictEntry} {ep:Nat} {Q:Value->Shared->Prop} (hd:(d == sysModules)=false) (hm:RawAt s.heap d es ep)
    (hQ:Q (.ref s.heap.objs.size) { s with heap:=s.heap.push { cls:=.type "dict_keyiterator",data:=.fields #[.ref d,.int 0 0,.int es.size 0,.int ep 0] } }) :
    wpAny (model prog w) A (pyIter (.ref d)) Q E s:=by
  have ty:=hm.typeIs
  obtain ⟨⟨c2,d2,x2,s2⟩,h2,e3,e4⟩:=hm
  obtain ⟨hp,g,dr,tk,os⟩:=s
  obtain ⟨e5,_⟩:=e3
  simp only at e4 e5
  subst e4 e5
  refine wpAny_pyIter_slot ty F.slot_dict_iter (wpAny_call_entry F.slot_dict_iter ty F.entry_dict_iter ?_ (F.args_dict_iter_1 _))
  wp_walk
  exact ⟨_,rfl,"dict_keyiterator",_,⟨_,Ac _ rfl,rfl⟩,F.slot_dict_keyiterator_next.lookup,hQ⟩
theorem jo (d:Addr) (hd:(d == sysModules)=false) :
    MeetsIn prog w (Builtin.«dict.values» ⟨[.ref d],[]⟩) (fun _ R s=>(∃ es ep,RawAt s.heap d es ep) /\
      R (.ok (.ret (.ref s.heap.objs.size))) { s with heap:=s.heap.push { cls:=.type "dict_values",data:=.fields #[.ref d] } }) :=
  .of_wp fun A R s ⟨⟨es,ep,hm⟩,h⟩=>by
    have ty:=hm.typeIs
    obtain ⟨⟨c2,d2,x2,s2⟩,h2,e3,e4⟩:=hm
    obtain ⟨hp,g,dr,tk,os⟩:=s
    obtain ⟨e5,_⟩:=e3
    simp only at e4 e5
    subst e4 e5
    wp_walk
    exact ⟨_,rfl,h⟩
theorem j5 {v d:Addr} {es:Array DictEntry} {ep:Nat} {Q:Value->Shared->Prop} (hv:s.heap.IsValuesView v d) (hm:RawAt s.heap d es ep)
    (hQ:Q (.ref s.heap.objs.size) { s with heap:=s.heap.push { cls:=.type "dict_valueiterator",data:=.fields #[.ref d,.int 0 0,.int es.size 0,.int ep 0] } }) :
    wpAny (model prog w) A (pyIter (.ref v)) Q E s:=by
  have ty:=hv.typeIs
  obtain ⟨⟨c1,d1,x1,s1⟩,h1,e1,e2⟩:=hv
  obtain ⟨⟨c2,d2,x2,s2⟩,h2,_,e4⟩:=hm
  obtain ⟨hp,g,dr,tk,os⟩:=s
  simp only at e1 e2 e4
  subst e1 e2 e4
  refine wpAny_pyIter_slot ty F.slot_dict_values_iter (wpAny_call_entry F.slot_dict_values_iter ty F.entry_dict_values_iter ?_ (F.args_dict_values_iter_1 _))
  wp_walk
  exact ⟨_,rfl,"dict_valueiterator",_,⟨_,Ac _ rfl,rfl⟩,F.slot_dict_valueiterator_next.lookup,hQ⟩
end
end PySem
end
section
namespace L2
open PySem PySem.Spec PyProof.Rows
theorem kc {α β:Type} {F:α->β->Prop}:∀ {l₁:List α} {l₂:List β},Paired F l₁ l₂->∀ {i:Nat} {a:α},l₁[i]?=some a->∃ b,l₂[i]?=some b/\F a b
  | _,_,.nil,i,a,h=>by simp at h
  | _,_,.cons r t,0,a,h=>by
    simp only [List.getElem?_cons_zero,Option.some.injEq] at h
    subst h
    exact ⟨_,rfl,r⟩
  | _,_,.cons r t,i+1,a,h=>by
    simp only [List.getElem?_cons_succ] at h
    exact kc t h
theorem Rd.dT_inj {H:Hp} {a:Addr} {x y:List (List Key × V)} (h:Rd H a (.dT x)) (h':Rd H a (.dT y)):x=y:=by
  rcases h with h | ⟨o,h⟩ <;> rcases h' with h' | ⟨o',h'⟩ <;> rw [h] at h' <;> cases h' <;> rfl
section
variable {P:Program} {w:World} {H:Hp} {h:Heap} {a:Addr}
theorem kA {kvs:List (List Key × V)} (ok:HOk P w H h) (e:Rd H a (.dT kvs)):(a == sysModules)=false/\∃ es:Array DictEntry,RawAt h a es es.size/\es.size=kvs.length /\
    ∀ i (hi:i < es.size) kv,kvs[i]?=some kv->∃ b,es[i].key=.ref b/\H b=some (.tup (kv.1.map kV))/\RelV kv.2 es[i].val:=by
  obtain ⟨z,y,xs,r,o,es,ep,h1,h2,h3,h4,h5,h6,rfl⟩:=pB ok e
  have hl:es.size=xs.length:=by rw [<- Array.length_toList,h4,Ad]
  refine ⟨y,es,⟨o,h1,h2,h3⟩,by rw [hl,<- Paired.length r],fun i hi kv hk=>?_⟩
  obtain ⟨q,hq,f1,f2,f3⟩:=kc r hk
  have hx:es.toList[i]?=some (entryOfKey (tupleKind (bH P w)) q):=by rw [h4,Ai,hq];rfl
  have hx':es[i]=entryOfKey (tupleKind (bH P w)) q:=by
    rw [Array.getElem?_toList,Array.getElem?_eq_getElem hi] at hx
    exact AL hx
  rw [hx']
  exact ⟨q.2.1,rfl,f2,f3⟩
end
noncomputable def Itk (a:Addr) (n:Nat):It:=⟨fun i H=>∃ kvs,Rd H a (.dT kvs)/\kvs.length=n/\i < n,
  fun i H x H'=>H'=H/\∀ kvs kv,Rd H a (.dT kvs)->kvs[i]?=some kv->∃ b,x=.ref b/\H b=some (.tup (kv.1.map kV)),fun i H=>∃ kvs,Rd H a (.dT kvs)/\kvs.length=n/\n<=i⟩
theorem qS {P:Program} {w:World} {K:FG} {tg:Expr} (a it:Addr) (n:Nat):Turn P w K tg (Itk a n) [it] it (fun i h=>h.IsKeyIter it a i n n) where
  mem:=by simp
  obj:=fun i h st b hb=>by
    have e:b=it:=by simpa using hb
    subst e
    obtain ⟨o,e,c,d⟩:=st
    exact ⟨o,e,fun v z=>by rw [d] at z;cases z⟩
  keep:=fun i h h' st k=>st.at fun o e=>k it (by simp) o e
  item:=by
    intro X hP hw hK hc i pins s σ H E I hf st hg
    subst hP hw hK
    obtain ⟨kvs,hq,hn,hi⟩:=hg
    obtain ⟨y,es,raw,sz,ent⟩:=kA I.hok hq
    obtain rfl:n=es.size:=by omega
    obtain ⟨f0,f1,f2,f3,f4,f5⟩:=hf it (by simp)
    obtain ⟨kv,hkv⟩:∃ kv,kvs[i]?=some kv:=⟨kvs[i]'(by omega),z9 _⟩
    obtain ⟨b,b1,b2,b3⟩:=ent i hi kv hkv
    refine nc st raw hi fun h' st' sb=>?_
    have I1:Inv X pins σ H { s with heap:=h' }:=I.turned (t':=s.toks) (fun b o hb e=>(sb.2 b hb).trans e) f0 f1 f3 f4 f5
    obtain ⟨o,e,c,d⟩:=id st'
    refine ⟨_,rfl,n4 (s:={ s with heap:=h' }) e c d (by decide) ⟨.ref b,H,I1,b1,⟨rfl,fun kvs' kv' hq' hk'=>?_⟩,st',fun b hb=>(hf b hb).1⟩⟩
    rw [hq'.dT_inj hq,hkv] at hk'
    cases hk'
    exact ⟨b,rfl,b2⟩
  done:=by
    intro X hP hw hK hc i pins s σ H E I hf st hg
    subst hP hw hK
    obtain ⟨kvs,hq,hn,hi⟩:=hg
    obtain ⟨y,es,raw,sz,ent⟩:=kA I.hok hq
    obtain rfl:n=es.size:=by omega
    obtain ⟨f0,f1,f2,f3,f4,f5⟩:=hf it (by simp)
    exact o0 (I.ok.hd hc) st raw hi fun h' eb=>⟨rfl,I.turned (t':=s.toks) (fun b o hb e=>eb b o hb e) f0 f1 f3 f4 f5⟩
  self:=fun _ _ _ _ _ st h=>wpAny_pyIter_keyiter st h
noncomputable def xL (tl:TE):TI:=fun σ H R=>tl σ H fun x H1=>∃ a kvs,x=.ref a/\Rd H1 a (.dT kvs)/\R (Itk a kvs.length) H1
theorem we {X:Cx} {tg l:Expr} {tl:TE} (hl:PE X l tl):PI X tg l (xL tl):=by
  intro pins s σ H R I h
  exact thn (hl pins s σ H _ I h) fun v s1 ⟨x,H1,I1,r1,q1⟩=>by
    obtain ⟨a,kvs,e,hq,q⟩:=q1
    subst e
    cases r1
    obtain ⟨y,es,raw,sz,ent⟩:=kA I1.hok hq
    refine lY y raw ?_
    refine ⟨s1.heap.objs.size,[s1.heap.objs.size],_,_,H1,rfl,I1.kept (t':=s1.toks) fun b o e=>z4 _ e,qS a _ kvs.length,⟨_,Ac _ rfl,rfl,by rw [sz];rfl⟩,fun b hb=>?_,q⟩
    have e:b=s1.heap.objs.size:=by simpa using hb
    subst e
    exact I1.fpOk (Aj _) (I1.hok.fresh (Aj _))
section
variable {X:Cx}
noncomputable def kn (p a:Addr):HO:=.ext fun h=>h.IsValuesView p a
theorem wD:MtR X "dict.values" (fun x vs H Q=>∃ a kvs,x=.ref a/\vs=[]/\Rd H a (.dT kvs)/\∀ p,H p=none->Q (.ref p) (upd H p (kn p a))):=by
  intro pins s σ H x vs v us Q I rx rv h
  obtain ⟨a,kvs,rfl,rfl,hq,q⟩:=h
  cases rx
  cases rv
  obtain ⟨y,es,raw,sz,ent⟩:=kA I.hok hq
  refine call_meetsIn PySem.F.slot_dict_values raw.typeIs PySem.F.entry_dict_values (PySem.F.args_dict_values_1 _) (jo a y) ⟨⟨es,_,raw⟩,?_⟩
  refine ⟨.ref s.heap.objs.size,_,I.laid (a:=s.heap.objs.size) (o:=kn s.heap.objs.size a) (t':=s.toks) (fun _ _ q=>z4 _ q) (Aj _) ?_,rfl,q _ (I.hok.fresh (Aj _))⟩
  exact ⟨⟨_,Ac _ rfl,rfl,rfl⟩,⟨_,Ac _ rfl⟩,fun h1 h2 ⟨o,e,c⟩ k=>⟨o,k o e,c⟩⟩
theorem Walks.rawVals {prog:Program} {w:World} {A:Around} (hh:A.handled=none) (I d:Addr) (hne:d ≠ I) (es:Array DictEntry) (ep:Nat) :
    Walks prog w A I [I,d] [I] es.size (fun i v=>∃ h:i < es.size,v=es[i].val) (fun i h=>h.IsValIter I d i es.size ep/\RawAt h d es ep) where
  sub:=fun b hb=>by simp at hb;simp [hb]
  frame:=fun _ _ _ st hk=>⟨st.1.at fun o e=>hk I (by simp) o e,let ⟨o,ho,r⟩:=st.2;⟨o,hk d (by simp) o ho,r⟩⟩
  item:=fun i s Q E hi st hQ=>by
    refine m9 st.1 st.2 hi fun h' hit' hs'=>?_
    exact hQ _ h' s.toks ⟨hi,rfl⟩ ⟨hit',let ⟨o,ho,r⟩:=st.2;⟨o,hs'.extBut d o hne ho,r⟩⟩ fun b o hb e=>hs'.extBut b o (fun h=>hb (by simp [h])) e
  done:=fun s Q E st hQ=>oZ hh st.1 st.2 (Aj _) fun h' he'=>hQ h' s.toks fun b o hb e=>he' b o (fun h=>hb (by simp [h])) e
  self:=fun _ _ _ _ st hQ=>wpAny_pyIter_valiter st.1 hQ
noncomputable def xE:List V->Hp->VK->Prop:=fun xs H Q=>∃ (p a:Addr) (kvs:List (List Key × V)) (ns:List Int),xs=[.ref p]/\H p=some (kn p a)/\Rd H a (.dT kvs)/\kvs.map (·.2)=ns.map V.int/\ns ≠ []/\∀ m,m ∈ ns->(∀ n ∈ ns,n<=m)->Q (.int m) H
theorem so (hc:X.calm=true):CallR X (.builtin "max") xE:=by
  intro pins s σ H xs us Q I rx h
  obtain ⟨p,a,kvs,ns,rfl,hp,hq,hns,hne,q⟩:=h
  obtain ⟨u,rfl,ru⟩:=rx.one
  cases ru
  obtain ⟨y,es,raw,sz,ent⟩:=kA I.hok hq
  have view:s.heap.IsValuesView p a:=(I.hok p _ hp).1
  have hlen:kvs.length=ns.length:=by have:=congrArg List.length hns;simpa using this
  have hpos:0 < es.size:=by rw [sz,hlen];exact List.length_pos_iff.mpr hne
  have val:∀ i (hi:i < es.size),∃ t,es[i].val=.int (ns[i]'(by omega)) t:=fun i hi=>by
    have hkv:kvs[i]?=some (kvs[i]'(by omega)):=z9 _
    obtain ⟨b,_,_,r⟩:=ent i hi _ hkv
    have e:(kvs[i]'(by omega)).2=V.int (ns[i]'(by omega)):=by
      have:=congrArg (fun l=>l[i]?) hns
      simp only [Ai] at this
      rw [hkv,z9 (show i < ns.length by omega)] at this
      simpa using this
    rw [e] at r
    exact r
  have hlt:a < s.heap.objs.size:=by obtain ⟨o,e,_⟩:=raw;exact Aa e
  refine call_max_walk (j5 view raw ?_)
  refine ⟨s.heap.objs.size,_,_,_,_,_,fun i j=>decide ((ns[j]?).getD 0 < (ns[i]?).getD 0),rfl,Walks.rawVals (A:=X.A.in1) (I.ok.hd hc) s.heap.objs.size a (Al hlt) es es.size,⟨⟨_,Ac _ rfl,rfl,rfl⟩,let ⟨o,ho,r⟩:=raw;⟨o,z4 _ ho,r⟩⟩,?_,hpos,?_,?_⟩
  · intro b hb
    rw [AE]
    simp at hb
    rcases hb with e | e <;> rw [e]
    · exact Nat.lt_succ_self _
    · exact Nat.lt_succ_of_lt hlt
  · have:=CmpOf.ints_gt (prog:=X.prog) (w:=X.w) (A:=X.A.in1) (P:=fun i v=>∃ h:i < es.size,v=es[i].val) (fun i=>(ns[i]?).getD 0) fun i v ⟨hi,e⟩=>by
      obtain ⟨t,ht⟩:=val i hi
      exact ⟨t,by rw [e,ht,z9 (show i < ns.length by omega)];rfl⟩
    exact this
  · intro v h' tk ⟨hb,e⟩ hk
    obtain ⟨t,ht⟩:=val _ hb
    obtain ⟨b1,b2⟩:=argBest_gt (fun i=>(ns[i]?).getD 0) (es.size - 1)
    refine ⟨.int _,H,I.kept (fun b o e=>hk b o (by simp;exact Al (Aa e)) (z4 _ e)),⟨t,by rw [e,ht]⟩,q _ (List.getElem_mem _) fun n hn=>?_⟩
    obtain ⟨i,hi,rfl⟩:=List.getElem_of_mem hn
    have:=b2 i (by omega)
    rw [z9 hi,z9 (show argBest _ (es.size - 1) < ns.length by omega)] at this
    exact this
end
end L2
end
section
namespace L2
open PySem PySem.Spec PyProof.Rows
noncomputable def kM (h:Heap) (b:Addr) (n:Int × Int):Prop:=∃ o t u m,h.get? b=some o/\o.cls=.type "tuple"/\o.data=.seq #[.int n.1 t,.int n.2 u] m
noncomputable def ltP (x y:Int × Int):Bool:=decide (x.1 < y.1\/(x.1=y.1/\x.2 < y.2))
section
variable {prog:Program} {w:World} {A:Around} {E:Value->Shared->Prop} {s:Shared}
theorem l6 {x y:Int × Int} {a b:Addr} {P:Fin->Shared->Prop} (hx:kM s.heap a x) (hy:kM s.heap b y) (h:P (.done (.ret (.bool (ltP x y)))) s) :
    wpAny (model prog w) A (Builtin.«tuple.__lt__» ⟨[.ref a,.ref b],[]⟩) P E s:=by
  obtain ⟨oa,t1,t2,na,hoa,hca,hda⟩:=hx
  obtain ⟨ob,u1,u2,nb,hob,hcb,hdb⟩:=hy
  show wpAny _ _ (isInstance (.ref b) (.type "tuple") >>= _) _ _ s
  refine zV (wpAny_isInstance (T:="tuple") ⟨ob,hob,hcb⟩ isSubtype_tuple_tuple ?_)
  simp only [Bool.not_true,AA,if_false]
  refine zV (wpAny_tupleItemsOf hoa hda ?_)
  refine zV (wpAny_tupleItemsOf hob hdb ?_)
  refine zV ?_
  show wpAny _ _ (forIn [(Value.int x.1 t1,Value.int y.1 u1),(Value.int x.2 t2,Value.int y.2 u2)] _ _) _ _ s
  rw [List.forIn_cons]
  refine zV ?_
  refine zV ((intKind prog w).eqBool (a:=x.1) (b:=y.1) (by simp [intKind,Value.isInt]) (by simp [intKind,Value.isInt]) ?_)
  by_cases h1:x.1=y.1
  · rw [Ao h1]
    simp only [Bool.not_true,AA,if_false]
    refine zW ?_
    show wpAny _ _ (forIn [(Value.int x.2 t2,Value.int y.2 u2)] _ _) _ _ s
    rw [List.forIn_cons]
    refine zV ?_
    refine zV ((intKind prog w).eqBool (a:=x.2) (b:=y.2) (by simp [intKind,Value.isInt]) (by simp [intKind,Value.isInt]) ?_)
    by_cases h2:x.2=y.2
    · rw [Ao h2]
      simp only [Bool.not_true,AA,if_false]
      refine zW ?_
      show wpAny _ _ (forIn ([]:List (Value × Value)) _ _) _ _ s
      rw [List.forIn_nil]
      refine zW (zW ?_)
      have e:ltP x y=false:=by unfold ltP;simp;omega
      rw [e] at h
      exact h
    · rw [Ap h2]
      simp only [Bool.not_false,if_true]
      refine zV (wpAny_rule (zV ?_))
      refine (lt_int (a:=x.2) (b:=y.2) ?_:wpAny (model prog w) A (compareOp .Lt (.int x.2 t2) (.int y.2 u2)) _ _ _)
      refine zV (zW (zW (zW (zW ?_))))
      have e:ltP x y=decide (x.2 < y.2):=by unfold ltP;simp [h1]
      rw [e] at h
      exact h
  · rw [Ap h1]
    simp only [Bool.not_false,if_true]
    refine zV (wpAny_rule (zV ?_))
    refine (lt_int (a:=x.1) (b:=y.1) ?_:wpAny (model prog w) A (compareOp .Lt (.int x.1 t1) (.int y.1 u1)) _ _ _)
    refine zV (zW (zW (zW (zW ?_))))
    have e:ltP x y=decide (x.1 < y.1):=by unfold ltP;simp [h1]
    rw [e] at h
    exact h
theorem wm {x y:Int × Int} {a b:Addr} {Q:Value->Shared->Prop} (hu:A.units < cLine) (hx:kM s.heap a x) (hy:kM s.heap b y) (h:Q (.bool (ltP x y)) s) :
    wpAny (model prog w) A (richCompare .Lt (.ref a) (.ref b)) Q E s:=by
  have ta:s.TypeIs (.ref a) "tuple":=let ⟨o,_,_,_,e,c,_⟩:=hx;⟨o,e,c⟩
  have tb:s.TypeIs (.ref b) "tuple":=let ⟨o,_,_,_,e,c,_⟩:=hy;⟨o,e,c⟩
  exact wpAny_richCompare_same_room (op:=.Lt) ta tb F.slot_tuple_lt (wpAny_call_entry F.slot_tuple_lt ta F.entry_tuple_lt (l6 hx hy ⟨_,rfl,(fun e=>nomatch e),h⟩) (F.args_tuple_lt_2 _ _)) hu
end
noncomputable def kK (ns:List (Int × Int)) (j:Nat) (k:Nat):Prop:=k < j/\∀ i,i < j->∀ x y,ns[i]?=some x->ns[k]?=some y->ltP x y=false
theorem rL {x y z:Int × Int} (h1:ltP x y=true) (h2:ltP z y=false):ltP z x=false:=by
  unfold ltP at *
  simp at *
  omega
noncomputable def kJ (h:Heap) (bs:List Addr) (ns:List (Int × Int)):Prop:=∀ (i:Nat) (b:Addr),bs[i]?=some b->∃ n,ns[i]?=some n/\kM h b n
noncomputable def xQ (b:Option Addr):Array Value:=match b with | none=>#[] | some a=>#[.ref a,.ref a]
section
variable {prog:Program} {w:World} {A:Around} {R:Result->Shared->Prop}
theorem rD (hh:A.handled=none) (hu:A.units+1 < cLine) {I l S:Addr} (hIl:l ≠ I) (hSI:S ≠ I) (hSl:S ≠ l) (bs:List Addr) (ns:List (Int × Int)) (hbI:∀ b ∈ bs,b ≠ I) (hbS:∀ b ∈ bs,b ≠ S) :
    ∀ (k j:Nat) (s:Shared) (m:Option Nat) (c:Nat),bs.length - j=k->j<=bs.length->s.heap.IsListIter I l j->s.heap.IsList l (bs.map Value.ref).toArray->kJ s.heap bs ns ->
    s.heap.get? S=some { cls:=.type "list",dict:=none,data:=.seq (xQ (m.bind (bs[·]?))) c,slots:=#[] }->(match m with | none=>j=0 | some m=>kK ns j m)->0 < bs.length ->
    (∀ m b h' tk,bs[m]?=some b->kK ns bs.length m->(∀ a o,a ≠ I->a ≠ S->s.heap.get? a=some o->h'.get? a=some o)->R (.ok (.ret (.ref b))) { s with heap:=h',toks:=tk }) ->
    codeAny (model prog w) A (.builtin "min.loop" ⟨[.ref I,.none,.ref S],[]⟩) R s:=by
  have nm:(toString "min" ++ toString ".loop":String) = "min.loop":=by decide
  intro k
  induction k with
  | zero =>
    intro j s m c hk hj hit hl hp hS hb hpos fin
    obtain rfl:j=bs.length:=by omega
    refine codeAny_builtin F.entry_min_loop ?_
    rw [Around.under_plainId F.plain_min_loop _]
    show wpAny _ A.in1 (seqItems? (.ref S) >>= _) _ _ s
    refine zV (wpAny_seqItems hS rfl ?_)
    show wpAny _ A.in1 (tryCatch (pyNext (.ref I)) _ >>= _) _ _ s
    refine zV (wpAny_tryCatch (wpAny_pyNext_list_end (show A.in1.handled=none from hh) hit hl (by simp) fun h' eb=>?_))
    cases m with
    | none=>have:bs.length=0:=hb;omega
    | some m =>
      have hm:m < bs.length:=hb.1
      have eb':bs[m]?=some bs[m]:=z9 hm
      have hS':=eb S _ hSI hS
      simp only [Option.bind_some,eb'] at hS' ⊢
      show wpAny _ A.in1 (updateSeq S (fun _=>#[]) >>= _) _ _ _
      refine zV (wpAny_updateSeq hS' rfl (zV (wpAny_letGo (zW ?_))) (hz:=by show 2<=sizeLine;decide))
      exact fin m _ _ s.toks eb' hb fun a o ha hs e=>(AD _ _ (Ne.symm hs)).trans (eb a o ha e)
  | succ k ih =>
    intro j s m c hk hj hit hl hp hS hb hpos fin
    have hlt:j < bs.length:=by omega
    have hx:bs[j]?=some bs[j]:=z9 hlt
    have hv:(bs.map Value.ref).toArray[j]?=some (.ref bs[j]):=by simp [hx]
    refine codeAny_builtin F.entry_min_loop ?_
    rw [Around.under_plainId F.plain_min_loop _]
    show wpAny _ A.in1 (seqItems? (.ref S) >>= _) _ _ s
    refine zV (wpAny_seqItems hS rfl ?_)
    show wpAny _ A.in1 (tryCatch (pyNext (.ref I)) _ >>= _) _ _ s
    refine zV (wpAny_tryCatch (wpAny_pyNext_list_item hit hl hv fun h' hit' sb=>?_))
    have hS':h'.get? S=_:=(sb.2 S hSI).trans hS
    have hl':h'.IsList l (bs.map Value.ref).toArray:=hl.at fun o e=>(sb.2 l hIl).trans e
    have pk:∀ {h1 h2:Heap},(∀ b ∈ bs,∀ o,h1.get? b=some o->h2.get? b=some o)->kJ h1 bs ns->kJ h2 bs ns:=fun {h1 h2} k q i b e=>by
      obtain ⟨n,e1,o,t,u,m,e2,e3⟩:=q i b e
      exact ⟨n,e1,o,t,u,m,k b (Af e) o e2,e3⟩
    have hp':kJ h' bs ns:=pk (fun b hb o e=>(sb.2 b (hbI b hb)).trans e) hp
    have on:∀ (h2:Heap) (tk:Nat) (m':Option Nat) (c':Nat),(∀ a o,a ≠ S->h'.get? a=some o->h2.get? a=some o)->h2.get? S=some { cls:=.type "list",dict:=none,data:=.seq (xQ (m'.bind (bs[·]?))) c',slots:=#[] }->(match m' with | none=>j+1=0 | some m=>kK ns (j+1) m) ->
        codeAny (model prog w) A (.builtin "min.loop" ⟨[.ref I,.none,.ref S],[]⟩) R { s with heap:=h2,toks:=tk }:=fun h2 tk m' c' k2 hS2 hb' =>
      ih (j+1) _ m' c' (by omega) hlt (hit'.at fun o e=>k2 I o (Ne.symm hSI) e) (hl'.at fun o e=>k2 l o (Ne.symm hSl) e) (pk (fun b hb o e=>k2 b o (hbS b hb) e) hp') hS2 hb' hpos fun v b h3 tk' hv' hw' k3=>fin v b h3 tk' hv' hw' fun a o ha hs e=>k3 a o ha hs (k2 a o hs ((sb.2 a ha).trans e))
    obtain ⟨nj,hnj,hpj⟩:=hp' j _ hx
    cases m with
    | none =>
      have h0:j=0:=hb
      show wpAny _ A.in1 (updateSeq S (fun _=>#[.ref bs[j],.ref bs[j]]) >>= _) _ _ _
      refine zV (wpAny_updateSeq hS' rfl ?_ (hz:=by show 0<=sizeLine;exact Nat.zero_le _))
      rw [nm]
      refine zW ⟨plainId_quiet F.plain_min_loop _,on _ s.toks (some j) (c+1) (fun a o ha e=>(AD _ _ (Ne.symm ha)).trans e) ?_ ⟨by omega,fun i hi x y h1 h2=>?_⟩⟩
      · simp only [Option.bind_some,hx]
        exact At _ hS' rfl
      · obtain rfl:i=j:=by omega
        rw [h1] at h2;cases h2
        unfold ltP;simp
    | some m =>
      obtain ⟨hm,hle⟩:=hb
      have hmb:bs[m]?=some bs[m]:=z9 (by omega)
      obtain ⟨nm',hnm,hpm⟩:=hp' m _ hmb
      simp only [Option.bind_some,hmb] at hS' ⊢
      show wpAny _ A.in1 (tryCatch (holding [.ref bs[j],.ref bs[j]] (richCompare .Lt (.ref bs[j]) (.ref bs[m]) >>= _)) _ >>= _) _ _ _
      refine zV (wpAny_tryCatch (zX (zV ?_)))
      refine wm (A:=A.in1) (show A.units+1 < cLine from hu) hpj hpm ?_
      refine zV (zX (AF (zV (wpAny_letGo (zW ?_)))))
      by_cases hgt:ltP nj nm'=true
      · rw [hgt,if_pos rfl]
        refine zV (wpAny_updateSeq hS' rfl (zV (wpAny_letGo ?_)) (hz:=by show 2<=sizeLine;decide))
        rw [nm]
        refine zW ⟨plainId_quiet F.plain_min_loop _,on _ s.toks (some j) c (fun a o ha e=>(AD _ _ (Ne.symm ha)).trans e) ?_ ⟨by omega,fun i hi x y h1 h2=>?_⟩⟩
        · simp only [Option.bind_some,hx]
          exact At _ hS' rfl
        · rw [hnj] at h2;cases h2
          by_cases hij:i=j
          · subst hij
            rw [hnj] at h1;cases h1
            unfold ltP;simp
          · exact rL hgt (hle i (by omega) x nm' h1 hnm)
      · have hgt':ltP nj nm'=false:=by simpa using hgt
        rw [hgt',if_neg Ak]
        refine zV (wpAny_letGo ?_)
        rw [nm]
        refine zW ⟨plainId_quiet F.plain_min_loop _,on h' s.toks (some m) c (fun a o _ e=>e) (by simp only [Option.bind_some,hmb];exact hS') ⟨by omega,fun i hi x y h1 h2=>?_⟩⟩
        by_cases hij:i=j
        · subst hij
          rw [hnj] at h1;cases h1
          rw [hnm] at h2;cases h2
          exact hgt'
        · exact hle i (by omega) x y h1 h2
end
section
variable {prog:Program} {w:World} {A:Around} {E:Value->Shared->Prop} {s:Shared}
theorem sf {l:Addr} {bs:List Addr} {ns:List (Int × Int)} {Q:Value->Shared->Prop} (hh:A.handled=none) (hu:A.units+1 < cLine) (hl:s.heap.IsList l (bs.map Value.ref).toArray) (hp:kJ s.heap bs ns) (hpos:0 < bs.length)
    (h:∀ m b h' tk,bs[m]?=some b->kK ns bs.length m->(∀ b o,s.heap.get? b=some o->h'.get? b=some o)->Q (.ref b) { s with heap:=h',toks:=tk }) :
    wpAny (model prog w) A (call (.builtin "min") [.ref l]) Q E s:=by
  have hname:(toString "min" ++ toString ".loop":String) = "min.loop":=by decide
  refine call_function_tree F.kind_min F.plain_min F.entry_min (F.args_min1 _) ?_
  show wpAny _ A.in1 (Builtin.Builtins.bindParams "min" ["key","default"] 0 ⟨[],[]⟩ >>= _) _ _ s
  refine zV (wpAny_of_eq (show Builtin.Builtins.bindParams "min" ["key","default"] 0 ⟨[],[]⟩=pure [none,none] from rfl) ?_)
  refine zV (zW ?_)
  refine zV (wpAny_pyIter_list hl ?_)
  refine zV (wpAny_newObj_type ?_)
  rw [hname]
  have hlt:l < s.heap.objs.size:=by obtain ⟨_,e,_⟩:=hl;exact Aa e
  have hsz:(s.heap.push { cls:=.type "list_iterator",data:=.fields #[.ref l,.int 0 0] }).objs.size=s.heap.objs.size+1:=AE _ _
  have a1:(s.heap.push { cls:=.type "list_iterator",data:=.fields #[.ref l,.int 0 0] }).objs.size ≠ s.heap.objs.size:=by rw [hsz];exact Nat.succ_ne_self _
  have a2:(s.heap.push { cls:=.type "list_iterator",data:=.fields #[.ref l,.int 0 0] }).objs.size ≠ l:=by rw [hsz];exact Nat.ne_of_gt (Nat.lt_succ_of_lt hlt)
  have ltb:∀ b ∈ bs,b < s.heap.objs.size:=fun b hb=>by
    obtain ⟨i,hi,e⟩:=List.getElem_of_mem hb
    obtain ⟨_,_,o,_,_,_,e2,_⟩:=hp i b (by rw [z9 hi,e])
    exact Aa e2
  refine zW ⟨plainId_quiet F.plain_min_loop _,rD (A:=A) hh hu (I:=s.heap.objs.size) (l:=l) (Al hlt) a1 a2 bs ns (fun b hb=>Al (ltb b hb)) (fun b hb=>by rw [hsz];exact Al (Nat.lt_succ_of_lt (ltb b hb))) bs.length 0 _ none 0 (by omega) (by omega)
    ⟨_,z4 _ (Ac _ rfl),rfl,rfl⟩ (hl.at fun o e=>z4 _ (z4 _ e)) (fun i b e=>?_) (Ac _ rfl) rfl hpos fun m b h' tk hm hL hk=>?_⟩
  · obtain ⟨n,e1,o,t,u,m,e2,e3⟩:=hp i b e
    exact ⟨n,e1,o,t,u,m,z4 _ (z4 _ e2),e3⟩
  · refine h m b h' tk hm hL fun c o e=>hk c o (fun q=>?_) (fun q=>?_) (z4 _ (z4 _ e))
    · exact absurd q (Al (Aa e))
    · exact absurd (q.trans hsz) (Al (Nat.lt_succ_of_lt (Aa e)))
end
section
variable {X:Cx}
noncomputable def xD (K:FG):List V->Hp->VK->Prop:=fun xs H Q=>∃ (l:Addr) (bs:List Addr) (ns:List (Int × Int)),xs=[.ref l]/\SqL K H l (bs.map V.ref)/\(∀ (i:Nat) (b:Addr),bs[i]?=some b->∃ n,ns[i]?=some n/\H b=some (.tup [.int n.1,.int n.2]))/\bs ≠ [] /\
  ∀ m b,bs[m]?=some b->kK ns bs.length m->Q (.ref b) H
theorem ld:∀ {bs:List Addr} {its:List Value},Vals (bs.map V.ref) its->its=bs.map Value.ref
  | [],_,.nil=>rfl
  | b :: bs,_,.cons r t=>by cases r;rw [ld t];rfl
theorem sh (hc:X.calm=true) (hu:X.A.units+1 < cLine):CallR X (.builtin "min") (xD X.K):=by
  intro pins s σ H xs us Q I rx h
  obtain ⟨l,bs,ns,rfl,hl,hp,hne,q⟩:=h
  obtain ⟨u,rfl,ru⟩:=jI rx
  cases (show u=Value.ref l from ru)
  obtain ⟨its,rv,p,hz⟩:=I.list hl
  have pl:=p.isList
  rw [ld rv] at pl
  refine sf (I.ok.hd hc) hu pl (ns:=ns) (fun i b e=>?_) (List.length_pos_iff.mpr hne) fun m b h' tk hm hL hk=>⟨.ref b,H,I.kept hk,rfl,q m b hm hL⟩
  obtain ⟨n,e1,e2⟩:=hp i b e
  obtain ⟨_,its,r,o,h1,h2,k,h3⟩:=(show ObjOk X.prog X.w H s.heap b (.tup [.int n.1,.int n.2]) from I.hok b _ e2)
  refine ⟨n,e1,?_⟩
  cases r with
  | cons r1 r =>
    cases r with
    | cons r2 r =>
      cases r
      obtain ⟨t,rfl⟩:=r1
      obtain ⟨u,rfl⟩:=r2
      exact ⟨o,t,u,k,h1,h2,congrArg Prod.fst h3⟩
end
end L2
end
section
namespace L2
open PySem PySem.W PySem.Spec PyProof.Rows
noncomputable abbrev excO (a:Addr) (cls:Value):HO:=.ext fun h=>∃ o,h.get? a=some o/\o.cls=cls
noncomputable abbrev excF (ob:Obj) (a:Addr) (cls:Value):HO:=.frz ob (excO a cls)
structure ExcK (K:FG) (D:Addr):Prop where
  ga:findIn K (.ref D) "__getattribute__"=some (some (.builtin "BaseException.__getattribute__"))
  gt:findIn K (.ref D) "__getattr__"=some none
  cl:(clsIn K D).isSome=true
  ca:findIn K (.ref D) "__class__"=some (some (.builtin "object.__class__"))
  sp:specialIn K (.builtin "object.__class__") "__get__"=some (some (.builtin "getset_descriptor.__get__"))
  tk:takesIn K (.builtin "object.__class__")=some true
  ob:mroIn K D (.type "object")=some true
  be:mroIn K D (.type "BaseException")=some true
structure XName (K:FG) (c:String) (D:Addr):Prop where
  ns:nsIn K mainGlobals (Str.ofString c)=some (some (.ref D))
  ex:ExcK K D
theorem XName.inj {K:FG} {c:String} {D D':Addr} (a:XName K c D) (b:XName K c D'):D=D':=by
  have:=a.ns.symm.trans b.ns
  cases this
  rfl
end L2
end
section
namespace L2
open PySem
section
variable {K:FG} {h:Heap} {mg:Str->Option Value}
theorem iQ {h:Heap}:∀ {l:List Nat} {a:Nat} {o:Obj},(l.filterMap fun a=>(h.get? a).map fun o=>(a,o)).lookup a=some o->h.get? a=some o
  | [],_,_,e=>by cases e
  | b :: l,a,o,e=>by
    rw [List.filterMap_cons] at e
    cases hb:h.get? b with
    | none=>rw [hb] at e;exact iQ e
    | some p =>
      rw [hb] at e
      replace e:List.lookup a ((b,p) :: l.filterMap fun a=>(h.get? a).map fun o=>(a,o))=some o:=e
      rw [List.lookup_cons] at e
      cases hab:a == b with
      | true=>rw [hab] at e;cases eq_of_beq hab;cases e;exact hb
      | false=>rw [hab] at e;exact iQ e
theorem fragAt_in (h:Heap):(uD h).In h:=fun _ _ e=>iQ e
noncomputable def stPos (s:Stmt):Pos:=match s with
  | .FunctionDef _ _ _ _ _ _ _ _ _ p=>p
  | _=>⟨0,0,0,0⟩
set_option tactic.hygienic true in
theorem zM {n:Str} {st:Stmt} (X:K.In h) (G:h.Ns mainGlobals mg) (e:oe K n=kz n st):Def K mg n st:=by
  unfold oe at e
  split at e
  · rename_i f hf
    split at e
    · rename_i oc od fd sl hl
      unfold kz at e
      obtain ⟨name,qual,params,body,scope,globals,closure,defaults,kw,doc,pm,an,cd,ct,bi⟩:=fd
      simp only [Option.some.injEq,Prod.mk.injEq] at e
      obtain ⟨rfl,rfl,rfl,rfl,rfl,rfl,rfl,rfl,rfl,hc⟩:=e
      exact ⟨f,_,zF (st:=st) hl hc (by unfold PySem.W.keepIn;simp only [hl]),PySem.W.mg_of X G hf⟩
    · cases e
  · cases e
theorem o9 {α β:Type} {f g:α->β} {l:List α} (e:l.map f=l.map g) (i:Nat) {a:α} (h:l[i]?=some a):f a=g a:=List.map_inj_left.mp e a (Af h)
theorem aP {ds:List (Str × Stmt)} {n:Str} {st:Stmt} (X:K.In h) (G:h.Ns mainGlobals mg) (e:ds.map (fun p=>oe K p.1)=ds.map (fun p=>kz p.1 p.2)) (i:Nat) (hi:ds[i]?=some (n,st)):Def K mg n st:=zM X G (o9 e i hi)
theorem cC {l:List Str} {n:Str} (X:K.In h) (G:h.Ns mainGlobals mg) (e:l.map (PySem.W.nsIn K mainGlobals)=l.map (fun _=>some none)) (i:Nat) (hi:l[i]?=some n):mg n=none:=PySem.W.mg_none_of X G (o9 e i hi)
set_option tactic.hygienic true in
theorem ko {l:List (Str × Int)} {n:Str} {v:Int} (X:K.In h) (G:h.Ns mainGlobals mg) (e:l.map (fun p=>ml K p.1)=l.map (fun p=>some p.2)) (i:Nat) (hi:l[i]?=some (n,v)):∃ t,mg n=some (.int v t):=by
  have e:=o9 e i hi
  unfold ml at e
  dsimp only at e
  split at e
  · rename_i v' t hs;cases e;exact ⟨t,PySem.W.mg_of X G hs⟩
  · cases e
theorem walk_ofS {l:PySem.W.OpenLaw} {n k:Nat} {q:Program} {loose:List Str} {XP:(Str->Option Value)->Heap->Prop} {YP:World->Heap->Prop} {d:DefRec} {S:FG->Prop} {CX:CXT} {sp:FG->Sp} {x:Str}
    (hn:l.most=some n) (hn2:n<=sizeLine) (hdf:d.params.defaults=[]) (hr:Room k callerA)
    (hY:∀ (w:World) (h:Heap),YP w h->∃ K:FG,K.In h/\S K)
    (F:∀ (w:World) (mg:Str->Option Value) (fa:Addr) (h:Heap) (K:FG),S K->K.In h->h.Ns mainGlobals mg->mg d.name=some (.ref fa) ->
      ∃ fd:FuncData,(∀ (s:Shared) (u:Value),BindsTo s fd ⟨[u],[]⟩ [(x,u)]) /\
        ∀ base:Heap,K.In base->base.Ns mainGlobals mg->FnOk l.prog w K mg base CX k fa fd [x] (sp K))
    (hsp:∀ (K:FG) (H:Hp) (a:Addr) (ns:List Int),ns.length<=n->xq H->SqL K H a (ns.map V.int)->sp K [.ref a] H (fun v _=>v=.bl true) fun _ _ _=>False)
    (hCX:∀ (H:Hp) (s:Shared) (e:Value) (s':Shared),CX [] H s (fun _ _ _=>False) e s'->False) :
    PySem.W.WalkO q loose XP YP l.row.toRowW d [] (fun f vs=>PySem.call f vs):=by
  refine Att.attach_call hn hdf fun w s₀ s₁ mg mb fa o pm cd doc a vs ns G Y ho hd hcd hmg hobj hints hlen hg=>?_
  obtain ⟨K,KX,hS⟩:=hY w _ Y
  obtain ⟨fd,hb,hF⟩:=F w mg fa _ K hS KX G.T.g hmg
  exact uo KX G.T.g G.T.b G.T.builtins G.T.nolimit hg hobj hints (AG hlen hn2) hr hF hb (fun H hO hS=>hsp K H a ns hlen hO hS) fun H e s'=>hCX H s₁ e s'
end
end L2
end
section
namespace L3
open PySem L2
theorem nsE {α:Type} {p:α} {P:Prop} (e:(none:Option α)=some p):P:=nomatch e
inductive D where
 | non | bl (b:Bool) | int (i:Int) | str (x:Str)
 | tup (xs:List D) | lst (xs:List D) | fls (xs:List D) | dk (kvs:List (Key × D)) | dt (kvs:List (List Key × D))
 | exc (c:String) (fs:List (String × D))
noncomputable def iq:D->Bool
 | .lst _=>true
 | .dk _=>true
 | .dt _=>true
 | _=>false
noncomputable def FzL (K:FG) (H:Hp) (a:Addr) (vs:List V):Prop:=(∃ o,H a=some (.frz o (.lst vs)))\/∃ (o:Obj) (its:Array Value) (n:Nat),K.lookup a=some o/\o.cls=.type "list"/\o.dict=none/\o.data=.seq its n/\its.size<=sizeLine/\Vals vs its.toList
theorem FzL.sq {K:FG} {H:Hp} {a:Addr} {vs:List V} (h:FzL K H a vs):SqL K H a vs:=h.elim (fun ⟨o,e⟩=>.inl (.inr ⟨o,e⟩)) .inr
inductive Reps (R:D->V->List Addr->Prop):List D->List V->List Addr->Prop where
 | nil:Reps R [] [] []
 | cons {d v L ds vs L'}:R d v L->Reps R ds vs L'->Reps R (d :: ds) (v :: vs) (L ++ L')
inductive Rep (K:FG) (H:Hp):D->V->List Addr->Prop where
 | non:Rep K H .non .non []
 | bl (b:Bool):Rep K H (.bl b) (.bl b) []
 | int (i:Int):Rep K H (.int i) (.int i) []
 | str (x:Str):Rep K H (.str x) (.str x) []
 | tup {xs a vs L}:H a=some (.tup vs)->Reps (Rep K H) xs vs L->Rep K H (.tup xs) (.ref a) L
 | lst {xs a vs L}:H a=some (.lst vs)->Reps (Rep K H) xs vs L->Rep K H (.lst xs) (.ref a) (a :: L)
 | lstF {xs a vs L}:FzL K H a vs->Reps (Rep K H) xs vs L->Rep K H (.fls xs) (.ref a) L
 | dK {kvs a ps L}:H a=some (.dK ps)->kvs.map (·.1)=ps.map (·.1)->Reps (Rep K H) (kvs.map (·.2)) (ps.map (·.2)) L->Rep K H (.dk kvs) (.ref a) (a :: L)
 | dT {kvs a ps L}:H a=some (.dT ps)->kvs.map (·.1)=ps.map (·.1)->Reps (Rep K H) (kvs.map (·.2)) (ps.map (·.2)) L->Rep K H (.dt kvs) (.ref a) (a :: L)
 | exc {c a D ob}:XName K c D->H a=some (excF ob a (.ref D))->Rep K H (.exc c []) (.ref a) []
noncomputable def RepV (K:FG) (H:Hp) (d:D) (v:V) (L:List Addr):Prop:=match d with
 | .non=>v=.non/\L=[]
 | .bl b=>v=.bl b/\L=[]
 | .int i=>v=.int i/\L=[]
 | .str x=>v=.str x/\L=[]
 | .tup xs=>∃ a vs,v=.ref a/\H a=some (.tup vs)/\Reps (Rep K H) xs vs L
 | .lst xs=>∃ a vs L',v=.ref a/\L=a :: L'/\H a=some (.lst vs)/\Reps (Rep K H) xs vs L'
 | .fls xs=>∃ a vs,v=.ref a/\FzL K H a vs/\Reps (Rep K H) xs vs L
 | .dk kvs=>∃ a ps L',v=.ref a/\L=a :: L'/\H a=some (.dK ps)/\kvs.map (·.1)=ps.map (·.1)/\Reps (Rep K H) (kvs.map (·.2)) (ps.map (·.2)) L'
 | .dt kvs=>∃ a ps L',v=.ref a/\L=a :: L'/\H a=some (.dT ps)/\kvs.map (·.1)=ps.map (·.1)/\Reps (Rep K H) (kvs.map (·.2)) (ps.map (·.2)) L'
 | .exc c fs=>fs=[]/\L=[]/\∃ a D ob,v=.ref a/\XName K c D/\H a=some (excF ob a (.ref D))
theorem Rep.view {K:FG} {H:Hp} {d:D} {v:V} {L:List Addr} (r:Rep K H d v L):RepV K H d v L:=by
 cases r with
 | non=>exact ⟨rfl,rfl⟩
 | bl b=>exact ⟨rfl,rfl⟩
 | int i=>exact ⟨rfl,rfl⟩
 | str x=>exact ⟨rfl,rfl⟩
 | tup h r=>exact ⟨_,_,rfl,h,r⟩
 | lst h r=>exact ⟨_,_,_,rfl,rfl,h,r⟩
 | lstF h r=>exact ⟨_,_,rfl,h,r⟩
 | dK h k r=>exact ⟨_,_,_,rfl,rfl,h,k,r⟩
 | dT h k r=>exact ⟨_,_,_,rfl,rfl,h,k,r⟩
 | exc n h=>exact ⟨rfl,rfl,_,_,_,rfl,n,h⟩
noncomputable def MutAt (H:Hp) (b:Addr):Prop:=(∃ xs,H b=some (.lst xs))\/(∃ ps,H b=some (.dK ps))\/∃ ps,H b=some (.dT ps)
theorem MutAt.ex {H:Hp} {b:Addr} (m:MutAt H b):∃ o,H b=some o:=by
 rcases m with ⟨_,h⟩ | ⟨_,h⟩ | ⟨_,h⟩ <;> exact ⟨_,h⟩
theorem MutAt.notup {H:Hp} {b:Addr} {vs:List V} (m:MutAt H b) (h:H b=some (.tup vs)):False:=by
 rcases m with ⟨_,e⟩ | ⟨_,e⟩ | ⟨_,e⟩ <;> rw [e] at h <;> cases h
theorem MutAt.nofrz {H:Hp} {b:Addr} {o:Obj} {u:HO} (m:MutAt H b) (h:H b=some (.frz o u)):False:=by
 rcases m with ⟨_,e⟩ | ⟨_,e⟩ | ⟨_,e⟩ <;> rw [e] at h <;> cases h
theorem FzL.keep {K:FG} {H H':Hp} {a:Addr} {vs:List V} {M:Addr->Prop} (h:FzL K H a vs) (k:∀ b o,H b=some o->¬ M b->H' b=some o) (hm:∀ b,M b->MutAt H b):FzL K H' a vs:=h.elim (fun ⟨o,e⟩=>.inl ⟨o,k a _ e fun z=>(hm a z).nofrz e⟩) .inr
section
variable {K:FG} {H H':Hp} {d:D} {v:V} {L:List Addr}
theorem Rep.inH (r:Rep K H d v L):∀ b ∈ L,MutAt H b:=by
 refine Rep.rec (motive_1:=fun _ _ L _=>∀ b ∈ L,MutAt H b) (motive_2:=fun _ _ L _=>∀ b ∈ L,MutAt H b) ?_ ?_ ?_ ?_ ?_ ?_ ?_ ?_ ?_ ?_ ?_ ?_ r
 ·intro b hb;cases hb
 ·intro _ b hb;cases hb
 ·intro _ b hb;cases hb
 ·intro _ b hb;cases hb
 ·intro _ _ _ _ _ _ ih;exact ih
 ·intro _ _ _ _ h _ ih b hb
  rcases z8.mp hb with e | hb
  ·rw [e];exact .inl ⟨_,h⟩
  ·exact ih b hb
 ·intro _ _ _ _ _ _ ih;exact ih
 ·intro _ _ _ _ h _ _ ih b hb
  rcases z8.mp hb with e | hb
  ·rw [e];exact .inr (.inl ⟨_,h⟩)
  ·exact ih b hb
 ·intro _ _ _ _ h _ _ ih b hb
  rcases z8.mp hb with e | hb
  ·rw [e];exact .inr (.inr ⟨_,h⟩)
  ·exact ih b hb
 ·intro _ _ _ _ _ _ b hb;cases hb
 ·intro b hb;cases hb
 ·intro _ _ _ _ _ _ _ _ i1 i2 b hb
  rcases Ab.mp hb with h | h
  ·exact i1 b h
  ·exact i2 b h
theorem Reps.inH {ds:List D} {vs:List V} (r:Reps (Rep K H) ds vs L):∀ b ∈ L,MutAt H b:=by
 induction r with
 | nil=>intro b hb;cases hb
 | cons r _ ih =>
  intro b hb
  rcases Ab.mp hb with h | h
  ·exact r.inH b h
  ·exact ih b h
theorem Rep.keep {M:Addr->Prop} (k:∀ b o,H b=some o->¬ M b->H' b=some o) (hm:∀ b,M b->MutAt H b) (r:Rep K H d v L):(∀ b ∈ L,¬ M b)->Rep K H' d v L:=by
 refine Rep.rec (motive_1:=fun d v L _=>(∀ b ∈ L,¬ M b)->Rep K H' d v L) (motive_2:=fun ds vs L _=>(∀ b ∈ L,¬ M b)->Reps (Rep K H') ds vs L) ?_ ?_ ?_ ?_ ?_ ?_ ?_ ?_ ?_ ?_ ?_ ?_ r
 ·intro _;exact .non
 ·intro b _;exact .bl b
 ·intro b _;exact .int b
 ·intro b _;exact .str b
 ·intro xs a vs L h _ ih hL
  exact .tup (k a _ h fun z=>(hm a z).notup h) (ih hL)
 ·intro xs a vs L h _ ih hL
  exact .lst (k a _ h (hL a zY)) (ih fun b hb=>hL b (zZ _ hb))
 ·intro xs a vs L h _ ih hL
  exact .lstF (h.keep k hm) (ih hL)
 ·intro kvs a ps L h e _ ih hL
  exact .dK (k a _ h (hL a zY)) e (ih fun b hb=>hL b (zZ _ hb))
 ·intro kvs a ps L h e _ ih hL
  exact .dT (k a _ h (hL a zY)) e (ih fun b hb=>hL b (zZ _ hb))
 ·intro c a D ob n h _
  exact .exc n (k a _ h fun z=>(hm a z).nofrz h)
 ·intro _;exact .nil
 ·intro d v L ds vs L' _ _ i1 i2 hL
  exact .cons (i1 fun b hb=>hL b (z6 _ hb)) (i2 fun b hb=>hL b (z7 _ hb))
theorem Rep.same (r:Rep K H d v L) (s:Same H H'):Rep K H' d v L:=r.keep (M:=fun _=>False) (fun b o h _=>s b o h) (fun _ z=>z.elim) fun _ _ z=>z
theorem Reps.keep {M:Addr->Prop} {ds:List D} {vs:List V} (k:∀ b o,H b=some o->¬ M b->H' b=some o) (hm:∀ b,M b->MutAt H b) (r:Reps (Rep K H) ds vs L):(∀ b ∈ L,¬ M b)->Reps (Rep K H') ds vs L:=by
 induction r with
 | nil=>intro _;exact .nil
 | cons r _ ih=>intro hL;exact .cons (r.keep k hm fun b hb=>hL b (z6 _ hb)) (ih fun b hb=>hL b (z7 _ hb))
theorem Reps.same {ds:List D} {vs:List V} (r:Reps (Rep K H) ds vs L) (s:Same H H'):Reps (Rep K H') ds vs L:=r.keep (M:=fun _=>False) (fun b o h _=>s b o h) (fun _ z=>z.elim) fun _ _ z=>z
end
inductive Fl where
 | u | l | z
 deriving DecidableEq
structure It3 where
 d:D
 v:V
 L:List Addr
 f:Fl
noncomputable abbrev Sto:=List (Option (D × Fl))
structure Gm where
 H0:Hp
 bw:Addr->Prop
 pr:Nat->Bool
 σ0:St
 orig:Hp
 src:Addr->Prop
 lv:Nat->Option V
noncomputable def OwnOk (G:Gm) (x:It3):Prop:=iq x.d=true/\∃ a L',x.v=.ref a/\x.L=a :: L'/\a ∉ L'/\(x.f=.u->G.H0 a=none\/G.bw a)
structure ItOk (K:FG) (G:Gm) (H:Hp) (x:It3):Prop where
 rep:Rep K H x.d x.v x.L
 own:x.f ≠ .z->OwnOk G x
 src:∀ c ∈ x.L,G.H0 c=none\/G.src c
structure Fx (G:Gm) (H:Hp) (T:List It3) (g:Nat->Option It3):Prop where
 frT:∀ x ∈ T,x.f ≠ .z->∀ a,x.v=.ref a->G.orig a=none
 frS:∀ i x,g i=some x->G.pr i=false->x.f ≠ .z->∀ a,x.v=.ref a->G.orig a=none
 bin:∀ b,G.bw b->∃ o,H b=some o
 ob:∀ b o,G.orig b=some o->∃ o',H b=some o'
 lvS:∀ i x,g i=some x->x.f=.l->G.lv i=some x.v
noncomputable def NoRoot (x y:It3):Prop:=x.f ≠ .z->∀ a,x.v=.ref a->a ∉ y.L
noncomputable def Apart3 (x y:It3):Prop:=NoRoot x y/\NoRoot y x
structure Wf (K:FG) (G:Gm) (H:Hp) (σ:St) (ρ:Sto) (T:List It3) (g:Nat->Option It3):Prop where
 len:σ.length = ρ.length
 sl:∀ i,(g i).map (fun x=>(x.d,x.f))=(ρ[i]?).join
 sv:∀ i x,g i=some x->σ[i]?=some (some x.v)
 okS:∀ i x,g i=some x->ItOk K G H x
 okT:∀ x ∈ T,ItOk K G H x
 ss:∀ i j x y,i ≠ j->g i=some x->g j=some y->NoRoot x y
 st:∀ i x,g i=some x->∀ y ∈ T,Apart3 x y
 tt:T.Pairwise Apart3
 base:∀ b o,G.H0 b=some o->¬ G.bw b->H b=some o
 pro:∀ i,G.pr i=true->σ[i]?=G.σ0[i]?
 fx:Fx G H T g
structure Le (K:FG) (G:Gm) (W:D->Sto->Prop) (G0:Gm) (W0:D->Sto->Prop):Prop where
 pr:G.pr=G0.pr
 ex:∀ (H:Hp) (σ:St) (ρ:Sto) (T:List It3) (g:Nat->Option It3) (e:D),Wf K G H σ ρ T g->W e ρ->∃ ρ0 T0 g0,Wf K G0 H σ ρ0 T0 g0/\W0 e ρ0
theorem Le.refl (K:FG) (G:Gm) (W:D->Sto->Prop):Le K G W G W:=⟨rfl,fun _ _ ρ T g _ w h=>⟨ρ,T,g,w,h⟩⟩
theorem Le.trans {K:FG} {G G1 G2:Gm} {W W1 W2:D->Sto->Prop} (a:Le K G W G1 W1) (b:Le K G1 W1 G2 W2):Le K G W G2 W2:=⟨a.pr.trans b.pr,fun H σ ρ T g e w h=>by
 obtain ⟨ρ1,T1,g1,w1,h1⟩:=a.ex H σ ρ T g e w h
 exact b.ex H σ ρ1 T1 g1 e w1 h1⟩
section
variable {K:FG} {G:Gm} {H H':Hp} {σ:St} {ρ:Sto} {T T':List It3} {g:Nat->Option It3} {x y z:It3}
theorem ItOk.keep {M:Addr->Prop} (h:ItOk K G H x) (k:∀ b o,H b=some o->¬ M b->H' b=some o) (hm:∀ b,M b->MutAt H b) (hL:∀ b ∈ x.L,¬ M b):ItOk K G H' x:=⟨h.rep.keep k hm hL,h.own,h.src⟩
theorem ItOk.same (h:ItOk K G H x) (s:Same H H'):ItOk K G H' x:=⟨h.rep.same s,h.own,h.src⟩
theorem Fx.more (f:Fx G H T g) (s:∀ b o,H b=some o->∃ o',H' b=some o'):Fx G H' T g:=⟨f.frT,f.frS,fun b h=>let ⟨o,e⟩:=f.bin b h;s b o e,fun b o h=>let ⟨o',e⟩:=f.ob b o h;s b o' e,f.lvS⟩
theorem Fx.sub (f:Fx G H T g) (h:∀ x ∈ T',x ∈ T):Fx G H T' g:=⟨fun x hx=>f.frT x (h x hx),f.frS,f.bin,f.ob,f.lvS⟩
theorem Wf.grow (w:Wf K G H σ ρ T g) (s:Same H H'):Wf K G H' σ ρ T g :=
 ⟨w.len,w.sl,w.sv,fun i x e=>(w.okS i x e).same s,fun x hx=>(w.okT x hx).same s,w.ss,w.st,w.tt,fun b o e n=>s b o (w.base b o e n),w.pro,w.fx.more fun b o h=>⟨o,s b o h⟩⟩
theorem Wf.sub (w:Wf K G H σ ρ T g) (h:T'.Sublist T):Wf K G H σ ρ T' g :=
 ⟨w.len,w.sl,w.sv,w.okS,fun x hx=>w.okT x (h.subset hx),w.ss,fun i x e y hy=>w.st i x e y (h.subset hy),w.tt.sublist h,w.base,w.pro,w.fx.sub fun x hx=>h.subset hx⟩
noncomputable def Itm (T:List It3) (g:Nat->Option It3) (y:It3):Prop:=(∃ i,g i=some y)\/y ∈ T
noncomputable def dN (T:List It3) (g:Nat->Option It3) (c:Addr):Prop:=(∀ i z,g i=some z->z.f ≠ .z->z.v ≠ .ref c)/\∀ z ∈ T,z.f ≠ .z->z.v ≠ .ref c
theorem Wf.itm (w:Wf K G H σ ρ T g) (h:Itm T g y):ItOk K G H y:=by
 rcases h with ⟨i,e⟩ | h
 ·exact w.okS i y e
 ·exact w.okT y h
theorem l5 {α:Type} {R:α->α->Prop} {l:List α} (p:l.Pairwise R) (hs:∀ a b,R a b->R b a):∀ a ∈ l,∀ b ∈ l,a ≠ b->R a b:=by
 induction p with
 | nil=>intro a ha;cases ha
 | @cons c l hc _ ih =>
  intro a ha b hb n
  rcases z8.mp ha with ea | ha
  ·rcases z8.mp hb with eb | hb
   ·exact absurd (ea.trans eb.symm) n
   ·rw [ea];exact hc b hb
  ·rcases z8.mp hb with eb | hb
   ·rw [eb];exact hs _ _ (hc a ha)
   ·exact ih a ha b hb n
theorem Apart3.symm (h:Apart3 x y):Apart3 y x:=⟨h.2,h.1⟩
theorem Wf.kid (w:Wf K G H σ ρ T g) (h:Itm T g y) {c:Addr} (hc:c ∈ y.L) (hn:y.f ≠ .z->y.v ≠ .ref c):dN T g c:=by
 refine ⟨fun i z e hz ez=>?_,fun z hm hz ez=>?_⟩
 ·rcases h with ⟨j,ej⟩ | hy
  ·by_cases ij:i=j
   ·subst ij
    rw [e] at ej
    cases ej
    exact hn hz ez
   ·exact w.ss i j z y ij e ej hz c ez hc
  ·exact (w.st i z e y hy).1 hz c ez hc
 ·rcases h with ⟨j,ej⟩ | hy
  ·exact (w.st j y ej z hm).2 hz c ez hc
  ·by_cases e:z=y
   ·subst e;exact hn hz ez
   ·exact (l5 w.tt (fun _ _=>Apart3.symm) z hm y hy e).1 hz c ez hc
structure New (K:FG) (H H':Hp) (Ks:Addr->Prop) (x:It3):Prop where
 same:Same H H'
 rep:Rep K H' x.d x.v x.L
 sub:∀ c ∈ x.L,H c=none\/Ks c
 own:x.f ≠ .z->iq x.d=true/\∃ a L',x.v=.ref a/\x.L=a :: L'/\a ∉ L'/\H a=none
theorem Wf.h0none (w:Wf K G H σ ρ T g) {a:Addr} (h:H a=none):G.H0 a=none:=by
 cases e:G.H0 a with
 | none=>rfl
 | some o =>
  by_cases b:G.bw a
  ·obtain ⟨o,e⟩:=w.fx.bin a b
   rw [h] at e;cases e
  ·have:=w.base a o e b
   rw [h] at this;cases this
theorem Wf.ornone (w:Wf K G H σ ρ T g) {a:Addr} (h:H a=none):G.orig a=none:=by
 cases e:G.orig a with
 | none=>rfl
 | some o =>
  obtain ⟨o,e⟩:=w.fx.ob a o e
  rw [h] at e;cases e
theorem Wf.push {Ks:Addr->Prop} (w:Wf K G H σ ρ T g) (n:New K H H' Ks x) (hk:∀ c,Ks c->dN T g c/\(G.H0 c=none\/G.src c)):Wf K G H' σ ρ (x :: T) g:=by
 have w':=w.grow n.same
 have a1:∀ y:It3,ItOk K G H y->(∀ c,Ks c->y.f ≠ .z->y.v ≠ .ref c)->Apart3 y x:=fun y oy hy=>by
  refine ⟨fun hf a e hm=>?_,fun hf a e hm=>?_⟩
  ·obtain ⟨_,a',L',e1,e2,_,_⟩:=oy.own hf
   rw [e] at e1
   cases e1
   rcases n.sub a hm with h | h
   ·obtain ⟨o,ho⟩:=(oy.rep.inH a (by rw [e2];exact zY)).ex
    rw [h] at ho;cases ho
   ·exact hy a h hf e
  ·obtain ⟨_,a',L',e1,e2,_,h⟩:=n.own hf
   rw [e] at e1
   cases e1
   obtain ⟨o,ho⟩:=(oy.rep.inH a hm).ex
   rw [h] at ho;cases ho
 refine ⟨w'.len,w'.sl,w'.sv,w'.okS,?_,w'.ss,?_,?_,w'.base,w'.pro,⟨fun y hy hf a ea=>?_,w'.fx.frS,w'.fx.bin,w'.fx.ob,w'.fx.lvS⟩⟩
 ·intro y hy
  rcases z8.mp hy with rfl | hy
  ·refine ⟨n.rep,fun hf=>?_,fun c hc=>?_⟩
   ·obtain ⟨e0,a,L',e1,e2,e3,e4⟩:=n.own hf
    exact ⟨e0,a,L',e1,e2,e3,fun _=>.inl (w.h0none e4)⟩
   ·rcases n.sub c hc with h | h
    ·exact .inl (w.h0none h)
    ·exact (hk c h).2
  ·exact w'.okT y hy
 ·intro i z e y hy
  rcases z8.mp hy with rfl | hy
  ·exact a1 z (w.okS i z e) fun c hc=>(hk c hc).1.1 i z e
  ·exact w'.st i z e y hy
 ·refine List.pairwise_cons.mpr ⟨fun y hy=>(a1 y (w.okT y hy) fun c hc=>(hk c hc).1.2 y hy).symm,w'.tt⟩
 ·rcases z8.mp hy with h | hy
  ·subst h
   obtain ⟨e0,a',L',e1,e2,e3,e4⟩:=n.own hf
   rw [ea] at e1
   cases e1
   exact w.ornone e4
  ·exact w'.fx.frT y hy hf a ea
noncomputable def dz (ys:List It3) (c:Addr):Prop:=∃ y ∈ ys,c ∈ y.L/\(y.f ≠ .z->y.v ≠ .ref c)
theorem Wf.kids (w:Wf K G H σ ρ T g) {ys:List It3} (hy:∀ y ∈ ys,Itm T g y) {c:Addr} (h:dz ys c):dN T g c/\(G.H0 c=none\/G.src c):=by
 obtain ⟨y,m,hc,hn⟩:=h
 exact ⟨w.kid (hy y m) hc hn,(w.itm (hy y m)).src c hc⟩
structure Arg (K:FG) (H:Hp) (p:It3):Prop where
 rep:Rep K H p.d p.v p.L
 own:p.f ≠ .z->iq p.d=true/\∃ a L',p.v=.ref a/\p.L=a :: L'/\a ∉ L'
theorem ItOk.arg (h:ItOk K G H x):Arg K H x:=⟨h.rep,fun hf=>by
 obtain ⟨m,a,L',v1,v2,v3,_⟩:=h.own hf
 exact ⟨m,a,L',v1,v2,v3⟩⟩
end
end L3
end
section
namespace L3
open PySem L2
inductive R3 where
 | pl (i:Nat) | val (d:D) (f:Fl)
noncomputable abbrev M3 (α:Type):=Sto->Option (Except D α × Sto)
noncomputable abbrev EM:=M3 R3
noncomputable def ae {α β:Type} (m:M3 α) (k:α->M3 β):M3 β:=fun ρ=>match m ρ with
 | none=>none
 | some (.error e,ρ')=>some (.error e,ρ')
 | some (.ok a,ρ')=>k a ρ'
noncomputable def bb {α:Type} (a:α):M3 α:=fun ρ=>some (.ok a,ρ)
noncomputable def bh {α:Type} (o:Option α):M3 α:=fun ρ=>o.map fun a=>(.ok a,ρ)
noncomputable def der (r:R3):M3 D:=fun ρ=>match r with
 | .pl i=>((ρ[i]?).join).map fun p=>(.ok p.1,ρ)
 | .val d _=>some (.ok d,ρ)
inductive Ar (σ:St):R3->V->List It3->Prop where
 | pl {i:Nat} {v:V}:σ[i]?=some (some v)->Ar σ (.pl i) v []
 | val (x:It3):Ar σ (.val x.d x.f) x.v [x]
noncomputable def Got (K:FG) (G:Gm) (σ:St) (ρ:Sto) (T:List It3) (r:R3) (v:V) (H:Hp):Prop:=∃ Ts g,Wf K G H σ ρ (Ts ++ T) g/\Ar σ r v Ts
noncomputable def tE (K:FG) (G0:Gm) (W0:D->Sto->Prop) (m:EM):TE:=fun σ H Q=>∃ G W,Le K G W G0 W0/\∃ ρ T g r ρ',Wf K G H σ ρ T g/\m ρ=some (r,ρ')/\match r with
 | .ok r=>∀ v H',Got K G σ ρ' T r v H'->Q v H'
 | .error e=>W e ρ'
noncomputable def tT (K:FG) (G0:Gm) (W0:D->Sto->Prop) (m:M3 Bool):TT:=fun σ H Q=>∃ G W,Le K G W G0 W0/\∃ ρ T g r ρ',Wf K G H σ ρ T g/\m ρ=some (r,ρ')/\match r with
 | .ok b=>∀ H' g',Wf K G H' σ ρ' T g'->Q b H'
 | .error e=>W e ρ'
inductive Ars (σ:St):List R3->List V->List It3->Prop where
 | nil:Ars σ [] [] []
 | cons {r v Ts rs vs Us}:Ar σ r v Ts->Ars σ rs vs Us->Ars σ (r :: rs) (v :: vs) (Us ++ Ts)
noncomputable def tA (K:FG) (G0:Gm) (W0:D->Sto->Prop) (m:M3 (List R3)):TA:=fun σ H Q=>∃ G W,Le K G W G0 W0/\∃ ρ T g r ρ',Wf K G H σ ρ T g/\m ρ=some (r,ρ')/\match r with
 | .ok rs=>∀ vs H' Ts g',Wf K G H' σ ρ' (Ts ++ T) g'->Ars σ rs vs Ts->Q vs H'
 | .error e=>W e ρ'
inductive Flw where
 | nx | br | ct | rt (d:D) (f:Fl)
noncomputable abbrev SM:=M3 Flw
noncomputable def tS (K:FG) (G0:Gm) (W0:D->Sto->Prop) (m:SM):TS:=fun E σ H=>∃ G W,Le K G W G0 W0/\∃ ρ T g r ρ',Wf K G H σ ρ T g/\m ρ=some (r,ρ')/\match r with
 | .ok .nx=>∀ σ' H' g',Wf K G H' σ' ρ' T g'->E.nx σ' H'
 | .ok .br=>∀ σ' H' g',Wf K G H' σ' ρ' T g'->E.bk σ' H'
 | .ok .ct=>∀ σ' H' g',Wf K G H' σ' ρ' T g'->E.ct σ' H'
 | .ok (.rt d f)=>∀ x σ' H' g',Wf K G H' σ' ρ' (x :: T) g'->x.d=d->x.f=f->E.rt x.v H'
 | .error e=>W e ρ'
section
variable {K:FG} {G G0:Gm} {W W0:D->Sto->Prop} {H H':Hp} {σ:St} {ρ ρ':Sto} {T T':List It3} {g:Nat->Option It3} {x y z:It3} {α β:Type}
theorem aW {r:R3} {k:D->M3 β} {o:Except D β} (e:ae (der r) k ρ=some (o,ρ')):∃ d,der r ρ=some (.ok d,ρ)/\k d ρ=some (o,ρ'):=by
 cases r with
 | pl i =>
  have er:der (.pl i) ρ=((ρ[i]?).join).map fun p=>(.ok p.1,ρ):=rfl
  unfold ae at e
  rw [er] at e ⊢
  cases h:(ρ[i]?).join with
  | none=>rw [h] at e;exact nsE e
  | some p=>rw [h] at e;exact ⟨p.1,rfl,e⟩
 | val d f=>exact ⟨d,rfl,e⟩
theorem bS {o:Option α} {r:Except D α} (e:bh o ρ=some (r,ρ')):∃ a,o=some a/\r=.ok a/\ρ' = ρ:=by
 unfold bh at e
 cases o with
 | none=>exact nsE e
 | some a=>cases e;exact ⟨a,rfl,rfl,rfl⟩
theorem Wf.slot (w:Wf K G H σ ρ T g) {i:Nat} {d:D} {f:Fl} (e:(ρ[i]?).join=some (d,f)):∃ y,g i=some y/\y.d=d/\y.f=f/\σ[i]?=some (some y.v):=by
 have h:=w.sl i
 rw [e] at h
 cases q:g i with
 | none=>rw [q] at h;exact nsE h
 | some y =>
  rw [q] at h
  cases h
  exact ⟨y,rfl,rfl,rfl,w.sv i y q⟩
theorem Ar.item {r:R3} {v:V} {Ts:List It3} {d:D} (w:Wf K G H σ ρ T g) (a:Ar σ r v Ts) (hs:∀ x ∈ Ts,x ∈ T) (e:der r ρ=some (.ok d,ρ)):∃ y,Itm T g y/\y.d=d/\y.v=v:=by
 cases a with
 | @pl i v h =>
  have er:der (.pl i) ρ=((ρ[i]?).join).map fun p=>(.ok p.1,ρ):=rfl
  rw [er] at e
  cases q:(ρ[i]?).join with
  | none=>rw [q] at e;exact nsE e
  | some p =>
   rw [q] at e
   obtain ⟨y,e1,e2,e3,e4⟩:=w.slot (d:=p.1) (f:=p.2) q
   have e5:p.1=d:=by cases e;rfl
   rw [h] at e4
   refine ⟨y,.inl ⟨i,e1⟩,e2.trans e5,?_⟩
   cases e4;rfl
 | val x=>cases e;exact ⟨x,.inr (hs x (by simp)),rfl,rfl⟩
theorem Wf.done {Us:List It3} {ys:List It3} (w:Wf K G H σ ρ (Us ++ T) g) (hy:∀ y ∈ ys,Itm (Us ++ T) g y) (n:New K H H' (dz ys) x):Got K G σ ρ T (.val x.d x.f) x.v H' :=
 ⟨[x],g,(w.push n fun c h=>w.kids hy h).sub (by simpa using List.Sublist.cons_cons x (Ag Us T)),.val x⟩
theorem tE.seq {ma:EM} {k:R3->M3 β} {r:Except D β} {P:VK} (le:Le K G W G0 W0) (w:Wf K G H σ ρ T g) (e:ae ma k ρ=some (r,ρ')) (he:∀ x,r=.error x->W x ρ')
  (h:∀ ra ρ1,k ra ρ1=some (r,ρ')->∀ v H1,Got K G σ ρ1 T ra v H1->P v H1):tE K G0 W0 ma σ H P:=by
 unfold ae at e
 cases q:ma ρ with
 | none=>rw [q] at e;exact nsE e
 | some p =>
  obtain ⟨o,ρ1⟩:=p
  rw [q] at e
  cases o with
  | error x=>cases e;exact ⟨G,W,le,ρ,T,g,.error x,ρ',w,q,he x rfl⟩
  | ok ra=>exact ⟨G,W,le,ρ,T,g,.ok ra,ρ1,w,q,h ra ρ1 e⟩
theorem tT.seq {ma:M3 Bool} {k:Bool->M3 β} {r:Except D β} {P:Bool->Hp->Prop} (le:Le K G W G0 W0) (w:Wf K G H σ ρ T g) (e:ae ma k ρ=some (r,ρ')) (he:∀ x,r=.error x->W x ρ')
  (h:∀ b ρ1,k b ρ1=some (r,ρ')->∀ H1 g1,Wf K G H1 σ ρ1 T g1->P b H1):tT K G0 W0 ma σ H P:=by
 unfold ae at e
 cases q:ma ρ with
 | none=>rw [q] at e;exact nsE e
 | some p =>
  obtain ⟨o,ρ1⟩:=p
  rw [q] at e
  cases o with
  | error x=>cases e;exact ⟨G,W,le,ρ,T,g,.error x,ρ',w,q,he x rfl⟩
  | ok ra=>exact ⟨G,W,le,ρ,T,g,.ok ra,ρ1,w,q,h ra ρ1 e⟩
theorem tA.seq {ma:M3 (List R3)} {k:List R3->M3 β} {r:Except D β} {P:List V->Hp->Prop} (le:Le K G W G0 W0) (w:Wf K G H σ ρ T g) (e:ae ma k ρ=some (r,ρ')) (he:∀ x,r=.error x->W x ρ')
  (h:∀ rs ρ1,k rs ρ1=some (r,ρ')->∀ vs H1 Ts g1,Wf K G H1 σ ρ1 (Ts ++ T) g1->Ars σ rs vs Ts->P vs H1):tA K G0 W0 ma σ H P:=by
 unfold ae at e
 cases q:ma ρ with
 | none=>rw [q] at e;exact nsE e
 | some p =>
  obtain ⟨o,ρ1⟩:=p
  rw [q] at e
  cases o with
  | error x=>cases e;exact ⟨G,W,le,ρ,T,g,.error x,ρ',w,q,he x rfl⟩
  | ok ra=>exact ⟨G,W,le,ρ,T,g,.ok ra,ρ1,w,q,h ra ρ1 e⟩
noncomputable def EndE (K:FG) (G:Gm) (W:D->Sto->Prop) (σ:St) (T:List It3) (ρ':Sto) (Q:VK):Except D R3->Prop
 | .ok r=>∀ v H',Got K G σ ρ' T r v H'->Q v H'
 | .error e=>W e ρ'
theorem EndE.err {Q:VK} {r:Except D R3} (h:EndE K G W σ T ρ' Q r):∀ x,r=.error x->W x ρ':=by
 intro x e;subst e;exact h
theorem tE.open {m:EM} {Q:VK} (h:tE K G0 W0 m σ H Q):∃ G W,Le K G W G0 W0/\∃ ρ T g r ρ',Wf K G H σ ρ T g/\m ρ=some (r,ρ')/\EndE K G W σ T ρ' Q r:=by
 obtain ⟨G,W,le,ρ,T,g,r,ρ',w,e,q⟩:=h
 refine ⟨G,W,le,ρ,T,g,r,ρ',w,e,?_⟩
 cases r with
 | ok r=>exact q
 | error x=>exact q
theorem tE.use {m:EM} {Q:VK} (h:tE K G0 W0 m σ H Q) {P:Prop} (k:∀ G W,Le K G W G0 W0->∀ ρ T g r ρ',Wf K G H σ ρ T g->m ρ=some (r,ρ')->EndE K G W σ T ρ' Q r->P):P:=by
 obtain ⟨G,W,le,ρ,T,g,r,ρ',w,e,q⟩:=h.open
 exact k G W le ρ T g r ρ' w e q
theorem tE.mk {m:EM} {Q:VK} {r:Except D R3} (le:Le K G W G0 W0) (w:Wf K G H σ ρ T g) (e:m ρ=some (r,ρ')) (h:EndE K G W σ T ρ' Q r):tE K G0 W0 m σ H Q:=by
 refine ⟨G,W,le,ρ,T,g,r,ρ',w,e,?_⟩
 cases r with
 | ok r=>exact h
 | error x=>exact h
noncomputable def ac (i:Nat):EM:=fun ρ=>((ρ[i]?).join).map fun _=>(.ok (.pl i),ρ)
theorem yk {i:Nat} {Q:VK} (h:tE K G0 W0 (ac i) σ H Q):qU i σ H Q:=by
 refine h.use fun G W le ρ T g r ρ' w e q=>?_
 unfold ac at e
 cases h:(ρ[i]?).join with
 | none=>rw [h] at e;exact nsE e
 | some p =>
  rw [h] at e
  cases e
  obtain ⟨y,_,_,_,e4⟩:=w.slot (d:=p.1) (f:=p.2) h
  exact ⟨y.v,e4,q y.v H ⟨[],g,w,.pl e4⟩⟩
noncomputable def mC (d:D):EM:=bb (.val d .z)
theorem Wf.const {d:D} {v:V} (w:Wf K G H σ ρ T g) (r:Rep K H d v []):Got K G σ ρ T (.val d .z) v H :=
 Wf.done (Us:=[]) (ys:=[]) (x:=⟨d,v,[],.z⟩) w (fun _ h=>(by cases h)) ⟨Same.refl _,r,fun _ h=>(by cases h),fun h=>absurd rfl h⟩
theorem fL {d:D} {v:V} {Q:VK} (r:∀ H,Rep K H d v []) (h:tE K G0 W0 (mC d) σ H Q):tC v σ H Q:=by
 refine h.use fun G W le ρ T g o ρ' w e q=>?_
 cases e
 exact q v H (w.const (r H))
noncomputable def ah (f:D->D->Option (D × Fl)) (ma mb:EM):EM:=ae ma fun ra=>ae mb fun rb=>ae (der ra) fun da=>ae (der rb) fun db=>bh ((f da db).map fun p=>R3.val p.1 p.2)
noncomputable def OpD (K:FG) (r:R2) (f:D->D->Option (D × Fl)):Prop:=∀ (a b:It3) (H:Hp) (Q:VK) (p:D × Fl),Arg K H a->Arg K H b->f a.d b.d=some p ->
 (∀ w H',New K H H' (dz [a,b]) w->w.d=p.1->w.f=p.2->Q w.v H')->r a.v b.v H Q
theorem og {Us:List It3} {ys:List It3} {Q:VK} {d:D} {f:Fl} (w:Wf K G H σ ρ (Us ++ T) g) (hy:∀ y ∈ ys,Itm (Us ++ T) g y) (q:EndE K G W σ T ρ Q (.ok (.val d f))) :
  ∀ w' H',New K H H' (dz ys) w'->w'.d=d->w'.f=f->Q w'.v H':=by
 intro w' H' n e1 e2
 subst e1 e2
 exact q w'.v H' (w.done hy n)
theorem jM {r:R2} {f:D->D->Option (D × Fl)} {ma mb:EM} {Q:VK} (ho:OpD K r f) (h:tE K G0 W0 (ah f ma mb) σ H Q):tOp r (tE K G0 W0 ma) (tE K G0 W0 mb) σ H Q:=by
 refine h.use fun G W le ρ T g o ρ' w e q=>?_
 refine tE.seq le w e q.err fun ra ρ1 e1 va H1 ⟨Ts,g1,w1,a1⟩=>?_
 refine tE.seq le w1 e1 q.err fun rb ρ2 e2 vb H2 ⟨Us,g2,w2,a2⟩=>?_
 obtain ⟨da,d1,e3⟩:=aW e2
 obtain ⟨db,d2,e4⟩:=aW e3
 obtain ⟨p,e5,rfl,rfl⟩:=bS e4
 obtain ⟨ya,i1,f1,f2⟩:=a1.item w2 (fun x hx=>z7 _ (z6 _ hx)) d1
 obtain ⟨yb,i2,f3,f4⟩:=a2.item w2 (fun x hx=>z6 _ hx) d2
 subst f1 f2 f3 f4
 cases ef:f ya.d yb.d with
 | none=>rw [ef] at e5;exact nsE e5
 | some s =>
  rw [ef] at e5
  cases e5
  rw [<- List.append_assoc] at w2 i1 i2
  refine ho ya yb H2 Q s (w2.itm i1).arg (w2.itm i2).arg ef (og w2 (fun y hy=>?_) q)
  rcases z8.mp hy with h | hy
  ·rw [h];exact i1
  ·rw [Az.mp hy];exact i2
noncomputable def mUn (f:D->Option (D × Fl)) (ma:EM):EM:=ae ma fun ra=>ae (der ra) fun da=>bh ((f da).map fun p=>R3.val p.1 p.2)
noncomputable def UnD (K:FG) (r:V->Hp->VK->Prop) (f:D->Option (D × Fl)):Prop:=∀ (a:It3) (H:Hp) (Q:VK) (p:D × Fl),Arg K H a->f a.d=some p ->
 (∀ w H',New K H H' (dz [a]) w->w.d=p.1->w.f=p.2->Q w.v H')->r a.v H Q
theorem xv {r:V->Hp->VK->Prop} {f:D->Option (D × Fl)} {ma:EM} {Q:VK} (ho:UnD K r f) (h:tE K G0 W0 (mUn f ma) σ H Q):tUn r (tE K G0 W0 ma) σ H Q:=by
 refine h.use fun G W le ρ T g o ρ' w e q=>?_
 refine tE.seq le w e q.err fun ra ρ1 e1 va H1 ⟨Ts,g1,w1,a1⟩=>?_
 obtain ⟨da,d1,e3⟩:=aW e1
 obtain ⟨p,e5,rfl,rfl⟩:=bS e3
 obtain ⟨ya,i1,f1,f2⟩:=a1.item w1 (fun x hx=>z6 _ hx) d1
 subst f1 f2
 cases ef:f ya.d with
 | none=>rw [ef] at e5;exact nsE e5
 | some s =>
  rw [ef] at e5
  cases e5
  exact ho ya H1 Q s (w1.itm i1).arg ef (og w1 (fun y hy=>by rw [Az.mp hy];exact i1) q)
noncomputable def aj:M3 (List R3):=bb []
noncomputable def ab (m:EM) (ms:M3 (List R3)):M3 (List R3):=ae m fun r=>ae ms fun rs=>bb (r :: rs)
noncomputable def EndA (K:FG) (G:Gm) (W:D->Sto->Prop) (σ:St) (T:List It3) (ρ':Sto) (Q:List V->Hp->Prop):Except D (List R3)->Prop
 | .ok rs=>∀ vs H' Ts g',Wf K G H' σ ρ' (Ts ++ T) g'->Ars σ rs vs Ts->Q vs H'
 | .error e=>W e ρ'
theorem EndA.err {Q:List V->Hp->Prop} {r:Except D (List R3)} (h:EndA K G W σ T ρ' Q r):∀ x,r=.error x->W x ρ':=by
 intro x e;subst e;exact h
theorem tA.open {m:M3 (List R3)} {Q:List V->Hp->Prop} (h:tA K G0 W0 m σ H Q):∃ G W,Le K G W G0 W0/\∃ ρ T g r ρ',Wf K G H σ ρ T g/\m ρ=some (r,ρ')/\EndA K G W σ T ρ' Q r:=by
 obtain ⟨G,W,le,ρ,T,g,r,ρ',w,e,q⟩:=h
 refine ⟨G,W,le,ρ,T,g,r,ρ',w,e,?_⟩
 cases r with
 | ok r=>exact q
 | error x=>exact q
theorem tA.use {m:M3 (List R3)} {Q:List V->Hp->Prop} (h:tA K G0 W0 m σ H Q) {P:Prop} (k:∀ G W,Le K G W G0 W0->∀ ρ T g r ρ',Wf K G H σ ρ T g->m ρ=some (r,ρ')->EndA K G W σ T ρ' Q r->P):P:=by
 obtain ⟨G,W,le,ρ,T,g,r,ρ',w,e,q⟩:=h.open
 exact k G W le ρ T g r ρ' w e q
theorem sP {Q:List V->Hp->Prop} (h:tA K G0 W0 aj σ H Q):vh σ H Q:=by
 refine h.use fun G W le ρ T g r ρ' w e q=>?_
 cases e
 exact q [] H [] g w .nil
theorem pR {m:EM} {ms:M3 (List R3)} {Q:List V->Hp->Prop} (h:tA K G0 W0 (ab m ms) σ H Q):mQ (tE K G0 W0 m) (tA K G0 W0 ms) σ H Q:=by
 refine h.use fun G W le ρ T g r ρ' w e q=>?_
 refine tE.seq le w e q.err fun ra ρ1 e1 va H1 ⟨Ts,g1,w1,a1⟩=>?_
 refine tA.seq le w1 e1 q.err fun rs ρ2 e2 vs H2 Us g2 w2 a2=>?_
 cases e2
 refine q (va :: vs) H2 (Us ++ Ts) g2 ?_ (.cons a1 a2)
 rw [List.append_assoc]
 exact w2
noncomputable def fD:List R3->M3 (List D)
 | []=>bb []
 | r :: rs=>ae (der r) fun d=>ae (fD rs) fun ds=>bb (d :: ds)
theorem qB:∀ {rs:List R3} {ρ ρ':Sto} {o:Except D (List D)},fD rs ρ=some (o,ρ')->∃ ds,o=.ok ds/\ρ' = ρ
 | [],ρ,ρ',o,e=>by cases e;exact ⟨[],rfl,rfl⟩
 | r :: rs,ρ,ρ',o,e=>by
  obtain ⟨d,e1,e2⟩:=aW (k:=fun d=>ae (fD rs) fun ds=>bb (d :: ds)) e
  unfold ae at e2
  cases q:fD rs ρ with
  | none=>rw [q] at e2;exact nsE e2
  | some p =>
   obtain ⟨o',ρ1⟩:=p
   obtain ⟨ds,rfl,rfl⟩:=qB q
   rw [q] at e2
   cases e2
   exact ⟨d :: ds,rfl,rfl⟩
theorem c7 {rs:List R3} {k:List D->M3 β} {o:Except D β} (e:ae (fD rs) k ρ=some (o,ρ')):∃ ds,fD rs ρ=some (.ok ds,ρ)/\k ds ρ=some (o,ρ'):=by
 unfold ae at e
 cases q:fD rs ρ with
 | none=>rw [q] at e;exact nsE e
 | some p =>
  obtain ⟨o',ρ1⟩:=p
  obtain ⟨ds,rfl,rfl⟩:=qB q
  rw [q] at e
  exact ⟨ds,rfl,e⟩
theorem Ars.items:∀ {rs:List R3} {vs:List V} {Ts:List It3} {ds:List D} ,Wf K G H σ ρ T g->Ars σ rs vs Ts->(∀ x ∈ Ts,x ∈ T)->fD rs ρ=some (.ok ds,ρ)->∃ ys:List It3,(∀ y ∈ ys,Itm T g y)/\ys.map (·.d)=ds/\ys.map (·.v)=vs
 | [],_,_,ds,w,.nil,_,e=>by cases e;exact ⟨[],fun _ h=>(by cases h),rfl,rfl⟩
 | r :: rs,_,_,ds,w,.cons a as,hs,e=>by
  obtain ⟨d,e1,e2⟩:=aW (k:=fun d=>ae (fD rs) fun ds=>bb (d :: ds)) e
  obtain ⟨ds',e3,e4⟩:=c7 e2
  cases e4
  obtain ⟨y,i1,f1,f2⟩:=a.item w (fun x hx=>hs x (z7 _ hx)) e1
  obtain ⟨ys,i2,f3,f4⟩:=Ars.items w as (fun x hx=>hs x (z6 _ hx)) e3
  refine ⟨y :: ys,fun z hz=>?_,by simp [f1,f3],by simp [f2,f4]⟩
  rcases z8.mp hz with h | hz
  ·rw [h];exact i1
  ·exact i2 z hz
noncomputable def aB (f:List D->Option (D × Fl)) (ms:M3 (List R3)):EM:=ae ms fun rs=>ae (fD rs) fun ds=>bh ((f ds).map fun p=>R3.val p.1 p.2)
noncomputable def ff (K:FG) (r:List V->Hp->VK->Prop) (f:List D->Option (D × Fl)):Prop:=∀ (ys:List It3) (H:Hp) (Q:VK) (p:D × Fl),(∀ y ∈ ys,Arg K H y)->f (ys.map (·.d))=some p ->
 (∀ w H',New K H H' (dz ys) w->w.d=p.1->w.f=p.2->Q w.v H')->r (ys.map (·.v)) H Q
theorem jL {r:List V->Hp->VK->Prop} {f:List D->Option (D × Fl)} {ms:M3 (List R3)} {Q:VK} (ho:ff K r f) (h:tE K G0 W0 (aB f ms) σ H Q):tCB r (tA K G0 W0 ms) σ H Q:=by
 refine h.use fun G W le ρ T g o ρ' w e q=>?_
 refine tA.seq le w e q.err fun rs ρ1 e1 vs H1 Ts g1 w1 a1=>?_
 obtain ⟨ds,d1,e2⟩:=c7 e1
 obtain ⟨p,e5,rfl,rfl⟩:=bS e2
 obtain ⟨ys,i1,f1,f2⟩:=a1.items w1 (fun x hx=>z6 _ hx) d1
 subst f1 f2
 cases ef:f (ys.map (·.d)) with
 | none=>rw [ef] at e5;exact nsE e5
 | some s =>
  rw [ef] at e5
  cases e5
  exact ho ys H1 Q s (fun y hy=>(w1.itm (i1 y hy)).arg) ef (og w1 i1 q)
noncomputable def asB:D->Option Bool
 | .bl b=>some b
 | _=>none
noncomputable def ip (ma mb:EM):EM:=ae ma fun ra=>ae (der ra) fun d=>ae (bh (asB d)) fun b=>if b then mb else bb (.val (.bl false) .z)
noncomputable def zr (ma:EM):EM:=ae ma fun ra=>ae (der ra) fun d=>ae (bh (asB d)) fun b=>bb (.val (.bl (!b)) .z)
theorem iR {o:Option α} {k:α->M3 β} {r:Except D β} (e:ae (bh o) k ρ=some (r,ρ')):∃ a,o=some a/\k a ρ=some (r,ρ'):=by
 unfold ae bh at e
 cases o with
 | none=>exact nsE e
 | some a=>exact ⟨a,rfl,e⟩
theorem uW {d:D} {b:Bool} (e:asB d=some b):d=.bl b:=by
 cases d <;> first | exact nsE e | cases e
 rfl
theorem Rep.bl_eq {b:Bool} {v:V} {L:List Addr} (r:Rep K H (.bl b) v L):v=.bl b/\L=[]:=by cases r;exact ⟨rfl,rfl⟩
theorem Ar.bool {ra:R3} {v:V} {Ts:List It3} {d:D} {b:Bool} (w:Wf K G H σ ρ (Ts ++ T) g) (a:Ar σ ra v Ts) (e:der ra ρ=some (.ok d,ρ)) (hb:asB d=some b):v=.bl b:=by
 obtain ⟨y,i1,f1,f2⟩:=a.item w (fun x hx=>z6 _ hx) e
 have r:=(w.itm i1).rep
 rw [f1,uW hb] at r
 rw [<- f2]
 exact r.bl_eq.1
theorem yp {ma mb:EM} {Q:VK} (h:tE K G0 W0 (ip ma mb) σ H Q):xy (tE K G0 W0 ma) (tE K G0 W0 mb) σ H Q:=by
 refine h.use fun G W le ρ T g o ρ' w e q=>?_
 refine tE.seq le w e q.err fun ra ρ1 e1 va H1 ⟨Ts,g1,w1,a1⟩=>?_
 obtain ⟨d,d1,e2⟩:=aW e1
 obtain ⟨b,hb,e3⟩:=iR e2
 refine ⟨b,a1.bool w1 d1 hb,?_⟩
 have w2:=w1.sub (Ag Ts T)
 cases b with
 | true=>exact tE.mk le w2 e3 q
 | false=>cases e3;exact q _ _ (w2.const (.bl false))
theorem ym {ma:EM} {Q:VK} (h:tE K G0 W0 (zr ma) σ H Q):xt (tE K G0 W0 ma) σ H Q:=by
 refine h.use fun G W le ρ T g o ρ' w e q=>?_
 refine tE.seq le w e q.err fun ra ρ1 e1 va H1 ⟨Ts,g1,w1,a1⟩=>?_
 obtain ⟨d,d1,e2⟩:=aW e1
 obtain ⟨b,hb,e3⟩:=iR e2
 refine ⟨b,a1.bool w1 d1 hb,?_⟩
 have w2:=w1.sub (Ag Ts T)
 cases e3;exact q _ _ (w2.const (.bl (!b)))
noncomputable def EndT (K:FG) (G:Gm) (W:D->Sto->Prop) (σ:St) (T:List It3) (ρ':Sto) (Q:Bool->Hp->Prop):Except D Bool->Prop
 | .ok b=>∀ H' g',Wf K G H' σ ρ' T g'->Q b H'
 | .error e=>W e ρ'
theorem EndT.err {Q:Bool->Hp->Prop} {r:Except D Bool} (h:EndT K G W σ T ρ' Q r):∀ x,r=.error x->W x ρ':=by
 intro x e;subst e;exact h
theorem tT.open {m:M3 Bool} {Q:Bool->Hp->Prop} (h:tT K G0 W0 m σ H Q):∃ G W,Le K G W G0 W0/\∃ ρ T g r ρ',Wf K G H σ ρ T g/\m ρ=some (r,ρ')/\EndT K G W σ T ρ' Q r:=by
 obtain ⟨G,W,le,ρ,T,g,r,ρ',w,e,q⟩:=h
 refine ⟨G,W,le,ρ,T,g,r,ρ',w,e,?_⟩
 cases r with
 | ok r=>exact q
 | error x=>exact q
theorem tT.use {m:M3 Bool} {Q:Bool->Hp->Prop} (h:tT K G0 W0 m σ H Q) {P:Prop} (k:∀ G W,Le K G W G0 W0->∀ ρ T g r ρ',Wf K G H σ ρ T g->m ρ=some (r,ρ')->EndT K G W σ T ρ' Q r->P):P:=by
 obtain ⟨G,W,le,ρ,T,g,r,ρ',w,e,q⟩:=h.open
 exact k G W le ρ T g r ρ' w e q
theorem tT.mk {m:M3 Bool} {Q:Bool->Hp->Prop} {r:Except D Bool} (le:Le K G W G0 W0) (w:Wf K G H σ ρ T g) (e:m ρ=some (r,ρ')) (h:EndT K G W σ T ρ' Q r):tT K G0 W0 m σ H Q:=by
 refine ⟨G,W,le,ρ,T,g,r,ρ',w,e,?_⟩
 cases r with
 | ok r=>exact h
 | error x=>exact h
noncomputable def cB (m:EM):M3 Bool:=ae m fun r=>ae (der r) fun d=>bh (asB d)
theorem xW {m:EM} {Q:Bool->Hp->Prop} (h:tT K G0 W0 (cB m) σ H Q):tB (tE K G0 W0 m) σ H Q:=by
 refine h.use fun G W le ρ T g o ρ' w e q=>?_
 refine tE.seq le w e q.err fun ra ρ1 e1 va H1 ⟨Ts,g1,w1,a1⟩=>?_
 obtain ⟨d,d1,e2⟩:=aW e1
 obtain ⟨b,hb,rfl,rfl⟩:=bS e2
 exact ⟨b,a1.bool w1 d1 hb,q _ _ (w1.sub (Ag Ts T))⟩
noncomputable def pI (a b:M3 Bool):M3 Bool:=ae a fun c=>if c then b else bb false
noncomputable def cOr (a b:M3 Bool):M3 Bool:=ae a fun c=>if c then bb true else b
noncomputable def kH (a:M3 Bool):M3 Bool:=ae a fun c=>bb (!c)
theorem xX {a b:M3 Bool} {Q:Bool->Hp->Prop} (h:tT K G0 W0 (pI a b) σ H Q):tAnd (tT K G0 W0 a) (tT K G0 W0 b) σ H Q:=by
 refine h.use fun G W le ρ T g o ρ' w e q=>?_
 refine tT.seq le w e q.err fun c ρ1 e1 H1 g1 w1=>?_
 cases c with
 | true=>exact tT.mk le w1 e1 q
 | false=>cases e1;exact q _ _ w1
theorem tT_or {a b:M3 Bool} {Q:Bool->Hp->Prop} (h:tT K G0 W0 (cOr a b) σ H Q):tOr (tT K G0 W0 a) (tT K G0 W0 b) σ H Q:=by
 refine h.use fun G W le ρ T g o ρ' w e q=>?_
 refine tT.seq le w e q.err fun c ρ1 e1 H1 g1 w1=>?_
 cases c with
 | false=>exact tT.mk le w1 e1 q
 | true=>cases e1;exact q _ _ w1
theorem xV {a:M3 Bool} {Q:Bool->Hp->Prop} (h:tT K G0 W0 (kH a) σ H Q):tNot (tT K G0 W0 a) σ H Q:=by
 refine h.use fun G W le ρ T g o ρ' w e q=>?_
 refine tT.seq le w e q.err fun c ρ1 e1 H1 g1 w1=>?_
 cases e1;exact q _ _ w1
noncomputable def mIf (c:M3 Bool) (ma mb:EM):EM:=ae c fun b=>if b then ma else mb
theorem tE_if {c:M3 Bool} {ma mb:EM} {Q:VK} (h:tE K G0 W0 (mIf c ma mb) σ H Q):tIf (tT K G0 W0 c) (tE K G0 W0 ma) (tE K G0 W0 mb) σ H Q:=by
 refine h.use fun G W le ρ T g o ρ' w e q=>?_
 refine tT.seq le w e q.err fun c ρ1 e1 H1 g1 w1=>?_
 cases c with
 | true=>exact tE.mk le w1 e1 q
 | false=>exact tE.mk le w1 e1 q
end
end L3
end
section
namespace L3
open PySem L2
noncomputable def c5 (x:It3):It3:={ x with f:=.z }
theorem cU {x y:It3}:NoRoot (c5 x) y:=fun h=>absurd rfl h
noncomputable def lowAt (i:Nat) (ρ:Sto):Sto:=match (ρ[i]?).join with
 | some (d,.u)=>ρ.set i (some (d,.z))
 | some (d,.l)=>ρ.set i (some (d,.z))
 | _=>ρ
noncomputable def frz (is:List Nat) (ρ:Sto):Sto:=is.foldl (fun ρ i=>lowAt i ρ) ρ
noncomputable def frz3 (is:List Nat):M3 Unit:=fun ρ=>some (.ok (),frz is ρ)
noncomputable def pls:List R3->List Nat
 | []=>[]
 | .pl i :: rs=>i :: pls rs
 | .val _ _ :: rs=>pls rs
section
variable {K:FG} {G G0:Gm} {W W0:D->Sto->Prop} {H H':Hp} {σ:St} {ρ ρ':Sto} {T T':List It3} {g:Nat->Option It3} {x y z:It3} {α β:Type}
theorem ItOk.low (h:ItOk K G H x):ItOk K G H (c5 x):=⟨h.rep,fun q=>absurd rfl q,h.src⟩
theorem bX {ρ:Sto} {i j:Nat} {o:Option (D × Fl)} (hi:i < ρ.length):((ρ.set i o)[j]?).join=if j=i then o else (ρ[j]?).join:=by
 by_cases e:j=i
 ·subst e
  rw [if_pos rfl,List.getElem?_set_self hi]
  rfl
 ·rw [if_neg e,List.getElem?_set_ne (fun h=>e h.symm)]
theorem dM {ρ:Sto} {i:Nat} {p:D × Fl} (h:(ρ[i]?).join=some p):i < ρ.length:=by
 cases q:ρ[i]? with
 | none=>rw [q] at h;exact nsE h
 | some o=>exact (Ae.mp q).1
theorem Wf.lowSlot (w:Wf K G H σ ρ T g) {i:Nat} {d:D} {f:Fl} (e:(ρ[i]?).join=some (d,f)):Wf K G H σ (ρ.set i (some (d,.z))) T (fun j=>if j=i then (g i).map c5 else g j):=by
 have hi:=dM e
 obtain ⟨y,gy,ed,ef,ev⟩:=w.slot e
 have val:∀ j x,(if j=i then (g i).map c5 else g j)=some x->∃ x0,g j=some x0/\(x=x0\/x=c5 x0)/\(j=i->x=c5 x0):=fun j x h=>by
  by_cases q:j=i
  ·subst q
   rw [if_pos rfl,gy] at h
   cases h
   exact ⟨y,gy,.inr rfl,fun _=>rfl⟩
  ·rw [if_neg q] at h
   exact ⟨x,h,.inl rfl,fun z=>absurd z q⟩
 have nr:∀ {a b:It3},NoRoot a b->∀ a' b',(a'=a\/a'=c5 a)->(b'=b\/b'=c5 b)->NoRoot a' b':=fun h a' b' h1 h2=>by
  rcases h1 with rfl | rfl
  ·rcases h2 with rfl | rfl
   ·exact h
   ·exact h
  ·exact cU
 refine ⟨by rw [List.length_set];exact w.len,fun j=>?_,fun j x h=>?_,fun j x h=>?_,w.okT,fun j k a b n h1 h2=>?_,fun j a h b hb=>?_,w.tt,w.base,w.pro,⟨w.fx.frT,fun j x h hp hf a ea=>?_,w.fx.bin,w.fx.ob,fun j x h hl=>?_⟩⟩
 ·rw [bX hi]
  by_cases q:j=i
  ·subst q
   rw [if_pos rfl,if_pos rfl,gy]
   show some ((c5 y).d,Fl.z)=_
   rw [<- ed];rfl
  ·rw [if_neg q,if_neg q];exact w.sl j
 ·obtain ⟨x0,h0,hx,_⟩:=val j x h
  have:=w.sv j x0 h0
  rcases hx with rfl | rfl <;> exact this
 ·obtain ⟨x0,h0,hx,_⟩:=val j x h
  rcases hx with rfl | rfl
  ·exact w.okS j x h0
  ·exact (w.okS j x0 h0).low
 ·obtain ⟨a0,h0,ha,_⟩:=val j a h1
  obtain ⟨b0,h0',hb,_⟩:=val k b h2
  exact nr (w.ss j k a0 b0 n h0 h0') a b ha hb
 ·obtain ⟨a0,h0,ha,_⟩:=val j a h
  exact ⟨nr (w.st j a0 h0 b hb).1 a b ha (.inl rfl),nr (w.st j a0 h0 b hb).2 b a (.inl rfl) ha⟩
 ·obtain ⟨x0,h0,hx,_⟩:=val j x h
  rcases hx with rfl | rfl
  ·exact w.fx.frS j x h0 hp hf a ea
  ·exact absurd rfl hf
 ·obtain ⟨x0,h0,hx,_⟩:=val j x h
  rcases hx with rfl | rfl
  ·exact w.fx.lvS j x h0 hl
  ·cases hl
noncomputable def Kin (x y:It3):Prop:=y.d=x.d/\y.v=x.v/\y.L=x.L/\(y.f=x.f\/y.f=.z)
theorem Kin.refl (x:It3):Kin x x:=⟨rfl,rfl,rfl,.inl rfl⟩
theorem Kin.trans (a:Kin x y) (b:Kin y z):Kin x z:=⟨b.1.trans a.1,b.2.1.trans a.2.1,b.2.2.1.trans a.2.2.1,by
 rcases b.2.2.2 with h | h
 ·rcases a.2.2.2 with h' | h'
  ·exact .inl (h.trans h')
  ·exact .inr (h.trans h')
 ·exact .inr h⟩
theorem Wf.lowAt {i:Nat} (w:Wf K G H σ ρ T g):∃ g',Wf K G H σ (lowAt i ρ) T g'/\(∀ j y,g j=some y->∃ y',g' j=some y'/\Kin y y'/\(j=i->y'.f=.z)):=by
 have keep:∀ d,(ρ[i]?).join=some (d,.z)->∃ g',Wf K G H σ ρ T g'/\(∀ j y,g j=some y->∃ y',g' j=some y'/\Kin y y'/\(j=i->y'.f=.z)):=fun d e=>⟨g,w,fun j y h=>⟨y,h,Kin.refl y,fun q=>by
  subst q
  obtain ⟨y',h',_,hf,_⟩:=w.slot e
  rw [h] at h';cases h';exact hf⟩⟩
 have low:∀ d f,(ρ[i]?).join=some (d,f)->∃ g',Wf K G H σ (ρ.set i (some (d,.z))) T g'/\(∀ j y,g j=some y->∃ y',g' j=some y'/\Kin y y'/\(j=i->y'.f=.z)):=fun d f e=>⟨_,w.lowSlot e,fun j y h=>by
  by_cases q:j=i
  ·subst q;exact ⟨c5 y,by rw [if_pos rfl,h];rfl,⟨rfl,rfl,rfl,.inr rfl⟩,fun _=>rfl⟩
  ·exact ⟨y,by rw [if_neg q];exact h,Kin.refl y,fun z=>absurd z q⟩⟩
 unfold L3.lowAt
 cases e:(ρ[i]?).join with
 | none =>
  refine ⟨g,w,fun j y h=>⟨y,h,Kin.refl y,fun q=>?_⟩⟩
  subst q
  have:=w.sl j
  rw [h,e] at this;cases this
 | some p =>
  obtain ⟨d,f⟩:=p
  cases f with
  | u=>exact low d _ e
  | l=>exact low d _ e
  | z=>exact keep d e
theorem Wf.frz:∀ {is:List Nat} {ρ:Sto} {g:Nat->Option It3},Wf K G H σ ρ T g->∃ g',Wf K G H σ (frz is ρ) T g'/\(∀ j y,g j=some y->∃ y',g' j=some y'/\Kin y y'/\(j ∈ is->y'.f=.z))
 | [],ρ,g,w=>⟨g,w,fun j y h=>⟨y,h,Kin.refl y,fun q=>by cases q⟩⟩
 | i :: is,ρ,g,w=>by
  obtain ⟨g1,w1,h1⟩:=w.lowAt (i:=i)
  obtain ⟨g2,w2,h2⟩:=Wf.frz (is:=is) w1
  refine ⟨g2,w2,fun j y h=>?_⟩
  obtain ⟨y1,e1,k1,z1⟩:=h1 j y h
  obtain ⟨y2,e2,k2,z2⟩:=h2 j y1 e1
  refine ⟨y2,e2,k1.trans k2,fun hm=>?_⟩
  rcases z8.mp hm with q | q
  ·rcases k2.2.2.2 with h | h
   ·exact h.trans (z1 q)
   ·exact h
  ·exact z2 q
theorem Wf.lowT {Ts:List It3} (w:Wf K G H σ ρ (Ts ++ T) g):Wf K G H σ ρ (Ts.map c5 ++ T) g:=by
 have sp:∀ {a b:It3},Apart3 a b->Apart3 (c5 a) (c5 b):=fun h=>⟨cU,cU⟩
 refine ⟨w.len,w.sl,w.sv,w.okS,fun x hx=>?_,w.ss,fun i x e y hy=>?_,?_,w.base,w.pro,⟨fun x hx hf a ea=>?_,w.fx.frS,w.fx.bin,w.fx.ob,w.fx.lvS⟩⟩
 ·rcases Ab.mp hx with h | h
  ·obtain ⟨x0,h0,rfl⟩:=Ah.mp h
   exact (w.okT x0 (z6 _ h0)).low
  ·exact w.okT x (z7 _ h)
 ·rcases Ab.mp hy with h | h
  ·obtain ⟨y0,h0,rfl⟩:=Ah.mp h
   exact ⟨(w.st i x e y0 (z6 _ h0)).1,cU⟩
  ·exact w.st i x e y (z7 _ h)
 ·have h:=List.pairwise_append.mp w.tt
  refine List.pairwise_append.mpr ⟨?_,h.2.1,fun a ha b hb=>?_⟩
  ·rw [List.pairwise_map]
   exact h.1.imp fun h=>sp h
  ·obtain ⟨a0,h0,rfl⟩:=Ah.mp ha
   exact ⟨cU,(h.2.2 a0 h0 b hb).2⟩
 ·rcases Ab.mp hx with h | h
  ·obtain ⟨x0,h0,rfl⟩:=Ah.mp h
   exact absurd rfl hf
  ·exact w.fx.frT x (z7 _ h) hf a ea
theorem jC:∀ {rs:List R3} {i:Nat},R3.pl i ∈ rs->i ∈ pls rs
 | [],_,h=>by cases h
 | .pl j :: rs,i,h=>by
  rcases z8.mp h with e | h
  ·cases e;exact zY
  ·exact zZ _ (jC h)
 | .val _ _ :: rs,i,h=>by
  rcases z8.mp h with e | h
  ·cases e
  ·exact jC (rs:=rs) h
theorem Ars.given:∀ {rs:List R3} {vs:List V} {Ts:List It3} {ds:List D} {S:List It3} {g':Nat->Option It3} {is:List Nat},Wf K G H σ ρ T g->(∀ j y,g j=some y->∃ y',g' j=some y'/\Kin y y'/\(j ∈ is->y'.f=.z))->(∀ i,R3.pl i ∈ rs->i ∈ is) ->
  Ars σ rs vs Ts->(∀ x ∈ Ts,x ∈ T)->(∀ x ∈ Ts,c5 x ∈ S)->fD rs ρ=some (.ok ds,ρ)->∃ ys:List It3,(∀ y ∈ ys,Itm S g' y/\y.f=.z)/\ys.map (·.d)=ds/\ys.map (·.v)=vs
 | [],_,_,ds,S,g',is,w,hg,hi,.nil,_,_,e=>by cases e;exact ⟨[],fun _ h=>(by cases h),rfl,rfl⟩
 | r :: rs,_,_,ds,S,g',is,w,hg,hi,.cons (v:=v0) a as,hs,hS,e=>by
  obtain ⟨d,e1,e2⟩:=aW (k:=fun d=>ae (fD rs) fun ds=>bb (d :: ds)) e
  obtain ⟨ds',e3,e4⟩:=c7 e2
  cases e4
  obtain ⟨ys,i2,f3,f4⟩:=Ars.given w hg (fun i h=>hi i (zZ _ h)) as (fun x hx=>hs x (z6 _ hx)) (fun x hx=>hS x (z6 _ hx)) e3
  have one:∃ y,(Itm S g' y/\y.f=.z)/\y.d=d/\y.v=v0:=by
   cases a with
   | @pl i v h =>
    have er:der (.pl i) ρ=((ρ[i]?).join).map fun p=>(.ok p.1,ρ):=rfl
    rw [er] at e1
    cases q:(ρ[i]?).join with
    | none=>rw [q] at e1;exact nsE e1
    | some p =>
     rw [q] at e1
     obtain ⟨y,y1,y2,y3,y4⟩:=w.slot (d:=p.1) (f:=p.2) q
     obtain ⟨y',h1,h2,h3⟩:=hg i y y1
     have e5:p.1=d:=by cases e1;rfl
     rw [h] at y4
     refine ⟨y',⟨.inl ⟨i,h1⟩,h3 (hi i zY)⟩,h2.1.trans (y2.trans e5),?_⟩
     rw [h2.2.1];cases y4;rfl
   | val x=>cases e1;exact ⟨c5 x,⟨.inr (hS x (by simp)),rfl⟩,rfl,rfl⟩
  obtain ⟨y,i1,f1,f2⟩:=one
  refine ⟨y :: ys,fun z hz=>?_,by simp [f1,f3],by simp [f2,f4]⟩
  rcases z8.mp hz with h | hz
  ·rw [h];exact i1
  ·exact i2 z hz
noncomputable def dC (ys:List It3) (c:Addr):Prop:=∃ y ∈ ys,c ∈ y.L
noncomputable def gives (rs:List R3):M3 (List D):=ae (fD rs) fun ds=>ae (frz3 (pls rs)) fun _=>bb ds
theorem Ars.gives {rs:List R3} {vs:List V} {Ts:List It3} {k:List D->M3 β} {r:Except D β} (w:Wf K G H σ ρ (Ts ++ T) g) (a:Ars σ rs vs Ts) (e:ae (gives rs) k ρ=some (r,ρ')) :
  ∃ ds ρ1 g1,k ds ρ1=some (r,ρ')/\ρ1=frz (pls rs) ρ/\Wf K G H σ ρ1 (Ts.map c5 ++ T) g1/\(∀ j y,g j=some y->∃ y',g1 j=some y'/\Kin y y')/\∃ ys:List It3,(∀ y ∈ ys,Itm (Ts.map c5 ++ T) g1 y/\y.f=.z)/\ys.map (·.d)=ds/\ys.map (·.v)=vs:=by
 unfold L3.gives at e
 have e0:ae (fD rs) (fun ds=>ae (frz3 (pls rs)) fun _=>k ds) ρ=some (r,ρ'):=by
  rw [<- e]
  unfold ae
  cases q:fD rs ρ with
  | none=>rfl
  | some p =>
   obtain ⟨o,ρ2⟩:=p
   cases o with
   | error x=>rfl
   | ok ds=>rfl
 obtain ⟨ds,d1,e1⟩:=c7 e0
 obtain ⟨g1,w1,h1⟩:=Wf.frz (is:=pls rs) w
 refine ⟨ds,L3.frz (pls rs) ρ,g1,e1,rfl,w1.lowT,fun j y h=>let ⟨y',a,b,_⟩:=h1 j y h;⟨y',a,b⟩,?_⟩
 exact Ars.given w h1 (fun i h=>jC h) a (fun x hx=>z6 _ hx) (fun x hx=>z6 _ (Ah.mpr ⟨x,hx,rfl⟩)) d1
theorem Wf.alls (w:Wf K G H σ ρ T g) {ys:List It3} (hy:∀ y ∈ ys,Itm T g y/\y.f=.z) {c:Addr} (h:dC ys c):dN T g c/\(G.H0 c=none\/G.src c):=by
 obtain ⟨y,m,hc⟩:=h
 exact ⟨w.kid (hy y m).1 hc fun hf=>absurd (hy y m).2 hf,(w.itm (hy y m).1).src c hc⟩
theorem Wf.doneA {Us:List It3} {ys:List It3} (w:Wf K G H σ ρ (Us ++ T) g) (hy:∀ y ∈ ys,Itm (Us ++ T) g y/\y.f=.z) (n:New K H H' (dC ys) x):Got K G σ ρ T (.val x.d x.f) x.v H' :=
 ⟨[x],g,(w.push n fun c h=>w.alls hy h).sub (by simpa using List.Sublist.cons_cons x (Ag Us T)),.val x⟩
theorem jA:∀ {ys:List It3},(∀ y ∈ ys,Rep K H y.d y.v y.L)->Reps (Rep K H) (ys.map (·.d)) (ys.map (·.v)) (ys.map (·.L)).flatten
 | [],_=>.nil
 | y :: ys,h=>.cons (h y zY) (jA fun z hz=>h z (zZ _ hz))
theorem eS {ys:List It3} {c:Addr} (h:c ∈ (ys.map (·.L)).flatten):dC ys c:=by
 obtain ⟨l,hl,hc⟩:=List.mem_flatten.mp h
 obtain ⟨y,hy,rfl⟩:=Ah.mp hl
 exact ⟨y,hy,hc⟩
noncomputable def wK (mk:List D->D) (f:Fl) (ms:M3 (List R3)):EM:=ae ms fun rs=>ae (gives rs) fun ds=>bh (if ds.length<=16777216 then some (.val (mk ds) f) else none)
noncomputable abbrev bW:M3 (List R3)->EM:=wK .tup .z
noncomputable abbrev jq:M3 (List R3)->EM:=wK .lst .u
theorem bK {H:Hp} {p:Addr} {o:HO} (h:H p=none):Same H (upd H p o):=fun b u e=>by
 rw [aJ (bd e h)];exact e
set_option tactic.hygienic true in
theorem yl (hz:(16777216:Nat)=sizeLine) {ms:M3 (List R3)} {Q:VK} (h:tE K G0 W0 (bW ms) σ H Q):tTup (tA K G0 W0 ms) σ H Q:=by
 refine h.use fun G W le ρ T g o ρ' w e q=>?_
 refine tA.seq le w e q.err fun rs ρ1 e1 vs H1 Ts g1 w1 a1=>?_
 obtain ⟨ds,ρ2,g2,e2,_,w2,_,ys,hy,f1,f2⟩:=a1.gives w1 e1
 obtain ⟨v,e3,rfl,rfl⟩:=bS e2
 subst f1 f2
 split at e3
 ·rename_i hl
  cases e3
  refine ⟨by rw [Ad] at hl ⊢;omega,fun p hp=>?_⟩
  refine q _ _ (Wf.doneA (x:=⟨.tup (ys.map (·.d)),.ref p,(ys.map (·.L)).flatten,.z⟩) w2 hy ⟨bK hp,.tup bc ((jA fun y hy'=>(w2.itm (hy y hy').1).rep).same (bK hp)),fun c hc=>.inr (eS hc),fun hf=>absurd rfl hf⟩)
 ·exact nsE e3
set_option tactic.hygienic true in
theorem yo (hz:(16777216:Nat)=sizeLine) {ms:M3 (List R3)} {Q:VK} (h:tE K G0 W0 (jq ms) σ H Q):tLst (tA K G0 W0 ms) σ H Q:=by
 refine h.use fun G W le ρ T g o ρ' w e q=>?_
 refine tA.seq le w e q.err fun rs ρ1 e1 vs H1 Ts g1 w1 a1=>?_
 obtain ⟨ds,ρ2,g2,e2,_,w2,_,ys,hy,f1,f2⟩:=a1.gives w1 e1
 obtain ⟨v,e3,rfl,rfl⟩:=bS e2
 subst f1 f2
 split at e3
 ·rename_i hl
  cases e3
  refine ⟨by rw [Ad] at hl ⊢;omega,fun p hp=>?_⟩
  have np:p ∉ (ys.map (·.L)).flatten:=fun hc=>by
   obtain ⟨y,hm,hc⟩:=eS hc
   obtain ⟨o,ho⟩:=((w2.itm (hy y hm).1).rep.inH p hc).ex
   rw [hp] at ho;exact nsE ho
  refine q _ _ (Wf.doneA (x:=⟨.lst (ys.map (·.d)),.ref p,p :: (ys.map (·.L)).flatten,.u⟩) w2 hy ⟨bK hp,.lst bc ((jA fun y hy'=>(w2.itm (hy y hy').1).rep).same (bK hp)),fun c hc=>?_,fun _=>⟨rfl,p,_,rfl,rfl,np,hp⟩⟩)
  rcases z8.mp hc with e | hc
  ·rw [e];exact .inl hp
  ·exact .inr (eS hc)
 ·exact nsE e3
end
end L3
end
section
namespace L3
open PySem L2
section
variable {K:FG} {G G0:Gm} {W W0:D->Sto->Prop} {H H':Hp} {σ:St} {ρ ρ':Sto} {T T':List It3} {g:Nat->Option It3} {x y z:It3} {α β:Type}
noncomputable def EndS (K:FG) (G:Gm) (W:D->Sto->Prop) (T:List It3) (ρ':Sto) (E:Ends):Except D Flw->Prop
 | .ok .nx=>∀ σ' H' g',Wf K G H' σ' ρ' T g'->E.nx σ' H'
 | .ok .br=>∀ σ' H' g',Wf K G H' σ' ρ' T g'->E.bk σ' H'
 | .ok .ct=>∀ σ' H' g',Wf K G H' σ' ρ' T g'->E.ct σ' H'
 | .ok (.rt d f)=>∀ x σ' H' g',Wf K G H' σ' ρ' (x :: T) g'->x.d=d->x.f=f->E.rt x.v H'
 | .error e=>W e ρ'
theorem EndS.err {E:Ends} {r:Except D Flw} (h:EndS K G W T ρ' E r):∀ x,r=.error x->W x ρ':=by
 intro x e;subst e;exact h
theorem tS.open {m:SM} {E:Ends} (h:tS K G0 W0 m E σ H):∃ G W,Le K G W G0 W0/\∃ ρ T g r ρ',Wf K G H σ ρ T g/\m ρ=some (r,ρ')/\EndS K G W T ρ' E r:=by
 obtain ⟨G,W,le,ρ,T,g,r,ρ',w,e,q⟩:=h
 refine ⟨G,W,le,ρ,T,g,r,ρ',w,e,?_⟩
 cases r with
 | ok r=>cases r <;> exact q
 | error x=>exact q
theorem tS.use {m:SM} {E:Ends} (h:tS K G0 W0 m E σ H) {P:Prop} (k:∀ G W,Le K G W G0 W0->∀ ρ T g r ρ',Wf K G H σ ρ T g->m ρ=some (r,ρ')->EndS K G W T ρ' E r->P):P:=by
 obtain ⟨G,W,le,ρ,T,g,r,ρ',w,e,q⟩:=h.open
 exact k G W le ρ T g r ρ' w e q
theorem tS.mk {m:SM} {E:Ends} {r:Except D Flw} (le:Le K G W G0 W0) (w:Wf K G H σ ρ T g) (e:m ρ=some (r,ρ')) (h:EndS K G W T ρ' E r):tS K G0 W0 m E σ H:=by
 refine ⟨G,W,le,ρ,T,g,r,ρ',w,e,?_⟩
 cases r with
 | ok r=>cases r <;> exact h
 | error x=>exact h
noncomputable def fQ:SM:=bb .nx
noncomputable def aH (a b:SM):SM:=ae a fun f=>match f with
 | .nx=>b
 | o=>bb o
theorem ye {E:Ends} (h:tS K G0 W0 fQ E σ H):xu E σ H:=by
 refine h.use fun G W le ρ T g r ρ' w e q=>?_
 cases e
 exact q _ _ _ w
theorem x4 {a b:SM} {E:Ends} (h:tS K G0 W0 (aH a b) E σ H):tSeq (tS K G0 W0 a) (tS K G0 W0 b) E σ H:=by
 refine h.use fun G W le ρ T g r ρ' w e q=>?_
 unfold aH ae at e
 cases p:a ρ with
 | none=>rw [p] at e;exact nsE e
 | some p' =>
  obtain ⟨o,ρ1⟩:=p'
  rw [p] at e
  cases o with
  | error x=>cases e;exact tS.mk le w p q
  | ok f =>
   cases f with
   | nx=>exact tS.mk le (r:=.ok .nx) w p fun σ' H' g' w'=>tS.mk le w' e q
   | br=>cases e;exact tS.mk le w p q
   | ct=>cases e;exact tS.mk le w p q
   | rt d f=>cases e;exact tS.mk le w p q
noncomputable def fR (m:EM):SM:=ae m fun _=>bb .nx
theorem vf {m:EM} {E:Ends} (h:tS K G0 W0 (fR m) E σ H):xw (tE K G0 W0 m) E σ H:=by
 refine h.use fun G W le ρ T g r ρ' w e q=>?_
 refine tE.seq le w e q.err fun ra ρ1 e1 v H1 ⟨Ts,g1,w1,a1⟩=>?_
 cases e1
 exact q _ _ _ (w1.sub (Ag Ts T))
noncomputable def sIf (c:M3 Bool) (a b:SM):SM:=ae c fun t=>if t then a else b
theorem tS_if {c:M3 Bool} {a b:SM} {E:Ends} (h:tS K G0 W0 (sIf c a b) E σ H):tIfS (tT K G0 W0 c) (tS K G0 W0 a) (tS K G0 W0 b) E σ H:=by
 refine h.use fun G W le ρ T g r ρ' w e q=>?_
 refine tT.seq le w e q.err fun t ρ1 e1 H1 g1 w1=>?_
 cases t with
 | true=>exact tS.mk le w1 e1 q
 | false=>exact tS.mk le w1 e1 q
noncomputable def nol:Fl->Fl
 | .u=>.u
 | _=>.z
theorem zk (f:Fl):nol f ≠ .l:=by cases f <;> intro h <;> cases h
theorem zj (f:Fl):nol f=f\/nol f=.z:=by cases f <;> first | exact .inl rfl | exact .inr rfl
noncomputable def eO (r:R3):M3 (D × Fl):=match r with
 | .val d f=>bb (d,nol f)
 | .pl i=>fun ρ=>((ρ[i]?).join).map fun p=>(.ok (p.1,.z),lowAt i ρ)
theorem mO {i:Nat}:eO (.pl i) ρ=((ρ[i]?).join).map fun p=>(.ok (p.1,.z),lowAt i ρ):=rfl
theorem Ar.val_inv {d:D} {f:Fl} {v:V} {Ts:List It3} (a:Ar σ (.val d f) v Ts):∃ x,Ts=[x]/\x.d=d/\x.f=f/\x.v=v:=by
 generalize h:R3.val d f=r at a
 cases a with
 | pl _=>cases h
 | val x=>cases h;exact ⟨x,rfl,rfl,rfl,rfl⟩
theorem Ar.take {r:R3} {v:V} {Ts:List It3} {k:D × Fl->M3 β} {o:Except D β} (w:Wf K G H σ ρ (Ts ++ T) g) (a:Ar σ r v Ts) (e:ae (eO r) k ρ=some (o,ρ')) :
  ∃ p ρ1 g1 x,k p ρ1=some (o,ρ')/\Wf K G H σ ρ1 (x :: T) g1/\x.d=p.1/\(p.2=x.f\/p.2=.z)/\p.2 ≠ .l/\x.v=v:=by
 cases a with
 | val x=>exact ⟨(x.d,nol x.f),ρ,g,x,e,w,rfl,zj _,zk _,rfl⟩
 | @pl i v h =>
  unfold ae at e
  rw [mO] at e
  cases q:(ρ[i]?).join with
  | none=>rw [q] at e;exact nsE e
  | some p =>
   rw [q] at e
   obtain ⟨y,y1,y2,y3,y4⟩:=w.slot (d:=p.1) (f:=p.2) q
   obtain ⟨g1,w1,h1⟩:=w.lowAt (i:=i)
   obtain ⟨y',z1,z2,z3⟩:=h1 i y y1
   have hz:=z3 rfl
   refine ⟨(p.1,.z),_,g1,y',e,?_,z2.1.trans y2,.inr rfl,(by intro h;cases h),?_⟩
   ·have nr:∀ u:It3,NoRoot y' u:=fun u hf=>absurd hz hf
    refine ⟨w1.len,w1.sl,w1.sv,w1.okS,fun u hu=>?_,w1.ss,fun j u eu u' hu=>?_,?_,w1.base,w1.pro,⟨fun u hu hf a ea=>?_,w1.fx.frS,w1.fx.bin,w1.fx.ob,w1.fx.lvS⟩⟩
    ·rcases z8.mp hu with h | hu
     ·rw [h];exact w1.okS i y' z1
     ·exact w1.okT u hu
    ·rcases z8.mp hu with h | hu
     ·rw [h]
      refine ⟨?_,nr _⟩
      by_cases ij:j=i
      ·subst ij
       rw [z1] at eu;cases eu
       exact nr _
      ·exact w1.ss j i u y' ij eu z1
     ·exact w1.st j u eu u' hu
    ·exact List.pairwise_cons.mpr ⟨fun u hu=>⟨nr _,(w1.st i y' z1 u hu).2⟩,w1.tt⟩
    ·rcases z8.mp hu with h | hu
     ·rw [h] at hf;exact absurd hz hf
     ·exact w1.fx.frT u hu hf a ea
   ·rw [z2.2.1]
    rw [h] at y4;cases y4;rfl
theorem Wf.store {i:Nat} {f:Fl} (w:Wf K G H σ ρ (x :: T) g) (hi:i < ρ.length) (hp:G.pr i=false) (hf:f=x.f\/f=.z) (hnl:f ≠ .l) :
  Wf K G H (σ.set i (some x.v)) (ρ.set i (some (x.d,f))) T (fun j=>if j=i then some { x with f:=f } else g j):=by
 have hil:i < σ.length:=by rw [w.len];exact hi
 have tx:=List.pairwise_cons.mp w.tt
 have ox:=w.okT x zY
 have nx:∀ u:It3,NoRoot x u->NoRoot { x with f:=f } u:=fun u h q=>by
  rcases hf with e | e
  ·exact h (by rw [<- e];exact q)
  ·exact absurd e q
 have val:∀ j u,(if j=i then some { x with f:=f } else g j)=some u->(j=i/\u = { x with f:=f })\/(j ≠ i/\g j=some u):=fun j u h=>by
  by_cases q:j=i
  ·rw [if_pos q] at h;cases h;exact .inl ⟨q,rfl⟩
  ·rw [if_neg q] at h;exact .inr ⟨q,h⟩
 refine ⟨by rw [List.length_set,List.length_set];exact w.len,fun j=>?_,fun j u h=>?_,fun j u h=>?_,fun u hu=>w.okT u (zZ _ hu),fun j k a b n h1 h2=>?_,fun j a h b hb=>?_,tx.2,w.base,fun j hj=>?_,⟨fun u hu=>w.fx.frT u (zZ _ hu),fun j u h hpj hfu a ea=>?_,w.fx.bin,w.fx.ob,fun j u h hl=>?_⟩⟩
 ·rw [bX hi]
  by_cases q:j=i
  ·rw [if_pos q,if_pos q];rfl
  ·rw [if_neg q,if_neg q];exact w.sl j
 ·rcases val j u h with ⟨rfl,rfl⟩ | ⟨n,h⟩
  ·rw [List.getElem?_set_self hil]
  ·rw [List.getElem?_set_ne (fun z=>n z.symm)];exact w.sv j u h
 ·rcases val j u h with ⟨rfl,rfl⟩ | ⟨n,h⟩
  ·refine ⟨ox.rep,fun q=>?_,ox.src⟩
   rcases hf with e | e
   ·subst e
    exact ox.own q
   ·exact absurd e q
  ·exact w.okS j u h
 ·rcases val j a h1 with ⟨ej,ea⟩ | ⟨n1,h1'⟩
  ·rcases val k b h2 with ⟨ek,eb⟩ | ⟨n2,h2'⟩
   ·exact absurd (ej.trans ek.symm) n
   ·rw [ea];exact nx b (w.st k b h2' x zY).2
  ·rcases val k b h2 with ⟨ek,eb⟩ | ⟨n2,h2'⟩
   ·rw [eb];exact (w.st j a h1' x zY).1
   ·exact w.ss j k a b n h1' h2'
 ·rcases val j a h with ⟨rfl,rfl⟩ | ⟨n,h⟩
  ·exact ⟨nx b (tx.1 b hb).1,(tx.1 b hb).2⟩
  ·exact w.st j a h b (zZ _ hb)
 ·have n:j ≠ i:=fun z=>by subst z;rw [hp] at hj;cases hj
  rw [List.getElem?_set_ne (fun z=>n z.symm)];exact w.pro j hj
 ·rcases val j u h with ⟨_,rfl⟩ | ⟨n,h⟩
  ·rcases hf with e | e
   ·exact w.fx.frT x zY (by rw [<- e];exact hfu) a ea
   ·exact absurd e hfu
  ·exact w.fx.frS j u h hpj hfu a ea
 ·rcases val j u h with ⟨_,rfl⟩ | ⟨n,h⟩
  ·exact absurd hl hnl
  ·exact w.fx.lvS j u h hl
noncomputable def a7 (i:Nat) (m:EM):SM:=ae m fun r=>ae (eO r) fun p=>fun ρ=>if i < ρ.length then some (.ok .nx,ρ.set i (some p)) else none
set_option tactic.hygienic true in
theorem xZ {i:Nat} {m:EM} {E:Ends} (hp:G0.pr i=false) (h:tS K G0 W0 (a7 i m) E σ H):sO (tE K G0 W0 m) (qy i) E σ H:=by
 refine h.use fun G W le ρ T g r ρ' w e q=>?_
 refine tE.seq le w e q.err fun ra ρ1 e1 v H1 ⟨Ts,g1,w1,a1⟩=>?_
 obtain ⟨p,ρ2,g2,x,e2,w2,f1,f2,f4,f3⟩:=a1.take w1 e1
 split at e2
 ·rename_i hi
  cases e2
  have:=w2.store (f:=p.2) hi (by rw [le.pr];exact hp) f2 f4
  rw [f1,f3] at this
  exact q _ _ _ this
 ·exact nsE e2
noncomputable def bq (np:Nat) (m:EM):SM:=ae m fun r=>match r with
 | .val d f=>bb (.rt d f)
 | .pl i=>fun ρ=>match (ρ[i]?).join with
  | some (d,.u)=>if i < np then some (.ok (.rt d .z),lowAt i ρ) else some (.ok (.rt d .u),ρ.set i none)
  | some (d,_)=>some (.ok (.rt d .z),lowAt i ρ)
  | none=>none
theorem Wf.move {i:Nat} (w:Wf K G H σ ρ T g) (hp:G.pr i=false) (e:g i=some y):Wf K G H σ (ρ.set i none) (y :: T) (fun j=>if j=i then none else g j):=by
 have hi:i < ρ.length:=by
  have:=w.sl i
  rw [e] at this
  exact dM this.symm
 have val:∀ j u,(if j=i then none else g j)=some u->j ≠ i/\g j=some u:=fun j u h=>by
  by_cases q:j=i
  ·rw [if_pos q] at h;exact nsE h
  ·rw [if_neg q] at h;exact ⟨q,h⟩
 refine ⟨by rw [List.length_set];exact w.len,fun j=>?_,fun j u h=>w.sv j u (val j u h).2,fun j u h=>w.okS j u (val j u h).2,fun u hu=>?_,fun j k a b n h1 h2=>w.ss j k a b n (val j a h1).2 (val k b h2).2,fun j a h b hb=>?_,?_,w.base,w.pro,⟨fun u hu hf a ea=>?_,fun j u h=>w.fx.frS j u (val j u h).2,w.fx.bin,w.fx.ob,fun j u h=>w.fx.lvS j u (val j u h).2⟩⟩
 ·rw [bX hi]
  by_cases q:j=i
  ·rw [if_pos q,if_pos q];rfl
  ·rw [if_neg q,if_neg q];exact w.sl j
 ·rcases z8.mp hu with h | hu
  ·rw [h];exact w.okS i y e
  ·exact w.okT u hu
 ·obtain ⟨n,h⟩:=val j a h
  rcases z8.mp hb with h' | hb
  ·rw [h'];exact ⟨w.ss j i a y n h e,w.ss i j y a (Ne.symm n) e h⟩
  ·exact w.st j a h b hb
 ·exact List.pairwise_cons.mpr ⟨fun u hu=>w.st i y e u hu,w.tt⟩
 ·rcases z8.mp hu with h | hu
  ·subst h;exact w.fx.frS i u e hp hf a ea
  ·exact w.fx.frT u hu hf a ea
theorem x5 {np:Nat} {m:EM} {E:Ends} (hnp:∀ i,np<=i->G0.pr i=false) (h:tS K G0 W0 (bq np m) E σ H):tRet (tE K G0 W0 m) E σ H:=by
 refine h.use fun G W le ρ T g r ρ' w e q=>?_
 refine tE.seq le w e q.err fun ra ρ1 e1 v H1 ⟨Ts,g1,w1,a1⟩=>?_
 have low:∀ {i:Nat} {d:D} {f:Fl},(ρ1[i]?).join=some (d,f)->some ((.ok (.rt d .z),lowAt i ρ1):Except D Flw × Sto)=some (r,ρ')->Ar σ (.pl i) v Ts->E.rt v H1:=fun {i d f} ej e2 a=>by
  cases e2
  have e3:ae (eO (.pl i)) (fun p=>bb (Flw.rt p.1 p.2)) ρ1=some (.ok (.rt d .z),L3.lowAt i ρ1):=by
   unfold ae
   rw [mO,ej]
   rfl
  obtain ⟨p,ρ2,g2,x,e4,w2,f1,f2,_,f3⟩:=a.take w1 e3
  have e5:Flw.rt p.1 p.2=Flw.rt d .z/\ρ2=L3.lowAt i ρ1:=by
   unfold bb at e4
   injection e4 with e4
   injection e4 with e5 e6
   injection e5 with e5
   exact ⟨e5,e6⟩
  obtain ⟨e5,e6⟩:=e5
  injection e5 with e7 e8
  subst e6
  rw [<- f3]
  have w3:=Wf.lowT (Ts:=[x]) w2
  exact q (c5 x) σ H1 g2 w3 (f1.trans e7) rfl
 cases a1 with
 | val x=>cases e1;exact q x σ H1 g1 w1 rfl rfl
 | @pl i v h =>
  dsimp only at e1
  cases ej:(ρ1[i]?).join with
  | none=>rw [ej] at e1;exact nsE e1
  | some p =>
   obtain ⟨d,f⟩:=p
   rw [ej] at e1
   cases f with
   | u =>
    dsimp only at e1
    split at e1
    ·exact low ej e1 (.pl h)
    ·cases e1
     obtain ⟨y,y1,y2,y3,y4⟩:=w1.slot ej
     have w2:=Wf.move w1 (by rw [le.pr];exact hnp i (by omega)) y1
     have:=q y σ H1 _ w2 y2 y3
     rw [h] at y4
     cases y4
     exact this
   | l=>exact low ej e1 (.pl h)
   | z=>exact low ej e1 (.pl h)
noncomputable def cf (c:M3 Bool) (b:SM):Nat->SM
 | 0=>fun _=>none
 | n+1=>ae c fun t=>if t then ae b (fun f=>match f with
   | .nx=>cf c b n
   | .ct=>cf c b n
   | .br=>bb .nx
   | .rt d f=>bb (.rt d f)) else bb .nx
noncomputable def eI (c:M3 Bool) (b:SM):SM:=fun ρ=>open Classical in if h:∃ n r,cf c b n ρ=some r then some (Classical.choose (Classical.choose_spec h)) else none
theorem fK {c:M3 Bool} {b:SM}:∀ {n:Nat} {ρ:Sto} {r:Except D Flw × Sto},cf c b n ρ=some r->cf c b (n+1) ρ=some r
 | 0,ρ,r,e=>by cases e
 | n+1,ρ,r,e=>by
  unfold cf at e ⊢
  unfold ae at e ⊢
  cases h:c ρ with
  | none=>rw [h] at e;exact nsE e
  | some p =>
   obtain ⟨o,ρ1⟩:=p
   rw [h] at e
   cases o with
   | error x=>exact e
   | ok t =>
    cases t with
    | false=>exact e
    | true =>
     simp only [if_true] at e ⊢
     cases h2:b ρ1 with
     | none=>rw [h2] at e;exact nsE e
     | some p2 =>
      obtain ⟨o2,ρ2⟩:=p2
      rw [h2] at e
      cases o2 with
      | error x=>exact e
      | ok f =>
       cases f with
       | nx=>exact fK (n:=n) e
       | ct=>exact fK (n:=n) e
       | br=>exact e
       | rt d f=>exact e
theorem iE {c:M3 Bool} {b:SM} {n m:Nat} {ρ:Sto} {r:Except D Flw × Sto} (h:n<=m) (e:cf c b n ρ=some r):cf c b m ρ=some r:=by
 induction h with
 | refl=>exact e
 | step _ ih=>exact fK ih
set_option tactic.hygienic true in
theorem mV {c:M3 Bool} {b:SM} {ρ:Sto} {r:Except D Flw × Sto} (e:eI c b ρ=some r):∃ n,cf c b n ρ=some r:=by
 unfold eI at e
 split at e
 ·rename_i h
  have e2:=Classical.choose_spec (Classical.choose_spec h)
  injection e with e
  exact ⟨Classical.choose h,by rw [<- e];exact e2⟩
 ·exact nsE e
theorem sM {c:M3 Bool} {b:SM} {E:Ends} (h:tS K G0 W0 (eI c b) E σ H):sL (tT K G0 W0 c) (tS K G0 W0 b) E σ H:=by
 refine h.use fun G W le ρ T g r ρ' w e q=>?_
 obtain ⟨n,e⟩:=mV e
 refine ⟨fun m σ H=>∃ ρ g,Wf K G H σ ρ T g/\cf c b m ρ=some (r,ρ'),⟨n,ρ,g,w,e⟩,?_⟩
 rintro m σ1 H1 ⟨ρ1,g1,w1,e1⟩
 cases m with
 | zero=>exact nsE e1
 | succ m =>
  unfold cf at e1
  refine tT.seq le w1 e1 q.err fun t ρ2 e2 H2 g2 w2=>?_
  cases t with
  | false=>cases e2;exact q _ _ _ w2
  | true =>
   refine ⟨fun σ H=>∃ ρ g,Wf K G H σ ρ T g/\cf c b m ρ=some (r,ρ'),fun σ' H' h=>⟨m,Nat.lt_succ_self m,h⟩,?_⟩
   simp only [if_true] at e2
   unfold ae at e2
   cases p:b ρ2 with
   | none=>rw [p] at e2;exact nsE e2
   | some p2 =>
    obtain ⟨o,ρ3⟩:=p2
    rw [p] at e2
    cases o with
    | error x=>cases e2;exact tS.mk le w2 p q
    | ok f =>
     cases f with
     | nx=>exact tS.mk le (r:=.ok .nx) w2 p fun σ' H' g' w'=>⟨ρ3,g',w',e2⟩
     | ct=>exact tS.mk le (r:=.ok .ct) w2 p fun σ' H' g' w'=>⟨ρ3,g',w',e2⟩
     | br=>cases e2;exact tS.mk le (r:=.ok .br) w2 p q
     | rt d f=>cases e2;exact tS.mk le (r:=.ok (.rt d f)) w2 p q
end
end L3
end
section
namespace L3
open PySem L2
noncomputable abbrev Fn:=List (D × Fl)->Option (Except D (D × Fl) × List (D × Fl))
noncomputable def prs (ρ:Sto):List R3->Option (List (D × Fl))
 | []=>some []
 | .pl i :: rs=>match (ρ[i]?).join,prs ρ rs with
  | some p,some ps=>some (p :: ps)
  | _,_=>none
 | .val d f :: rs=>match prs ρ rs with
  | some ps=>some ((d,f) :: ps)
  | _=>none
noncomputable def oh (rs:List R3):List Nat:=(pls rs).filter fun i=>decide (2<=(pls rs).count i)
noncomputable def back:List R3->List (D × Fl)->List (D × Fl)->Sto->Sto
 | .pl i :: rs,p :: ps,q :: qs,ρ=>back rs ps qs (if p.2=.z then ρ else ρ.set i (some (q.1,if q.2=.z then .z else p.2)))
 | .val _ _ :: rs,_ :: ps,_ :: qs,ρ=>back rs ps qs ρ
 | _,_,_,ρ=>ρ
section
variable {K:FG} {G G0:Gm} {W W0:D->Sto->Prop} {H H':Hp} {σ:St} {ρ ρ':Sto} {T T':List It3} {g:Nat->Option It3} {x y z:It3} {α β:Type}
structure Back1 (K:FG) (H H':Hp) (ps:List It3) (p q:It3):Prop where
 z:p.f=.z->q=p
 v:q.v=p.v
 f:q.f=p.f\/q.f=.z
 arg:Arg K H' q
 src:∀ c ∈ q.L,H c=none\/dC ps c
 there:p.f=.u->∀ b,p.v=.ref b->∃ o,H' b=some o
structure BehindX (K:FG) (H H':Hp) (ps qs:List It3):Prop where
 frame:∀ b o,H b=some o->(∀ p ∈ ps,p.f=.u->p.v ≠ .ref b)->H' b=some o
 back:Paired (Back1 K H H' ps) ps qs
 apart:qs.Pairwise Apart3
structure Behind (K:FG) (H H':Hp) (ps qs:List It3) (x:It3):Prop extends BehindX K H H' ps qs where
 rep:Rep K H' x.d x.v x.L
 own:x.f ≠ .z->iq x.d=true/\∃ a L',x.v=.ref a/\x.L=a :: L'/\a ∉ L'/\H a=none
 src:∀ c ∈ x.L,H c=none\/dC ps c
 apx:∀ q ∈ qs,Apart3 x q
theorem Ars.args:∀ {rs:List R3} {vs:List V} {Ts T:List It3} {pfs:List (D × Fl)},Ars σ rs vs Ts->Wf K G H σ ρ (Ts ++ T) g->(∀ i,2<=(pls rs).count i->∀ y,g i=some y->y.f=.z)->prs ρ rs=some pfs ->
  ∃ ps:List It3,ps.map (fun p=>(p.d,p.f))=pfs/\ps.map (·.v)=vs/\ps.Pairwise Apart3/\(∀ p ∈ ps,(∃ i,R3.pl i ∈ rs/\g i=some p)\/p ∈ Ts)/\Paired (fun r p=>match r with | .pl i=>g i=some p | .val _ _=>p ∈ Ts) rs ps
 | [],_,_,T,pfs,.nil,w,_,e=>by cases e;exact ⟨[],rfl,rfl,.nil,fun _ h=>(by cases h),.nil⟩
 | r :: rs,_,_,T,pfs,.cons (v:=v0) (Ts:=T0) (Us:=U0) a as,w,hd,e=>by
  have wt:Wf K G H σ ρ (U0 ++ (T0 ++ T)) g:=by rw [<- List.append_assoc];exact w
  have hd':∀ i,2<=(pls rs).count i->∀ y,g i=some y->y.f=.z:=fun i hc=>hd i (by
   cases r with
   | pl j=>show 2<=(j :: pls rs).count i;rw [List.count_cons];omega
   | val _ _=>exact hc)
  cases a with
  | @pl i v h =>
   unfold prs at e
   cases q:(ρ[i]?).join with
   | none=>rw [q] at e;exact nsE e
   | some p0 =>
    cases q2:prs ρ rs with
    | none=>rw [q,q2] at e;exact nsE e
    | some pfs' =>
     rw [q,q2] at e
     cases e
     obtain ⟨ps,f1,f2,f3,f4,f5⟩:=Ars.args as wt hd' q2
     obtain ⟨y,y1,y2,y3,y4⟩:=w.slot (d:=p0.1) (f:=p0.2) q
     have hv:y.v=v0:=by rw [h] at y4;cases y4;rfl
     refine ⟨y :: ps,by rw [An,f1,y2,y3],by rw [An,f2,hv],List.pairwise_cons.mpr ⟨fun p hp=>?_,f3⟩,fun p hp=>?_,.cons y1 ?_⟩
     ·rcases f4 p hp with ⟨j,hj,ej⟩ | hp
      ·by_cases ij:i=j
       ·subst ij
        have hc:2<=(pls (R3.pl i :: rs)).count i:=by
         show 2<=(i :: pls rs).count i
         rw [List.count_cons_self]
         have:=List.count_pos_iff.mpr (jC hj)
         omega
        have hz:=hd i hc y y1
        have hz':=hd i hc p ej
        exact ⟨fun q=>absurd hz q,fun q=>absurd hz' q⟩
       ·exact ⟨w.ss i j y p ij y1 ej,w.ss j i p y (Ne.symm ij) ej y1⟩
      ·exact w.st i y y1 p (z6 _ (z6 _ hp))
     ·rcases z8.mp hp with h' | hp
      ·rw [h'];exact .inl ⟨i,zY,y1⟩
      ·rcases f4 p hp with ⟨j,hj,ej⟩ | hp
       ·exact .inl ⟨j,zZ _ hj,ej⟩
       ·exact .inr (z6 _ hp)
     ·exact Paired.mapP f5 fun r p h=>by
       cases r with
       | pl j=>exact h
       | val _ _=>exact z6 _ h
  | val x =>
   unfold prs at e
   cases q2:prs ρ rs with
   | none=>rw [q2] at e;exact nsE e
   | some pfs' =>
    rw [q2] at e
    cases e
    obtain ⟨ps,f1,f2,f3,f4,f5⟩:=Ars.args as wt hd' q2
    refine ⟨x :: ps,by rw [An,f1],by rw [An,f2],List.pairwise_cons.mpr ⟨fun p hp=>?_,f3⟩,fun p hp=>?_,.cons (z7 _ zY) ?_⟩
    ·rcases f4 p hp with ⟨j,hj,ej⟩ | hp
     ·exact (w.st j p ej x (z6 _ (z7 _ zY))).symm
     ·have t1:=(List.pairwise_append.mp w.tt).1
      exact ((List.pairwise_append.mp t1).2.2 p hp x zY).symm
    ·rcases z8.mp hp with h' | hp
     ·rw [h'];exact .inr (z7 _ zY)
     ·rcases f4 p hp with ⟨j,hj,ej⟩ | hp
      ·exact .inl ⟨j,zZ _ hj,ej⟩
      ·exact .inr (z6 _ hp)
    ·exact Paired.mapP f5 fun r p h=>by
      cases r with
      | pl j=>exact h
      | val _ _=>exact z6 _ h
theorem fE:∀ {rs:List R3} {ps qs:List It3} {ρ:Sto} {g:Nat->Option It3},(∀ j,(g j).map (fun x=>(x.d,x.f))=(ρ[j]?).join)->rs.length=ps.length->Paired (Back1 K H H' T) ps qs->(∀ i,R3.pl i ∈ rs->i < ρ.length) ->
  ∃ g':Nat->Option It3,(∀ j,(g' j).map (fun x=>(x.d,x.f))=((back rs (ps.map fun p=>(p.d,p.f)) (qs.map fun q=>(q.d,q.f)) ρ)[j]?).join)/\(back rs (ps.map fun p=>(p.d,p.f)) (qs.map fun q=>(q.d,q.f)) ρ).length = ρ.length /\
   ∀ j:Nat,(g' j=g j/\∀ (k:Nat) (p:It3),rs[k]?=some (R3.pl j)->ps[k]?=some p->p.f=.z)\/∃ (k:Nat) (p q:It3),rs[k]?=some (R3.pl j)/\ps[k]?=some p/\qs[k]?=some q/\p.f ≠ .z/\g' j=some q
 | [],[],_,ρ,g,hg,_,.nil,_=>⟨g,hg,rfl,fun j=>.inl ⟨rfl,fun k p h=>by simp at h⟩⟩
 | [],_ :: _,_,_,_,_,h,_,_=>by cases h
 | _ :: _,[],_,_,_,_,h,_,_=>by cases h
 | .val d f :: rs,p :: ps,_,ρ,g,hg,hl,.cons (b:=q) (l₂:=qs) b1 bs,hi=>by
  obtain ⟨g',h1,h2,h3⟩:=fE (rs:=rs) hg (by simpa using hl) bs fun i h=>hi i (zZ _ h)
  refine ⟨g',h1,h2,fun j=>?_⟩
  rcases h3 j with ⟨e,h⟩ | ⟨k,p',q',a1,a2,a3,a4⟩
  ·refine .inl ⟨e,fun k p' e1 e2=>?_⟩
   cases k with
   | zero=>simp at e1
   | succ k=>exact h k p' (by simpa using e1) (by simpa using e2)
  ·exact .inr ⟨k+1,p',q',by simpa using a1,by simpa using a2,by simpa using a3,a4⟩
 | .pl i :: rs,p :: ps,_,ρ,g,hg,hl,.cons (b:=q) (l₂:=qs) b1 bs,hi=>by
  have hil:=hi i zY
  by_cases hz:p.f=.z
  ·have eb:back (.pl i :: rs) ((p :: ps).map fun p=>(p.d,p.f)) ((q :: qs).map fun q=>(q.d,q.f)) ρ=back rs (ps.map fun p=>(p.d,p.f)) (qs.map fun q=>(q.d,q.f)) ρ:=by
    show back rs _ _ (if p.f=.z then ρ else _)=_
    rw [if_pos hz]
   rw [eb]
   obtain ⟨g',h1,h2,h3⟩:=fE (rs:=rs) hg (by simpa using hl) bs fun i h=>hi i (zZ _ h)
   refine ⟨g',h1,h2,fun j=>?_⟩
   rcases h3 j with ⟨e,h⟩ | ⟨k,p',q',a1,a2,a3,a4⟩
   ·refine .inl ⟨e,fun k p' e1 e2=>?_⟩
    cases k with
    | zero=>simp at e2;rw [<- e2];exact hz
    | succ k=>exact h k p' (by simpa using e1) (by simpa using e2)
   ·exact .inr ⟨k+1,p',q',by simpa using a1,by simpa using a2,by simpa using a3,a4⟩
  ·have eb:back (.pl i :: rs) ((p :: ps).map fun p=>(p.d,p.f)) ((q :: qs).map fun q=>(q.d,q.f)) ρ=back rs (ps.map fun p=>(p.d,p.f)) (qs.map fun q=>(q.d,q.f)) (ρ.set i (some (q.d,q.f))):=by
    show back rs _ _ (if p.f=.z then ρ else ρ.set i (some (q.d,if q.f=.z then .z else p.f)))=_
    rw [if_neg hz]
    have:(if q.f=.z then Fl.z else p.f)=q.f:=by
     by_cases h:q.f=.z
     ·rw [if_pos h,h]
     ·rw [if_neg h]
      rcases b1.f with h' | h'
      ·exact h'.symm
      ·exact absurd h' h
    rw [this]
   rw [eb]
   obtain ⟨g',h1,h2,h3⟩:=fE (rs:=rs) (ρ:=ρ.set i (some (q.d,q.f))) (g:=fun j=>if j=i then some q else g j) (fun j=>by
    rw [bX hil]
    by_cases e:j=i
    ·rw [if_pos e,if_pos e];rfl
    ·rw [if_neg e,if_neg e];exact hg j) (by simpa using hl) bs fun i h=>by rw [List.length_set];exact hi i (zZ _ h)
   refine ⟨g',h1,by rw [h2,List.length_set],fun j=>?_⟩
   rcases h3 j with ⟨e,h⟩ | ⟨k,p',q',a1,a2,a3,a4⟩
   ·by_cases ej:j=i
    ·rw [if_pos ej] at e
     exact .inr ⟨0,p,q,by simp [ej],rfl,rfl,hz,e⟩
    ·rw [if_neg ej] at e
     refine .inl ⟨e,fun k p' e1 e2=>?_⟩
     cases k with
     | zero=>simp at e1;exact absurd e1.symm ej
     | succ k=>exact h k p' (by simpa using e1) (by simpa using e2)
   ·exact .inr ⟨k+1,p',q',by simpa using a1,by simpa using a2,by simpa using a3,a4⟩
theorem l4:∀ {rs:List R3} {pfs:List (D × Fl)},prs ρ rs=some pfs->rs.length=pfs.length
 | [],pfs,e=>by cases e;rfl
 | .pl i :: rs,pfs,e=>by
  unfold prs at e
  cases q:(ρ[i]?).join with
  | none=>rw [q] at e;exact nsE e
  | some p =>
   cases q2:prs ρ rs with
   | none=>rw [q,q2] at e;exact nsE e
   | some ps=>rw [q,q2] at e;cases e;rw [Av,Av,l4 q2]
 | .val d f :: rs,pfs,e=>by
  unfold prs at e
  cases q2:prs ρ rs with
  | none=>rw [q2] at e;exact nsE e
  | some ps=>rw [q2] at e;cases e;rw [Av,Av,l4 q2]
theorem o3:∀ {rs:List R3} {pfs:List (D × Fl)},prs ρ rs=some pfs->∀ i,R3.pl i ∈ rs->i < ρ.length
 | [],pfs,e,i,h=>by cases h
 | .pl i :: rs,pfs,e,j,h=>by
  unfold prs at e
  cases q:(ρ[i]?).join with
  | none=>rw [q] at e;exact nsE e
  | some p =>
   cases q2:prs ρ rs with
   | none=>rw [q,q2] at e;exact nsE e
   | some ps =>
    rcases z8.mp h with h | h
    ·cases h;exact dM q
    ·exact o3 q2 j h
 | .val d f :: rs,pfs,e,j,h=>by
  unfold prs at e
  cases q2:prs ρ rs with
  | none=>rw [q2] at e;exact nsE e
  | some ps =>
   rcases z8.mp h with h | h
   ·cases h
   ·exact o3 q2 j h
theorem Paired.at {α β:Type} {F:α->β->Prop}:∀ {l:List α} {m:List β} {k:Nat} {a:α} {b:β},Paired F l m->l[k]?=some a->m[k]?=some b->F a b
 | _,_,_,_,_,.nil,h,_=>by simp at h
 | _,_,0,_,_,.cons r _,h,h'=>by simp at h h';subst h h';exact r
 | _,_,k+1,_,_,.cons _ t,h,h'=>Paired.at (k:=k) t (by simpa using h) (by simpa using h')
theorem Paired.exL {α β:Type} {F:α->β->Prop}:∀ {l:List α} {m:List β} {k:Nat} {a:α},Paired F l m->l[k]?=some a->∃ b,m[k]?=some b/\F a b
 | _,_,_,_,.nil,h=>by simp at h
 | _,_,0,_,.cons r _,h=>by simp at h;subst h;exact ⟨_,rfl,r⟩
 | _,_,k+1,_,.cons _ t,h=>let ⟨b,h1,h2⟩:=Paired.exL (k:=k) t (by simpa using h);⟨b,by simpa using h1,h2⟩
theorem Paired.exR {α β:Type} {F:α->β->Prop}:∀ {l:List α} {m:List β} {k:Nat} {b:β},Paired F l m->m[k]?=some b->∃ a,l[k]?=some a/\F a b
 | _,_,_,_,.nil,h=>by simp at h
 | _,_,0,_,.cons r _,h=>by simp at h;subst h;exact ⟨_,rfl,r⟩
 | _,_,k+1,_,.cons _ t,h=>let ⟨b,h1,h2⟩:=Paired.exR (k:=k) t (by simpa using h);⟨b,by simpa using h1,h2⟩
theorem dl {α:Type} {R:α->α->Prop} {l:List α} (p:l.Pairwise R) (hs:∀ a b,R a b->R b a) {i j:Nat} {a b:α} (n:i ≠ j) (ha:l[i]?=some a) (hb:l[j]?=some b):R a b:=by
 obtain ⟨h1,e1⟩:=Ae.mp ha
 obtain ⟨h2,e2⟩:=Ae.mp hb
 have q:=List.pairwise_iff_getElem.mp p
 rcases Nat.lt_or_ge i j with h | h
 ·rw [<- e1,<- e2];exact q i j h1 h2 h
 ·rw [<- e1,<- e2];exact hs _ _ (q j i h2 h1 (by omega))
theorem Wf.after {rs:List R3} {Ts ps qs:List It3} {pfs:List (D × Fl)} (w:Wf K G H σ ρ (Ts ++ T) g) (e:prs ρ rs=some pfs) (f1:ps.map (fun p=>(p.d,p.f))=pfs)
  (f4:∀ p ∈ ps,(∃ i,R3.pl i ∈ rs/\g i=some p)\/p ∈ Ts) (f5:Paired (fun r p=>match r with | .pl i=>g i=some p | .val _ _=>p ∈ Ts) rs ps) (B:BehindX K H H' ps qs) :
  ∃ g',Wf K G H' σ (L3.back rs pfs (qs.map fun q=>(q.d,q.f)) ρ) T g' /\
   ∀ x,Rep K H' x.d x.v x.L->(x.f ≠ .z->iq x.d=true/\∃ a L',x.v=.ref a/\x.L=a :: L'/\a ∉ L'/\H a=none)->(∀ c ∈ x.L,H c=none\/dC ps c)->(∀ q ∈ qs,Apart3 x q)->Wf K G H' σ (L3.back rs pfs (qs.map fun q=>(q.d,q.f)) ρ) (x :: T) g':=by
 subst f1
 have hl:rs.length=ps.length:=by have:=l4 e;rwa [Ad] at this
 obtain ⟨g',h1,h2,h3⟩:=fE (K:=K) (H:=H) (H':=H') (T:=ps) (rs:=rs) (ps:=ps) (qs:=qs) w.sl hl B.back (o3 e)
 have hps:∀ p ∈ ps,Itm (Ts ++ T) g p:=fun p hp=>by
  rcases f4 p hp with ⟨i,_,ei⟩ | h
  ·exact .inl ⟨i,ei⟩
  ·exact .inr (z6 _ h)
 have dom:∀ b o,H b=some o->∃ o',H' b=some o':=fun b o hb=>by
  by_cases h:∀ p ∈ ps,p.f=.u->p.v ≠ .ref b
  ·exact ⟨o,B.frame b o hb h⟩
  ·have h':∃ p,p ∈ ps/\p.f=.u/\p.v=.ref b:=by
    refine Classical.byContradiction fun n=>h fun p hp hf hv=>n ⟨p,hp,hf,hv⟩
   obtain ⟨p,hp,hf,hv⟩:=h'
   obtain ⟨k,hk,ek⟩:=List.mem_iff_getElem.mp hp
   obtain ⟨q,e1,b1⟩:=Paired.exL B.back (show ps[k]?=some p by rw [z9 hk,ek])
   exact b1.there hf b hv
 have ka:∀ j z,g j=some z->(∀ (k:Nat) (p:It3),rs[k]?=some (R3.pl j)->ps[k]?=some p->p.f=.z)->∀ p ∈ ps,Apart3 p z:=fun j z ej hu p hp=>by
  rcases f4 p hp with ⟨i,hi,ei⟩ | h
  ·by_cases ij:i=j
   ·subst ij
    have epz:p=z:=AL (ei.symm.trans ej)
    subst epz
    have hz:p.f=.z:=by
     obtain ⟨k,hk,ek⟩:=List.mem_iff_getElem.mp hi
     have ek':rs[k]?=some (R3.pl i):=by rw [z9 hk,ek]
     obtain ⟨p',e1,e2⟩:=Paired.exL f5 ek'
     have e2:g i=some p':=e2
     rw [ei] at e2
     cases e2
     exact hu k p ek' e1
    exact ⟨fun q=>absurd hz q,fun q=>absurd hz q⟩
   ·exact ⟨w.ss i j p z ij ei ej,w.ss j i z p (Ne.symm ij) ej ei⟩
  ·exact (w.st j z ej p (z6 _ h)).symm
 have kt:∀ z ∈ T,∀ p ∈ ps,Apart3 p z:=fun z hz p hp=>by
  rcases f4 p hp with ⟨i,hi,ei⟩ | h
  ·exact w.st i p ei z (z7 _ hz)
  ·exact (List.pairwise_append.mp w.tt).2.2 p h z hz
 have keep:∀ z,ItOk K G H z->(∀ p ∈ ps,Apart3 p z)->ItOk K G H' z:=fun z oz az=>by
  refine oz.keep (M:=fun b=>∃ p ∈ ps,p.f=.u/\p.v=.ref b) (fun b o hb n=>B.frame b o hb fun p hp hf hv=>n ⟨p,hp,hf,hv⟩) (fun b ⟨p,hp,hf,hv⟩=>?_) (fun b hb ⟨p,hp,hf,hv⟩=>?_)
  ·obtain ⟨_,a,L',e1,e2,_⟩:=(w.itm (hps p hp)).own (by rw [hf];intro q;cases q)
   rw [hv] at e1
   cases e1
   exact (w.itm (hps p hp)).rep.inH b (by rw [e2];exact zY)
  ·exact (az p hp).1 (by rw [hf];intro q;cases q) b hv hb
 have okq:∀ k p q,ps[k]?=some p->qs[k]?=some q->ItOk K G H' q:=fun k p q e1 e2=>by
  have b:=Paired.at B.back e1 e2
  refine ⟨b.arg.rep,fun hf=>?_,fun c hc=>?_⟩
  ·obtain ⟨m,a,L',v1,v2,v3⟩:=b.arg.own hf
   refine ⟨m,a,L',v1,v2,v3,fun hu=>?_⟩
   have pf:p.f=.u:=by
    rcases b.f with h | h
    ·rw [<- h];exact hu
    ·rw [h] at hu;cases hu
   obtain ⟨_,a',L'',e3,_,_,e5⟩:=(w.itm (hps p (Af e1))).own (by rw [pf];intro q;cases q)
   rw [<- b.v,v1] at e3
   cases e3
   exact e5 pf
  ·rcases b.src c hc with h | ⟨p',hp',h⟩
   ·exact .inl (w.h0none h)
   ·exact (w.itm (hps p' hp')).src c h
 have kq:∀ z,ItOk K G H z->(∀ p ∈ ps,Apart3 p z)->∀ k p q,ps[k]?=some p->qs[k]?=some q->Apart3 z q:=fun z oz az k p q e1 e2=>by
  have b:=Paired.at B.back e1 e2
  refine ⟨fun hf a ev hm=>?_,fun hf a ev=>?_⟩
  ·rcases b.src a hm with h | ⟨p',hp',hc⟩
   ·obtain ⟨_,a',L',q1,q2,_⟩:=oz.own hf
    rw [ev] at q1;cases q1
    obtain ⟨o,ho⟩:=(oz.rep.inH a (by rw [q2];exact zY)).ex
    rw [h] at ho;exact nsE ho
   ·exact (az p' hp').2 hf a ev hc
  ·have pf:p.f ≠ .z:=fun q'=>by
    have:=b.z q'
    rw [this] at hf
    exact hf q'
   exact (az p (Af e1)).1 pf a (by rw [<- b.v];exact ev)
 have old:∀ j z,g' j=some z->(g j=some z/\∀ p ∈ ps,Apart3 p z)\/∃ k p,rs[k]?=some (R3.pl j)/\ps[k]?=some p/\qs[k]?=some z:=fun j z ez=>by
  rcases h3 j with ⟨e1,hu⟩ | ⟨k,p,q,a1,a2,a3,_,a5⟩
  ·rw [e1] at ez
   exact .inl ⟨ez,ka j z ez hu⟩
  ·rw [a5] at ez
   cases ez
   exact .inr ⟨k,p,a1,a2,a3⟩
 have wf:Wf K G H' σ (L3.back rs (ps.map fun p=>(p.d,p.f)) (qs.map fun q=>(q.d,q.f)) ρ) T g':=by
  refine ⟨by rw [h2];exact w.len,h1,fun j z ez=>?_,fun j z ez=>?_,fun z hz=>keep z (w.okT z (z7 _ hz)) (kt z hz),fun i j a b n ea eb=>?_,fun j z ez t ht=>?_,(List.pairwise_append.mp w.tt).2.1,fun b o e n=>?_,w.pro,⟨fun u hu=>w.fx.frT u (z7 _ hu),fun j u h hp hf a ea=>?_,fun b hb=>?_,fun b o h=>?_,fun j u h hl=>?_⟩⟩
  ·rcases old j z ez with ⟨e1,_⟩ | ⟨k,p,a1,a2,a3⟩
   ·exact w.sv j z e1
   ·have ep:g j=some p:=by
     obtain ⟨p',q1,q2⟩:=Paired.exL f5 a1
     rw [a2] at q1;cases q1
     exact q2
    rw [(Paired.at B.back a2 a3).v]
    exact w.sv j p ep
  ·rcases old j z ez with ⟨e1,ap⟩ | ⟨k,p,a1,a2,a3⟩
   ·exact keep z (w.okS j z e1) ap
   ·exact okq k p z a2 a3
  ·rcases old i a ea with ⟨e1,ap⟩ | ⟨k,p,a1,a2,a3⟩
   ·rcases old j b eb with ⟨e2,_⟩ | ⟨k',p',b1,b2,b3⟩
    ·exact w.ss i j a b n e1 e2
    ·exact (kq a (w.okS i a e1) ap k' p' b b2 b3).1
   ·rcases old j b eb with ⟨e2,ap⟩ | ⟨k',p',b1,b2,b3⟩
    ·exact (kq b (w.okS j b e2) ap k p a a2 a3).2
    ·have kk:k ≠ k':=fun z=>by
      subst z
      rw [a1] at b1
      cases b1
      exact n rfl
     exact (dl B.apart (fun _ _=>Apart3.symm) kk a3 b3).1
  ·rcases old j z ez with ⟨e1,ap⟩ | ⟨k,p,a1,a2,a3⟩
   ·exact w.st j z e1 t (z7 _ ht)
   ·exact (kq t (w.okT t (z7 _ ht)) (kt t ht) k p z a2 a3).symm
  ·refine B.frame b o (w.base b o e n) fun p hp hf hv=>?_
   obtain ⟨_,a,L',e1,_,_,e3⟩:=(w.itm (hps p hp)).own (by rw [hf];intro q;cases q)
   rw [hv] at e1
   cases e1
   rcases e3 hf with h | h
   ·rw [e] at h;cases h
   ·exact n h
  ·rcases old j u h with ⟨e1,_⟩ | ⟨k,p,a1,a2,a3⟩
   ·exact w.fx.frS j u e1 hp hf a ea
   ·have b:=Paired.at B.back a2 a3
    have ep:g j=some p:=by
     obtain ⟨p',q1,q2⟩:=Paired.exL f5 a1
     rw [a2] at q1;cases q1
     exact q2
    refine w.fx.frS j p ep hp (fun q'=>?_) a (by rw [<- b.v];exact ea)
    have:=b.z q'
    rw [this] at hf
    exact hf q'
  ·obtain ⟨o,ho⟩:=w.fx.bin b hb
   exact dom b o ho
  ·obtain ⟨o',ho⟩:=w.fx.ob b o h
   exact dom b o' ho
  ·rcases old j u h with ⟨e1,_⟩ | ⟨k,p,a1,a2,a3⟩
   ·exact w.fx.lvS j u e1 hl
   ·have b:=Paired.at B.back a2 a3
    have ep:g j=some p:=by
     obtain ⟨p',q1,q2⟩:=Paired.exL f5 a1
     rw [a2] at q1;cases q1
     exact q2
    rw [b.v]
    refine w.fx.lvS j p ep ?_
    rcases b.f with h | h
    ·rw [<- h];exact hl
    ·rw [h] at hl;cases hl
 refine ⟨g',wf,fun x rx ox sx ax=>?_⟩
 have kx:∀ z,ItOk K G H z->(∀ p ∈ ps,Apart3 p z)->Apart3 z x:=fun z oz az=>by
  refine ⟨fun hf a ev hm=>?_,fun hf a ev hm=>?_⟩
  ·rcases sx a hm with h | ⟨p',hp',hc⟩
   ·obtain ⟨_,a',L',q1,q2,_⟩:=oz.own hf
    rw [ev] at q1;cases q1
    obtain ⟨o,ho⟩:=(oz.rep.inH a (by rw [q2];exact zY)).ex
    rw [h] at ho;exact nsE ho
   ·exact (az p' hp').2 hf a ev hc
  ·obtain ⟨_,a',L',q1,_,_,q4⟩:=ox hf
   rw [ev] at q1;cases q1
   obtain ⟨o,ho⟩:=(oz.rep.inH a hm).ex
   rw [q4] at ho;exact nsE ho
 refine ⟨wf.len,wf.sl,wf.sv,wf.okS,fun z hz=>?_,wf.ss,fun j z ez t ht=>?_,?_,wf.base,wf.pro,⟨fun u hu hf a ea=>?_,wf.fx.frS,wf.fx.bin,wf.fx.ob,wf.fx.lvS⟩⟩
 ·rcases z8.mp hz with h | hz
  ·rw [h]
   refine ⟨rx,fun hf=>?_,fun c hc=>?_⟩
   ·obtain ⟨m,a,L',v1,v2,v3,v4⟩:=ox hf
    exact ⟨m,a,L',v1,v2,v3,fun _=>.inl (w.h0none v4)⟩
   ·rcases sx c hc with h | ⟨p',hp',h⟩
    ·exact .inl (w.h0none h)
    ·exact (w.itm (hps p' hp')).src c h
  ·exact wf.okT z hz
 ·rcases z8.mp ht with h | ht
  ·rw [h]
   rcases old j z ez with ⟨e1,ap⟩ | ⟨k,p,a1,a2,a3⟩
   ·exact kx z (w.okS j z e1) ap
   ·exact (ax z (Af a3)).symm
  ·exact wf.st j z ez t ht
 ·exact List.pairwise_cons.mpr ⟨fun t ht=>(kx t (w.okT t (z7 _ ht)) (kt t ht)).symm,wf.tt⟩
 ·rcases z8.mp hu with h | hu
  ·subst h
   obtain ⟨_,a',L',q1,_,_,q4⟩:=ox hf
   rw [ea] at q1;cases q1
   exact w.ornone q4
  ·exact wf.fx.frT u hu hf a ea
set_option tactic.hygienic true in
theorem pp {i a:Nat} (h:(ρ[i]?).join=none):((L3.lowAt a ρ)[i]?).join=none:=by
 unfold L3.lowAt
 split
 ·rename_i d hd
  rw [bX (dM hd)]
  by_cases ia:i=a
  ·subst ia;rw [h] at hd;exact nsE hd
  ·rw [if_neg ia];exact h
 ·rename_i d hd
  rw [bX (dM hd)]
  by_cases ia:i=a
  ·subst ia;rw [h] at hd;exact nsE hd
  ·rw [if_neg ia];exact h
 ·exact h
theorem n9 {i:Nat}:∀ {is:List Nat} {ρ:Sto},(ρ[i]?).join=none->((L3.frz is ρ)[i]?).join=none
 | [],ρ,h=>h
 | a :: is,ρ,h=>n9 (is:=is) (ρ:=L3.lowAt a ρ) (pp h)
end
end L3
end
section
namespace L3
open PySem L2
noncomputable def gE (ρ:Sto):Nat->List (D × Fl)->Option (List (D × Fl))
 | _,[]=>some []
 | i,(d,.z) :: ps=>(gE ρ (i+1) ps).map fun r=>(d,.z) :: r
 | i,(d,f) :: ps=>match (ρ[i]?).join,gE ρ (i+1) ps with
  | some (d',f'),some r=>if f'=f\/f'=.z then some ((d',f') :: r) else none
  | _,_=>none
noncomputable def jh (n:Nat) (ps:List (D × Fl)):Sto:=ps.map some ++ List.replicate (n - ps.length) none
noncomputable def fn0 (n:Nat) (b:SM):Fn:=fun ps=>match b (jh n ps) with
 | some (.ok .nx,ρ')=>(gE ρ' 0 ps).map fun fs=>(.ok (.non,.z),fs)
 | some (.ok (.rt d f),ρ')=>(gE ρ' 0 ps).map fun fs=>(.ok (d,f),fs)
 | some (.error e,ρ')=>(gE ρ' 0 ps).map fun fs=>(.error e,fs)
 | _=>none
noncomputable def rN (b:Bool) (p:D × Fl):D × Fl:=if b then (p.1,.z) else p
noncomputable def fnM (mask:List Bool) (n:Nat) (b:SM):Fn:=fun ps=>if ps.length=mask.length then fn0 n b (List.zipWith rN mask ps) else none
section
variable {K:FG} {G:Gm} {W:D->Sto->Prop} {H H':Hp} {σ:St} {ρ ρ':Sto} {T T':List It3} {g:Nat->Option It3} {x y z:It3} {α β:Type}
noncomputable def gOf (H:Hp) (pr:Nat->Bool) (σ0:St) (ps:List It3):Gm:=⟨H,fun b=>∃ p ∈ ps,p.f=.u/\p.v=.ref b,pr,σ0,H,dC ps,fun i=>(ps[i]?).map (·.v)⟩
theorem rZ {n:Nat} {ps:List (D × Fl)} (hn:ps.length<=n) (i:Nat):((jh n ps)[i]?).join=ps[i]?:=by
 unfold jh
 by_cases h:i < ps.length
 ·rw [AC (by simpa using h),Ai]
  cases ps[i]? <;> rfl
 ·rw [List.getElem?_append_right (by simpa using h),List.getElem?_replicate,List.getElem?_eq_none (by omega)]
  split <;> rfl
theorem lj {n:Nat} {vs:List V} {i:Nat} {v:V} (h:vs[i]?=some v):(vs.map some ++ List.replicate n (none:Option V))[i]?=some (some v):=by
 obtain ⟨hi,e⟩:=Ae.mp h
 rw [AC (by simpa using hi),Ai,h]
 rfl
theorem sH {n:Nat} {pr:Nat->Bool} {ps:List It3} (hn:ps.length<=n) (ha:∀ p ∈ ps,Arg K H p) (hp:ps.Pairwise Apart3) (hpr:∀ (i:Nat) (p:It3),ps[i]?=some p->p.f ≠ .z->pr i=true) :
  Wf K (gOf H pr ((ps.map (·.v)).map some ++ List.replicate (n - (ps.map (·.v)).length) none) ps) H ((ps.map (·.v)).map some ++ List.replicate (n - (ps.map (·.v)).length) none) (jh n (ps.map fun p=>(p.d,p.f))) [] (fun i=>ps[i]?):=by
 refine ⟨?_,fun i=>?_,fun i x e=>?_,fun i x e=>?_,fun _ h=>(by cases h),fun i j a b n ea eb=>?_,fun _ _ _ _ h=>(by cases h),.nil,fun b o e _=>e,fun i _=>rfl,⟨fun _ h=>(by cases h),fun i x e hz hf=>?_,fun b h=>?_,fun b o e=>⟨o,e⟩,fun i x e _=>(by show (ps[i]?).map (·.v)=_;rw [e];rfl)⟩⟩
 ·unfold jh;simp
 ·rw [rZ (by simpa using hn),Ai]
 ·exact lj (by rw [Ai,e];rfl)
 ·have hm:=Af e
  refine ⟨(ha x hm).rep,fun hf=>?_,fun c hc=>.inr ⟨x,hm,hc⟩⟩
  obtain ⟨m,a,L',v1,v2,v3⟩:=(ha x hm).own hf
  exact ⟨m,a,L',v1,v2,v3,fun hu=>.inr ⟨x,hm,hu,v1⟩⟩
 ·exact (dl hp (fun _ _=>Apart3.symm) n ea eb).1
 ·have hz:pr i=false:=hz
  rw [hpr i x e hf] at hz;cases hz
 ·obtain ⟨p,hm,hf,hv⟩:=h
  obtain ⟨_,a,L',v1,v2,_⟩:=(ha p hm).own (by rw [hf];intro q;cases q)
  rw [hv] at v1;cases v1
  exact ((ha p hm).rep.inH b (by rw [v2];exact zY)).ex
noncomputable def FinsOk (ρ:Sto) (i:Nat) (ps fs:List (D × Fl)):Prop:=fs.length=ps.length/\∀ (k:Nat) (p:D × Fl),ps[k]?=some p->∃ q,fs[k]?=some q/\(p.2=.z->q=p)/\(p.2 ≠ .z->(ρ[i+k]?).join=some q/\(q.2=p.2\/q.2=.z))
theorem FinsOk.cons {i:Nat} {p0 q0:D × Fl} {ps fs:List (D × Fl)} (h:FinsOk ρ (i+1) ps fs) (hz:p0.2=.z->q0=p0) (hn:p0.2 ≠ .z->(ρ[i]?).join=some q0/\(q0.2=p0.2\/q0.2=.z)):FinsOk ρ i (p0 :: ps) (q0 :: fs):=by
 refine ⟨by rw [Av,Av,h.1],fun k p hk=>?_⟩
 cases k with
 | zero=>cases hk;exact ⟨q0,rfl,hz,hn⟩
 | succ k =>
  obtain ⟨q,a,b,c⟩:=h.2 k p hk
  exact ⟨q,a,b,fun n=>by have:=c n;rwa [show i+1+k=i+(k+1) by omega] at this⟩
theorem iU:∀ {i:Nat} {ps:List (D × Fl)} {fs:List (D × Fl)},gE ρ i ps=some fs->FinsOk ρ i ps fs
 | i,[],fs,e=>by cases e;exact ⟨rfl,fun k p h=>by cases h⟩
 | i,p0 :: ps,fs,e=>by
  obtain ⟨d,f⟩:=p0
  have key:f ≠ .z->(match (ρ[i]?).join,gE ρ (i+1) ps with
    | some (d',f'),some r=>if f'=f\/f'=.z then some ((d',f') :: r) else none
    | _,_=>none)=some fs->FinsOk ρ i ((d,f) :: ps) fs:=fun hf e=>by
   cases h:(ρ[i]?).join with
   | none=>rw [h] at e;exact nsE e
   | some p0 =>
    cases h2:gE ρ (i+1) ps with
    | none=>rw [h,h2] at e;exact nsE e
    | some r =>
     rw [h,h2] at e
     obtain ⟨d',f'⟩:=p0
     dsimp only at e
     rcases Decidable.em (f'=f\/f'=.z) with hc | hc
     ·rw [if_pos hc] at e
      cases e
      exact (iU h2).cons (fun z=>absurd z hf) fun _=>⟨h,hc⟩
     ·rw [if_neg hc] at e;exact nsE e
  cases f with
  | z =>
   obtain ⟨r,h,h'⟩:=z5.mp (show (gE ρ (i+1) ps).map (fun r=>(d,Fl.z) :: r)=some fs from e)
   subst h'
   exact (iU h).cons (fun _=>rfl) fun n=>absurd rfl n
  | u=>exact key (by intro q;cases q) e
  | l=>exact key (by intro q;cases q) e
theorem je {α β:Type} {P:Nat->α->β->Prop}:∀ (l:List α) (i:Nat),(∀ (k:Nat) a,l[k]?=some a->∃ b,P (i+k) a b)->∃ m:List β,m.length=l.length/\∀ (k:Nat) a,l[k]?=some a->∃ b,m[k]?=some b/\P (i+k) a b
 | [],i,_=>⟨[],rfl,fun k a h=>by simp at h⟩
 | a :: l,i,h=>by
  obtain ⟨b,hb⟩:=h 0 a rfl
  obtain ⟨m,h1,h2⟩:=je l (i+1) fun k a e=>by
   have:=h (k+1) a (by simpa using e)
   rwa [show i+(k+1)=i+1+k by omega] at this
  refine ⟨b :: m,by simp [h1],fun k a' e=>?_⟩
  cases k with
  | zero=>simp at e;subst e;exact ⟨b,rfl,hb⟩
  | succ k =>
   obtain ⟨b',e1,e2⟩:=h2 k a' (by simpa using e)
   exact ⟨b',by simpa using e1,by rwa [show i+(k+1)=i+1+k by omega]⟩
theorem Paired.ofGet {α β:Type} {F:α->β->Prop}:∀ {l:List α} {m:List β},l.length=m.length->(∀ (k:Nat) a b,l[k]?=some a->m[k]?=some b->F a b)->Paired F l m
 | [],[],_,_=>.nil
 | [],_ :: _,h,_=>by cases h
 | _ :: _,[],h,_=>by cases h
 | a :: l,b :: m,h,f=>.cons (f 0 a b rfl rfl) (Paired.ofGet (by simpa using h) fun k a b e1 e2=>f (k+1) a b (by simpa using e1) (by simpa using e2))
theorem oI {n:Nat} {pr:Nat->Bool} {σ0:St} {ps:List It3} {fs:List (D × Fl)} (ha:∀ p ∈ ps,Arg K H p) (hp:ps.Pairwise Apart3) (hpr:∀ (i:Nat) (p:It3),ps[i]?=some p->p.f ≠ .z->pr i=true) (h0:∀ (i:Nat) (p:It3),ps[i]?=some p->σ0[i]?=some (some p.v))
  (w:Wf K (gOf H pr σ0 ps) H' σ ρ T g) (e:gE ρ 0 (ps.map fun p=>(p.d,p.f))=some fs) :
  ∃ qs,BehindX K H H' ps qs/\qs.map (fun q=>(q.d,q.f))=fs/\(∀ (k:Nat) (p q:It3),ps[k]?=some p->qs[k]?=some q->(p.f=.z/\q=p)\/(p.f ≠ .z/\g k=some q)):=by
 obtain ⟨hl,hs⟩:=iU e
 rw [Ad] at hl
 have frame:∀ b o,H b=some o->(∀ p ∈ ps,p.f=.u->p.v ≠ .ref b)->H' b=some o:=fun b o hb hn=>w.base b o hb fun ⟨p,hm,hf,hv⟩=>hn p hm hf hv
 have there:∀ b o,H b=some o->∃ o',H' b=some o':=fun b o hb=>w.fx.ob b o hb
 have repz:∀ (k:Nat) (p:It3),ps[k]?=some p->p.f=.z->Rep K H' p.d p.v p.L:=fun k p ek hz=>by
  refine (ha p (Af ek)).rep.keep (M:=fun b=>∃ p ∈ ps,p.f=.u/\p.v=.ref b) (fun b o hb hn=>frame b o hb fun p hp hf hv=>hn ⟨p,hp,hf,hv⟩) (fun b ⟨p',hm,hf,hv⟩=>?_) fun b hb ⟨p',hm,hf,hv⟩=>?_
  ·obtain ⟨_,a,L',v1,v2,_⟩:=(ha p' hm).own (by rw [hf];intro q;cases q)
   rw [hv] at v1;cases v1
   exact (ha p' hm).rep.inH b (by rw [v2];exact zY)
  ·obtain ⟨j,hj,ej⟩:=List.mem_iff_getElem.mp hm
   have ej':ps[j]?=some p':=by rw [z9 hj,ej]
   have jk:j ≠ k:=fun z=>by subst z;rw [ek] at ej';cases ej';rw [hz] at hf;cases hf
   exact (dl hp (fun _ _=>Apart3.symm) jk ej' ek).1 (by rw [hf];intro q;cases q) b hv hb
 have one:∀ (k:Nat) (p:It3),ps[k]?=some p->∃ q,(q.d,q.f)=(fs[k]?).getD (p.d,p.f)/\fs[k]?=some (q.d,q.f)/\Back1 K H H' ps p q/\((p.f=.z/\q=p)\/(p.f ≠ .z/\g k=some q)):=fun k p ek=>by
  have hm:=Af ek
  obtain ⟨q0,f1,f2,f3⟩:=hs k (p.d,p.f) (by rw [Ai,ek];rfl)
  by_cases hz:p.f=.z
  ·have:=f2 hz
   subst this
   refine ⟨p,by rw [f1];rfl,f1,⟨fun _=>rfl,rfl,.inl rfl,⟨repz k p ek hz,fun h=>absurd hz h⟩,fun c hc=>.inr ⟨p,hm,hc⟩,fun h=>?_⟩,.inl ⟨hz,rfl⟩⟩
   rw [hz] at h;cases h
  ·obtain ⟨h1,h2⟩:=f3 hz
   rw [As] at h1
   obtain ⟨y,y1,y2,y3,y4⟩:=w.slot (d:=q0.1) (f:=q0.2) h1
   have hv:y.v=p.v:=by
    have:=w.pro k (hpr k p ek hz)
    rw [y4] at this
    have h0:some (some y.v)=some (some p.v):=this.trans (h0 k p ek)
    injection h0 with h0
    injection h0
   have ok:=w.okS k y y1
   refine ⟨y,by rw [f1,y2,y3];rfl,by rw [f1,y2,y3],⟨fun h=>absurd h hz,hv,by rw [y3];exact h2,⟨ok.rep,fun hf=>?_⟩,fun c hc=>ok.src c hc,fun hf b hb=>?_⟩,.inr ⟨hz,y1⟩⟩
   ·obtain ⟨m,a,L',v1,v2,v3,_⟩:=ok.own hf
    exact ⟨m,a,L',v1,v2,v3⟩
   ·obtain ⟨_,a,L',v1,v2,_⟩:=(ha p hm).own hz
    rw [hb] at v1;cases v1
    obtain ⟨o,ho⟩:=((ha p hm).rep.inH b (by rw [v2];exact zY)).ex
    exact there b o ho
 obtain ⟨qs,hq,hall⟩:=je (P:=fun k p q=>fs[k]?=some (q.d,q.f)/\Back1 K H H' ps p q/\((p.f=.z/\q=p)\/(p.f ≠ .z/\g k=some q))) ps 0 fun k p ek=>by
  obtain ⟨q,_,a,b,c⟩:=one k p ek
  exact ⟨q,by simpa using ⟨a,b,c⟩⟩
 have get:∀ (k:Nat) (p q:It3),ps[k]?=some p->qs[k]?=some q->fs[k]?=some (q.d,q.f)/\Back1 K H H' ps p q/\((p.f=.z/\q=p)\/(p.f ≠ .z/\g k=some q)):=fun k p q ep eq=>by
  obtain ⟨q',e1,e2⟩:=hall k p ep
  rw [eq] at e1
  cases e1
  simpa using e2
 have par:∀ (k:Nat) (q:It3),qs[k]?=some q->∃ p,ps[k]?=some p:=fun k q e=>by
  have hk:=(Ae.mp e).1
  exact ⟨ps[k]'(by omega),by simp [show k < ps.length by omega]⟩
 refine ⟨qs,⟨frame,Paired.ofGet hq.symm fun k p q ep eq=>(get k p q ep eq).2.1,?_⟩,?_,fun k p q ep eq=>(get k p q ep eq).2.2⟩
 ·rw [List.pairwise_iff_getElem]
  intro k j hk hj lt
  have ek:qs[k]?=some qs[k]:=z9 hk
  have ej:qs[j]?=some qs[j]:=z9 hj
  have side:∀ (k j:Nat) (q r:It3),k ≠ j->qs[k]?=some q->qs[j]?=some r->NoRoot q r:=fun k j q r n eq er=>by
   obtain ⟨p,ep⟩:=par k q eq
   obtain ⟨p',ep'⟩:=par j r er
   obtain ⟨_,b,c⟩:=get k p q ep eq
   obtain ⟨_,b',c'⟩:=get j p' r ep' er
   rcases c with ⟨hz,e⟩ | ⟨hz,e⟩
   ·rw [e];exact fun h=>absurd hz h
   ·rcases c' with ⟨hz',e'⟩ | ⟨hz',e'⟩
    ·rw [e']
     intro hf a ea
     exact (dl hp (fun _ _=>Apart3.symm) n ep ep').1 hz a (by rw [<- b.v];exact ea)
    ·exact w.ss k j q r n e e'
  exact ⟨side k j _ _ (Al lt) ek ej,side j k _ _ (Nat.ne_of_gt lt) ej ek⟩
 ·refine List.ext_getElem? fun k=>?_
  rw [Ai]
  cases eq:qs[k]? with
  | none =>
   have:qs.length<=k:=List.getElem?_eq_none_iff.mp eq
   rw [List.getElem?_eq_none (by omega)]
   rfl
  | some q =>
   obtain ⟨p,ep⟩:=par k q eq
   rw [(get k p q ep eq).1]
   rfl
theorem pK {n:Nat} {pr:Nat->Bool} {σ0:St} {ps:List It3} {fs:List (D × Fl)} (ha:∀ p ∈ ps,Arg K H p) (hp:ps.Pairwise Apart3) (hpr:∀ (i:Nat) (p:It3),ps[i]?=some p->p.f ≠ .z->pr i=true) (h0:∀ (i:Nat) (p:It3),ps[i]?=some p->σ0[i]?=some (some p.v))
  (w:Wf K (gOf H pr σ0 ps) H' σ ρ (x :: T) g) (e:gE ρ 0 (ps.map fun p=>(p.d,p.f))=some fs):∃ qs,Behind K H H' ps qs x/\qs.map (fun q=>(q.d,q.f))=fs:=by
 obtain ⟨qs,B,f,hg⟩:=oI (n:=n) ha hp hpr h0 w e
 have ok:=w.okT x zY
 refine ⟨qs,⟨B,ok.rep,fun hf=>?_,fun c hc=>ok.src c hc,fun q hq=>?_⟩,f⟩
 ·obtain ⟨m,a,L',v1,v2,v3,_⟩:=ok.own hf
  exact ⟨m,a,L',v1,v2,v3,w.fx.frT x zY hf a v1⟩
 ·obtain ⟨k,hk,ek⟩:=List.mem_iff_getElem.mp hq
  have eq:qs[k]?=some q:=by rw [z9 hk,ek]
  obtain ⟨p,ep,b⟩:=Paired.exR B.back eq
  rcases hg k p q ep eq with ⟨hz,e⟩ | ⟨hz,e⟩
  ·rw [e]
   refine ⟨fun hf a ea hm=>?_,fun h=>absurd hz h⟩
   have h1:=w.fx.frT x zY hf a ea
   obtain ⟨o,ho⟩:=((ha p (Af ep)).rep.inH a hm).ex
   have h2:H a=none:=h1
   rw [h2] at ho;exact nsE ho
  ·exact (w.st k q e x zY).symm
end
end L3
end
section
namespace L3
open PySem L2
noncomputable def dm:Fl->Fl
 | .u=>.l
 | f=>f
noncomputable def bm (x:It3):It3:={ x with f:=dm x.f }
noncomputable def gz:Fl->Fl
 | .l=>.u
 | f=>f
noncomputable def u8 (x:It3):It3:={ x with f:=gz x.f }
noncomputable def kh (h:Fl->Fl) (i:Nat) (ρ:Sto):Sto:=match (ρ[i]?).join with
 | some (d,f)=>ρ.set i (some (d,h f))
 | none=>ρ
noncomputable def aN (h:Fl->Fl) (is:List Nat) (ρ:Sto):Sto:=is.foldl (fun ρ i=>kh h i ρ) ρ
noncomputable def us (ρ:Sto) (is:List Nat):List Nat:=is.filter fun i=>match (ρ[i]?).join with
 | some (_,.u)=>true
 | _=>false
theorem lentF_z {f:Fl}:dm f=.z ↔ f=.z:=by cases f <;> simp [dm]
theorem unlF_z {f:Fl}:gz f=.z ↔ f=.z:=by cases f <;> simp [gz]
theorem qo (f:Fl):dm f ≠ .u:=by cases f <;> simp [dm]
theorem xT (f:Fl):gz f ≠ .l:=by cases f <;> simp [gz]
section
variable {K:FG} {G G0:Gm} {W W0:D->Sto->Prop} {H H':Hp} {σ:St} {ρ ρ':Sto} {T T':List It3} {g:Nat->Option It3} {x y z:It3} {α β:Type}
theorem pe {h:Fl->Fl} {i j:Nat}:((kh h i ρ)[j]?).join=if j=i then ((ρ[j]?).join).map (fun p=>(p.1,h p.2)) else (ρ[j]?).join:=by
 unfold kh
 cases e:(ρ[i]?).join with
 | none =>
  by_cases q:j=i
  ·subst q;rw [if_pos rfl,e];rfl
  ·rw [if_neg q]
 | some p =>
  obtain ⟨d,f⟩:=p
  dsimp only
  rw [bX (dM e)]
  by_cases q:j=i
  ·subst q;rw [if_pos rfl,if_pos rfl,e];rfl
  ·rw [if_neg q,if_neg q]
theorem rH {h:Fl->Fl} {i:Nat}:(kh h i ρ).length = ρ.length:=by
 unfold kh
 split
 ·rw [List.length_set]
 ·rfl
theorem fY {h:Fl->Fl} (hh:∀ f,h (h f)=h f):∀ {is:List Nat} {ρ:Sto} {j:Nat},((aN h is ρ)[j]?).join=if j ∈ is then ((ρ[j]?).join).map (fun p=>(p.1,h p.2)) else (ρ[j]?).join
 | [],ρ,j=>by simp [aN]
 | i :: is,ρ,j=>by
  have e:aN h (i :: is) ρ=aN h is (kh h i ρ):=rfl
  rw [e,fY hh,pe]
  by_cases q:j=i
  ·subst q
   by_cases m:j ∈ is
   ·rw [if_pos m,if_pos rfl,if_pos zY]
    cases (ρ[j]?).join with
    | none=>rfl
    | some p=>simp [hh]
   ·rw [if_neg m,if_pos rfl,if_pos zY]
  ·by_cases m:j ∈ is
   ·rw [if_pos m,if_neg q,if_pos (zZ _ m)]
   ·rw [if_neg m,if_neg q,if_neg (fun z=>(z8.mp z).elim q m)]
theorem gL {h:Fl->Fl}:∀ {is:List Nat} {ρ:Sto},(aN h is ρ).length = ρ.length
 | [],ρ=>rfl
 | i :: is,ρ=>by
  have e:aN h (i :: is) ρ=aN h is (kh h i ρ):=rfl
  rw [e,gL,rH]
noncomputable def dZ (G:Gm) (H:Hp) (g:Nat->Option It3) (is:List Nat):Gm :=
 ⟨H,fun b=>∃ j y,j ∉ is/\g j=some y/\y.f=.u/\y.v=.ref b,G.pr,G.σ0,G.orig,fun c=>G.H0 c=none\/G.src c,fun j=>if j ∈ is then (g j).map (·.v) else G.lv j⟩
structure Fk (x y:It3):Prop where
 d:y.d=x.d
 v:y.v=x.v
 L:y.L=x.L
 z:y.f=.z ↔ x.f=.z
theorem Fk.noRoot {x x' y y':It3} (a:Fk x x') (b:Fk y y') (h:NoRoot x y):NoRoot x' y':=fun hf c e=>by
 rw [b.L]
 exact h (fun q=>hf (a.z.mpr q)) c (by rw [<- a.v];exact e)
theorem Fk.apart {x x' y y':It3} (a:Fk x x') (b:Fk y y') (h:Apart3 x y):Apart3 x' y':=⟨a.noRoot b h.1,b.noRoot a h.2⟩
theorem Fk.refl (x:It3):Fk x x:=⟨rfl,rfl,rfl,Iff.rfl⟩
theorem jE (x:It3):Fk x (bm x):=⟨rfl,rfl,rfl,lentF_z⟩
theorem zH (x:It3):Fk x (u8 x):=⟨rfl,rfl,rfl,unlF_z⟩
theorem nJ {o:Option It3} {h:Fl->Fl} {p:Option (D × Fl)} (e:o.map (fun x=>(x.d,x.f))=p):(o.map fun x=>{ x with f:=h x.f }).map (fun x:It3=>(x.d,x.f))=p.map fun p=>(p.1,h p.2):=by
 subst e
 cases o <;> rfl
theorem Wf.enter (w:Wf K G H σ ρ T g) (is:List Nat):Wf K (dZ G H g is) H σ (aN dm is ρ) (T.map bm) (fun j=>if j ∈ is then (g j).map bm else g j):=by
 have val:∀ j u,(if j ∈ is then (g j).map bm else g j)=some u->∃ u0,g j=some u0/\Fk u0 u/\((j ∈ is/\u=bm u0)\/(j ∉ is/\u=u0)):=fun j u h=>by
  by_cases q:j ∈ is
  ·rw [if_pos q] at h
   obtain ⟨u0,e1,e2⟩:=z5.mp h
   subst e2
   exact ⟨u0,e1,jE u0,.inl ⟨q,rfl⟩⟩
  ·rw [if_neg q] at h
   exact ⟨u,h,Fk.refl u,.inr ⟨q,rfl⟩⟩
 refine ⟨by rw [gL];exact w.len,fun j=>?_,fun j u h=>?_,fun j u h=>?_,fun u hu=>?_,fun i j a b n ha hb=>?_,fun j a h b hb=>?_,?_,fun b o e _=>e,w.pro,⟨fun u hu hf a ea=>?_,fun j u h hp hf a ea=>?_,fun b hb=>?_,w.fx.ob,fun j u h hl=>?_⟩⟩
 ·rw [fY (by intro f;cases f <;> rfl)]
  by_cases q:j ∈ is
  ·rw [if_pos q,if_pos q];exact nJ (w.sl j)
  ·rw [if_neg q,if_neg q];exact w.sl j
 ·obtain ⟨u0,e,k,_⟩:=val j u h
  rw [k.v];exact w.sv j u0 e
 ·obtain ⟨u0,e,k,c⟩:=val j u h
  have ok:=w.okS j u0 e
  refine ⟨by rw [k.d,k.v,k.L];exact ok.rep,fun hf=>?_,fun c hc=>.inr (ok.src c (by rw [<- k.L];exact hc))⟩
  obtain ⟨m,a,L',v1,v2,v3,_⟩:=ok.own (fun q=>hf (k.z.mpr q))
  refine ⟨by rw [k.d];exact m,a,L',by rw [k.v];exact v1,by rw [k.L];exact v2,v3,fun hu=>?_⟩
  rcases c with ⟨_,rfl⟩ | ⟨nj,rfl⟩
  ·exact absurd hu (qo _)
  ·exact .inr ⟨j,u,nj,e,hu,v1⟩
 ·obtain ⟨u0,h0,rfl⟩:=Ah.mp hu
  have ok:=w.okT u0 h0
  refine ⟨ok.rep,fun hf=>?_,fun c hc=>.inr (ok.src c hc)⟩
  obtain ⟨m,a,L',v1,v2,v3,_⟩:=ok.own (fun q=>hf (lentF_z.mpr q))
  exact ⟨m,a,L',v1,v2,v3,fun hu=>absurd hu (qo _)⟩
 ·obtain ⟨a0,e1,k1,_⟩:=val i a ha
  obtain ⟨b0,e2,k2,_⟩:=val j b hb
  exact k1.noRoot k2 (w.ss i j a0 b0 n e1 e2)
 ·obtain ⟨a0,e1,k1,_⟩:=val j a h
  obtain ⟨b0,h0,rfl⟩:=Ah.mp hb
  exact k1.apart (jE b0) (w.st j a0 e1 b0 h0)
 ·rw [List.pairwise_map]
  exact w.tt.imp fun {a b} h=>(jE a).apart (jE b) h
 ·obtain ⟨u0,h0,rfl⟩:=Ah.mp hu
  exact w.fx.frT u0 h0 (fun q=>hf (lentF_z.mpr q)) a ea
 ·obtain ⟨u0,e,k,_⟩:=val j u h
  exact w.fx.frS j u0 e hp (fun q=>hf (k.z.mpr q)) a (by rw [<- k.v];exact ea)
 ·obtain ⟨j,y,_,e,hf,hv⟩:=hb
  obtain ⟨_,a,L',v1,v2,_⟩:=(w.okS j y e).own (by rw [hf];intro q;cases q)
  rw [hv] at v1;cases v1
  exact ((w.okS j y e).rep.inH b (by rw [v2];exact zY)).ex
 ·obtain ⟨u0,e,k,c⟩:=val j u h
  show (if j ∈ is then (g j).map (·.v) else G.lv j)=_
  rcases c with ⟨q,rfl⟩ | ⟨q,rfl⟩
  ·rw [if_pos q,e];rfl
  ·rw [if_neg q];exact w.fx.lvS j u e hl
theorem Wf.leave {is:List Nat} {σ':St} {ρ2:Sto} {g2:Nat->Option It3} {R:List It3} (w:Wf K G H σ ρ T g) (his:∀ i ∈ is,∀ y,g i=some y->y.f=.u) (hT:T'.Sublist T) (w2:Wf K (dZ G H g is) H' σ' ρ2 (R ++ T'.map bm) g2) :
  Wf K G H' σ' (aN gz is ρ2) (R ++ T') (fun j=>if j ∈ is then (g2 j).map u8 else g2 j):=by
 have val:∀ j u,(if j ∈ is then (g2 j).map u8 else g2 j)=some u->∃ u0,g2 j=some u0/\Fk u0 u/\((j ∈ is/\u=u8 u0)\/(j ∉ is/\u=u0)):=fun j u h=>by
  by_cases q:j ∈ is
  ·rw [if_pos q] at h
   obtain ⟨u0,e1,e2⟩:=z5.mp h
   subst e2
   exact ⟨u0,e1,zH u0,.inl ⟨q,rfl⟩⟩
  ·rw [if_neg q] at h
   exact ⟨u,h,Fk.refl u,.inr ⟨q,rfl⟩⟩
 have may:∀ a,H a=none\/(∃ j y,j ∉ is/\g j=some y/\y.f=.u/\y.v=.ref a)->G.H0 a=none\/G.bw a:=fun a h=>by
  rcases h with h | ⟨j,y,_,e,hf,hv⟩
  ·exact .inl (w.h0none h)
  ·obtain ⟨_,a',L',v1,_,_,v4⟩:=(w.okS j y e).own (by rw [hf];intro q;cases q)
   rw [hv] at v1;cases v1
   exact v4 hf
 have srcs:∀ c,H c=none\/(G.H0 c=none\/G.src c)->G.H0 c=none\/G.src c:=fun c h=>by
  rcases h with h | h
  ·exact .inl (w.h0none h)
  ·exact h
 have tm:∀ x ∈ T',x ∈ T:=fun x hx=>hT.subset hx
 have dom:∀ b o,H b=some o->∃ o',H' b=some o':=fun b o hb=>by
  by_cases q:∃ j y,j ∉ is/\g j=some y/\y.f=.u/\y.v=.ref b
  ·exact w2.fx.bin b q
  ·exact ⟨o,w2.base b o hb q⟩
 refine ⟨by rw [gL];exact w2.len,fun j=>?_,fun j u h=>?_,fun j u h=>?_,fun u hu=>?_,fun i j a b n ha hb=>?_,fun j a h b hb=>?_,?_,fun b o e n=>?_,w2.pro,⟨fun u hu=>?_,fun j u h hp hf a ea=>?_,fun b hb=>?_,w2.fx.ob,fun j u h hl=>?_⟩⟩
 ·rw [fY (by intro f;cases f <;> rfl)]
  by_cases q:j ∈ is
  ·rw [if_pos q,if_pos q];exact nJ (w2.sl j)
  ·rw [if_neg q,if_neg q];exact w2.sl j
 ·obtain ⟨u0,e,k,_⟩:=val j u h
  rw [k.v];exact w2.sv j u0 e
 ·obtain ⟨u0,e,k,c⟩:=val j u h
  have ok:=w2.okS j u0 e
  refine ⟨by rw [k.d,k.v,k.L];exact ok.rep,fun hf=>?_,fun c hc=>srcs c (ok.src c (by rw [<- k.L];exact hc))⟩
  obtain ⟨m,a,L',v1,v2,v3,v4⟩:=ok.own (fun q=>hf (k.z.mpr q))
  refine ⟨by rw [k.d];exact m,a,L',by rw [k.v];exact v1,by rw [k.L];exact v2,v3,fun hu=>?_⟩
  rcases c with ⟨q,rfl⟩ | ⟨nj,rfl⟩
  ·cases hf0:u0.f with
   | u=>exact may a (v4 hf0)
   | l =>
    have hl:=w2.fx.lvS j u0 e hf0
    have hl:(if j ∈ is then (g j).map (·.v) else G.lv j)=some u0.v:=hl
    rw [if_pos q] at hl
    obtain ⟨y,ey,ev⟩:=z5.mp hl
    have yu:=his j q y ey
    obtain ⟨_,a',L'',b1,_,_,b4⟩:=(w.okS j y ey).own (by rw [yu];intro q;cases q)
    rw [ev,v1] at b1;cases b1
    exact b4 yu
   | z=>exact absurd (unlF_z.mpr hf0) hf
  ·exact may a (v4 hu)
 ·rcases Ab.mp hu with hu | hu
  ·have ok:=w2.okT u (z6 _ hu)
   refine ⟨ok.rep,fun hf=>?_,fun c hc=>srcs c (ok.src c hc)⟩
   obtain ⟨m,a,L',v1,v2,v3,v4⟩:=ok.own hf
   exact ⟨m,a,L',v1,v2,v3,fun h=>may a (v4 h)⟩
  ·have ok:=w.okT u (tm u hu)
   exact ⟨(w2.okT (bm u) (z7 _ (Ah.mpr ⟨u,hu,rfl⟩))).rep,ok.own,ok.src⟩
 ·obtain ⟨a0,e1,k1,_⟩:=val i a ha
  obtain ⟨b0,e2,k2,_⟩:=val j b hb
  exact k1.noRoot k2 (w2.ss i j a0 b0 n e1 e2)
 ·obtain ⟨a0,e1,k1,_⟩:=val j a h
  rcases Ab.mp hb with hb | hb
  ·exact k1.apart (Fk.refl b) (w2.st j a0 e1 b (z6 _ hb))
  ·have:=w2.st j a0 e1 (bm b) (z7 _ (Ah.mpr ⟨b,hb,rfl⟩))
   exact k1.apart (y:=bm b) ⟨rfl,rfl,rfl,lentF_z.symm⟩ this
 ·have h:=List.pairwise_append.mp w2.tt
  refine List.pairwise_append.mpr ⟨h.1,w.tt.sublist hT,fun a ha b hb=>?_⟩
  exact (Fk.refl a).apart (y:=bm b) ⟨rfl,rfl,rfl,lentF_z.symm⟩ (h.2.2 a ha (bm b) (Ah.mpr ⟨b,hb,rfl⟩))
 ·have hb:=w.base b o e n
  refine w2.base b o hb fun q=>?_
  rcases may b (.inr q) with h | h
  ·rw [e] at h;cases h
  ·exact n h
 ·rcases Ab.mp hu with hu | hu
  ·exact w2.fx.frT u (z6 _ hu)
  ·exact w.fx.frT u (tm u hu)
 ·obtain ⟨u0,e,k,_⟩:=val j u h
  exact w2.fx.frS j u0 e hp (fun q=>hf (k.z.mpr q)) a (by rw [<- k.v];exact ea)
 ·obtain ⟨o,ho⟩:=w.fx.bin b hb
  exact dom b o ho
 ·obtain ⟨u0,e,k,c⟩:=val j u h
  rcases c with ⟨q,rfl⟩ | ⟨q,rfl⟩
  ·exact absurd hl (xT _)
  ·have:=w2.fx.lvS j u e hl
   have this:(if j ∈ is then (g j).map (·.v) else G.lv j)=some u.v:=this
   rw [if_neg q] at this
   exact this
theorem wR {is:List Nat} (w:Wf K G H σ ρ T g) (his:∀ i ∈ is,∀ y,g i=some y->y.f=.u):∀ (H':Hp) (σ':St) (ρ2:Sto) (T2:List It3) (g2:Nat->Option It3),Wf K (dZ G H g is) H' σ' ρ2 T2 g2->∃ g3,Wf K G H' σ' (aN gz is ρ2) [] g3 :=
 fun H' σ' ρ2 T2 g2 w2=>⟨_,by simpa using Wf.leave (T':=[]) (R:=[]) w his (List.nil_sublist T) (by simpa using w2.sub (List.nil_sublist T2))⟩
end
end L3
end
section
namespace L3
open PySem L2
section
variable {K:FG} {G G0:Gm} {W W0:D->Sto->Prop} {H H':Hp} {σ:St} {ρ ρ':Sto} {T T':List It3} {g:Nat->Option It3} {x y z:It3} {α β:Type}
noncomputable def Walk (K:FG) (J:It) (H1:Hp) (ys:List It3) (ds:List D):Prop:=∃ els:List It3,(∀ x ∈ els,x.f=.z/\Rep K H1 x.d x.v x.L/\∀ c ∈ x.L,dz ys c) /\
 ∀ (M:Addr->Prop) (H':Hp),(∀ b,M b->MutAt H1 b)->(∀ b o,H1 b=some o->¬ M b->H' b=some o)->(∀ y ∈ ys,∀ b ∈ y.L,¬ M b) ->
  (∀ (i:Nat) (d:D),ds[i]?=some d->J.go i H'/\∀ x H'',J.yld i H' x H''->∃ w,New K H' H'' (dC els) w/\w.d=d/\w.f=.z/\w.v=x)/\J.stop ds.length H'
noncomputable abbrev IM:=M3 (List R3 × List D)
noncomputable def EndI (K:FG) (G:Gm) (W:D->Sto->Prop) (σ:St) (T:List It3) (ρ':Sto) (R:It->Hp->Prop):Except D (List R3 × List D)->Prop
 | .ok p=>∀ J H1 vs Ts g1 ys,Wf K G H1 σ ρ' (Ts ++ T) g1->Ars σ p.1 vs Ts->(∀ y ∈ ys,(∃ i,i ∈ pls p.1/\g1 i=some y)\/y ∈ Ts)->Walk K J H1 ys p.2->R J H1
 | .error e=>W e ρ'
noncomputable def tI (K:FG) (G0:Gm) (W0:D->Sto->Prop) (m:IM):TI:=fun σ H R=>∃ G W,Le K G W G0 W0/\∃ ρ T g r ρ',Wf K G H σ ρ T g/\m ρ=some (r,ρ')/\EndI K G W σ T ρ' R r
theorem tI.seq {m:IM} {k:List R3 × List D->M3 β} {r:Except D β} {P:It->Hp->Prop} (le:Le K G W G0 W0) (w:Wf K G H σ ρ T g) (e:ae m k ρ=some (r,ρ')) (he:∀ x,r=.error x->W x ρ')
  (h:∀ p ρ1,k p ρ1=some (r,ρ')->EndI K G W σ T ρ1 P (.ok p)):tI K G0 W0 m σ H P:=by
 unfold ae at e
 cases q:m ρ with
 | none=>rw [q] at e;exact nsE e
 | some p =>
  obtain ⟨o,ρ1⟩:=p
  rw [q] at e
  cases o with
  | error x=>cases e;exact ⟨G,W,le,ρ,T,g,.error x,ρ',w,q,he x rfl⟩
  | ok ra=>exact ⟨G,W,le,ρ,T,g,.ok ra,ρ1,w,q,h ra ρ1 e⟩
noncomputable def Bnd (K:FG) (pr:Nat->Bool) (tg:TG) (bnd:D->Sto->Option Sto):Prop:=∀ (G:Gm) (H:Hp) (σ:St) (ρ ρ1:Sto) (T:List It3) (g:Nat->Option It3) (w:It3) (Q:St->Hp->Prop),G.pr=pr->w.f=.z->Wf K G H σ ρ (w :: T) g->bnd w.d ρ=some ρ1 ->
 (∀ σ2 g2,Wf K G H σ2 ρ1 T g2->Q σ2 H)->tg w.v σ H Q
noncomputable def ay (i:Nat) (d:D) (ρ:Sto):Option Sto:=if i < ρ.length then some (ρ.set i (some (d,.z))) else none
set_option tactic.hygienic true in
theorem bL {pr:Nat->Bool} {i:Nat} (hp:pr i=false):Bnd K pr (qy i) (ay i):=fun G H σ ρ ρ1 T g w Q hpr hz wf e q=>by
 unfold ay at e
 split at e
 ·rename_i hi
  cases e
  exact q _ _ (wf.store (f:=.z) hi (by rw [hpr];exact hp) (.inr rfl) (by intro h;cases h))
 ·exact nsE e
noncomputable def u7 (K:FG) (pr:Nat->Bool) (tg:TGs) (bnd:List D->Sto->Option Sto):Prop:=∀ (G:Gm) (H:Hp) (σ:St) (ρ ρ1:Sto) (T:List It3) (g:Nat->Option It3) (ws:List It3) (Q:St->Hp->Prop),G.pr=pr->(∀ w ∈ ws,w.f=.z)->Wf K G H σ ρ (ws ++ T) g->bnd (ws.map (·.d)) ρ=some ρ1 ->
 (∀ σ2 g2,Wf K G H σ2 ρ1 T g2->Q σ2 H)->tg (ws.map (·.v)) σ H Q
noncomputable def pM:List D->Sto->Option Sto
 | [],ρ=>some ρ
 | _,_=>none
noncomputable def fI (b:D->Sto->Option Sto) (bs:List D->Sto->Option Sto):List D->Sto->Option Sto
 | [],_=>none
 | d :: ds,ρ=>match b d ρ with
  | some ρ1=>bs ds ρ1
  | none=>none
theorem oF {pr:Nat->Bool}:u7 K pr gNil pM:=fun G H σ ρ ρ1 T g ws Q _ _ wf e q=>by
 cases ws with
 | nil=>cases e;exact ⟨rfl,q _ _ wf⟩
 | cons w ws=>exact nsE e
theorem i6 {pr:Nat->Bool} {tg:TG} {tgs:TGs} {b:D->Sto->Option Sto} {bs:List D->Sto->Option Sto} (h1:Bnd K pr tg b) (h2:u7 K pr tgs bs):u7 K pr (xM tg tgs) (fI b bs):=fun G H σ ρ ρ1 T g ws Q hpr hz wf e q=>by
 cases ws with
 | nil=>exact nsE e
 | cons w ws =>
  have e:(match b w.d ρ with | some ρ1=>bs (ws.map (·.d)) ρ1 | none=>none)=some ρ1:=e
  cases q1:b w.d ρ with
  | none=>rw [q1] at e;exact nsE e
  | some ρ2 =>
   rw [q1] at e
   exact ⟨w.v,ws.map (·.v),rfl,h1 G H σ ρ ρ2 (ws ++ T) g w _ hpr (hz w zY) wf q1 fun σ2 g2 w2=>h2 G H σ2 ρ2 ρ1 T g2 ws Q hpr (fun x hx=>hz x (zZ _ hx)) w2 e q⟩
noncomputable def pL (n:Nat) (bs:List D->Sto->Option Sto):D->Sto->Option Sto
 | .tup ds,ρ=>if ds.length=n then bs ds ρ else none
 | _,_=>none
theorem Reps.split:∀ {ds:List D} {vs:List V} {L:List Addr},Reps (Rep K H) ds vs L->∃ ws:List It3,ws.map (·.d)=ds/\ws.map (·.v)=vs/\(∀ w ∈ ws,w.f=.z/\Rep K H w.d w.v w.L/\∀ c ∈ w.L,c ∈ L)
 | _,_,_,.nil=>⟨[],rfl,rfl,fun _ h=>(by cases h)⟩
 | _,_,_,.cons (d:=d) (v:=v) (L:=L) r rs=>by
  obtain ⟨ws,h1,h2,h3⟩:=Reps.split rs
  refine ⟨⟨d,v,L,.z⟩ :: ws,by simp [h1],by simp [h2],fun w hw=>?_⟩
  rcases z8.mp hw with h | h
  ·subst h;exact ⟨rfl,r,fun c hc=>z6 _ hc⟩
  ·exact ⟨(h3 w h).1,(h3 w h).2.1,fun c hc=>z7 _ ((h3 w h).2.2 c hc)⟩
theorem Wf.pushAll:∀ {ws:List It3} {T:List It3},Wf K G H σ ρ T g->(∀ w ∈ ws,w.f=.z/\Rep K H w.d w.v w.L/\∀ c ∈ w.L,dN T g c/\(G.H0 c=none\/G.src c))->Wf K G H σ ρ (ws ++ T) g
 | [],T,w,_=>w
 | x :: ws,T,w,h=>by
  have w1:=Wf.pushAll (ws:=ws) w fun y hy=>h y (zZ _ hy)
  obtain ⟨hz,hr,hc⟩:=h x zY
  refine w1.push (Ks:=fun c=>c ∈ x.L) ⟨Same.refl _,hr,fun c h=>.inr h,fun q=>absurd hz q⟩ fun c m=>⟨⟨(hc c m).1.1,fun y hy hf=>?_⟩,(hc c m).2⟩
  rcases Ab.mp hy with q | q
  ·exact absurd (h y (zZ _ q)).1 hf
  ·exact (hc c m).1.2 y q hf
set_option tactic.hygienic true in
theorem qJ {pr:Nat->Bool} {n:Nat} {tgs:TGs} {bs:List D->Sto->Option Sto} (h2:u7 K pr tgs bs):Bnd K pr (gTup K n tgs) (pL n bs):=fun G H σ ρ ρ1 T g w Q hpr hz wf e q=>by
 have r:=(wf.okT w zY).rep
 obtain ⟨d,v,L,f⟩:=w
 cases r with
 | @tup xs a vs _ hs rs =>
  have e:(if xs.length=n then bs xs ρ else none)=some ρ1:=e
  split at e
  ·rename_i hl
   obtain ⟨ws,h1,h3,h4⟩:=Reps.split rs
   refine ⟨a,vs,rfl,SqT.of hs,?_,?_⟩
   ·rw [<- h3,Ad,<- hl,<- h1,Ad]
   ·have w1:Wf K G H σ ρ (ws ++ (⟨.tup xs,.ref a,L,f⟩ :: T)) g:=wf.pushAll fun u hu=>⟨(h4 u hu).1,(h4 u hu).2.1,fun c hc=>⟨wf.kid (y:=⟨.tup xs,.ref a,L,f⟩) (.inr zY) ((h4 u hu).2.2 c hc) fun hf=>absurd hz hf,(wf.okT _ zY).src c ((h4 u hu).2.2 c hc)⟩⟩
    have w2:Wf K G H σ ρ (ws ++ T) g:=w1.sub ((List.Sublist.refl ws).append (List.sublist_cons_self _ _))
    rw [<- h3]
    exact h2 G H σ ρ ρ1 T g ws Q hpr (fun u hu=>(h4 u hu).1) w2 (by rw [h1];exact e) q
  ·exact nsE e
 | non=>exact nsE e
 | bl b=>exact nsE e
 | int i=>exact nsE e
 | str s=>exact nsE e
 | lst _ _=>exact nsE e
 | lstF _ _=>exact nsE e
 | dK _ _ _=>exact nsE e
 | dT _ _ _=>exact nsE e
 | exc _ _=>exact nsE e
noncomputable def fw (bnd:D->Sto->Option Sto) (b:SM):List D->SM
 | []=>bb .nx
 | d :: ds=>fun ρ=>match bnd d ρ with
  | none=>none
  | some ρ1=>ae b (fun f=>match f with
   | .nx=>fw bnd b ds
   | .ct=>fw bnd b ds
   | .br=>bb .nx
   | .rt d f=>bb (.rt d f)) ρ1
noncomputable def di (im:IM) (bnd:D->Sto->Option Sto) (b:SM):SM:=ae im fun p=>fun ρ=>(fw bnd b p.2 (aN dm (us ρ (pls p.1)) ρ)).map fun r=>(r.1,aN gz (us ρ (pls p.1)) r.2)
theorem us_u {is:List Nat} (w:Wf K G H σ ρ T g):∀ i ∈ us ρ is,∀ y,g i=some y->y.f=.u:=fun i hi y ey=>by
 have h:=(AB.mp hi).2
 have s:=w.sl i
 rw [ey] at s
 have s:some (y.d,y.f)=(ρ[i]?).join:=s
 rw [<- s] at h
 cases hf:y.f with
 | u=>rfl
 | l=>rw [hf] at h;cases h
 | z=>rw [hf] at h;cases h
theorem sI {is:List Nat} {i:Nat} (w:Wf K G H σ ρ T g) (hi:i ∈ is) (ey:g i=some y) (hf:y.f=.u):i ∈ us ρ is:=by
 refine AB.mpr ⟨hi,?_⟩
 have s:=w.sl i
 rw [ey] at s
 have s:some (y.d,y.f)=(ρ[i]?).join:=s
 rw [<- s,hf]
theorem yg {im:IM} {bnd:D->Sto->Option Sto} {b:SM} {tg:TG} {E:Ends} (hb:Bnd K G0.pr tg bnd) (h:tS K G0 W0 (di im bnd b) E σ H):tFor (tI K G0 W0 im) tg (tS K G0 W0 b) E σ H:=by
 refine h.use fun G W le ρ T g r ρ' w e q=>?_
 refine tI.seq le w e q.err fun p ρ1 e1=>?_
 intro J H1 vs Ts g1 ys w1 a1 hys hw
 have his:=us_u (is:=pls p.1) w1
 have hus:∀ i y,i ∈ pls p.1->g1 i=some y->y.f=.u->i ∈ us ρ1 (pls p.1):=fun i y hi ey hf=>sI w1 hi ey hf
 generalize us ρ1 (pls p.1)=is at e1 his hus
 have w2:=w1.enter is
 obtain ⟨els,hels,walk⟩:=hw
 have hM:∀ b,(∃ j y,j ∉ is/\g1 j=some y/\y.f=.u/\y.v=.ref b)->MutAt H1 b:=fun b ⟨j,y,_,ey,hf,hv⟩=>by
  obtain ⟨_,a,L',v1,v2,_⟩:=(w1.okS j y ey).own (by rw [hf];intro q;cases q)
  rw [hv] at v1;cases v1
  exact (w1.okS j y ey).rep.inH b (by rw [v2];exact zY)
 have hysM:∀ y ∈ ys,∀ b ∈ y.L,¬ ∃ j y,j ∉ is/\g1 j=some y/\y.f=.u/\y.v=.ref b:=fun y hy b hb ⟨j,y',nj,ey',hf,hv⟩=>by
  have hfz:y'.f ≠ .z:=by rw [hf];intro q;cases q
  rcases hys y hy with ⟨i,hi,ei⟩ | hy
  ·by_cases ij:i=j
   ·subst ij
    rw [ei] at ey';cases ey'
    exact nj (hus i y hi ei hf)
   ·exact w1.ss j i y' y (Ne.symm ij) ey' ei hfz b hv hb
  ·exact (w1.st j y' ey' y (z6 _ hy)).1 hfz b hv hb
 have hitm:∀ y ∈ ys,Itm (Ts ++ T) g1 y:=fun y hy=>by
  rcases hys y hy with ⟨i,_,ei⟩ | h
  ·exact .inl ⟨i,ei⟩
  ·exact .inr (z6 _ h)
 have kid:∀ x ∈ els,∀ c ∈ x.L,dN ((Ts ++ T).map bm) (fun j=>if j ∈ is then (g1 j).map bm else g1 j) c/\(H1 c=none\/(G.H0 c=none\/G.src c)):=fun x hx c hc=>by
  obtain ⟨nr,sr⟩:=w1.kids hitm ((hels x hx).2.2 c hc)
  refine ⟨⟨fun i z ez hf hv=>?_,fun z hz hf hv=>?_⟩,.inr sr⟩
  ·have ez:(if i ∈ is then (g1 i).map bm else g1 i)=some z:=ez
   by_cases q:i ∈ is
   ·rw [if_pos q] at ez
    obtain ⟨z0,e0,e1⟩:=z5.mp ez
    subst e1
    exact nr.1 i z0 e0 (fun q=>hf (lentF_z.mpr q)) hv
   ·rw [if_neg q] at ez
    exact nr.1 i z ez hf hv
  ·obtain ⟨z0,h0,rfl⟩:=Ah.mp hz
   exact nr.2 z0 h0 (fun q=>hf (lentF_z.mpr q)) hv
 have w3:Wf K (dZ G H1 g1 is) H1 σ (aN dm is ρ1) (els ++ (Ts ++ T).map bm) (fun j=>if j ∈ is then (g1 j).map bm else g1 j):=w2.pushAll fun x hx=>⟨(hels x hx).1,(hels x hx).2.1,fun c hc=>kid x hx c hc⟩
 cases e2:fw bnd b p.2 (aN dm is ρ1) with
 | none=>rw [e2] at e1;exact nsE e1
 | some rr =>
  obtain ⟨r2,ρ3⟩:=rr
  rw [e2] at e1
  have er:r2=r/\aN gz is ρ3 = ρ':=by cases e1;exact ⟨rfl,rfl⟩
  obtain ⟨rfl,eρ⟩:=er
  have leave:∀ {σ':St} {H':Hp} {ρ2:Sto} {g2:Nat->Option It3} {R:List It3},Wf K (dZ G H1 g1 is) H' σ' ρ2 (R ++ (els ++ (Ts ++ T).map bm)) g2->∃ g3,Wf K G H' σ' (aN gz is ρ2) (R ++ T) g3:=fun {σ' H' ρ2 g2 R} w4 =>
   ⟨_,Wf.leave (T:=Ts ++ T) (T':=T) (R:=R) w1 his (Ag Ts T) (w4.sub ((List.Sublist.refl R).append (by
    rw [List.map_append]
    exact (Ag (Ts.map bm) (T.map bm)).trans (Ag els _))))⟩
  have le1:Le K (dZ G H1 g1 is) (fun e ρ2=>W e (aN gz is ρ2)) G W:=⟨rfl,fun H' σ' ρ2 T2 g2 e w4 he=>by
   obtain ⟨g3,w5⟩:=wR w1 his H' σ' ρ2 T2 g2 w4
   exact ⟨_,[],g3,w5,he⟩⟩
  have le':Le K (dZ G H1 g1 is) (fun e ρ2=>W e (aN gz is ρ2)) G0 W0:=le1.trans le
  refine ⟨fun k m σ' H'=>k<=p.2.length/\m=p.2.length - k/\∃ ρ2 g2,Wf K (dZ G H1 g1 is) H' σ' ρ2 (els ++ (Ts ++ T).map bm) g2/\fw bnd b (p.2.drop k) ρ2=some (r2,ρ3),⟨_,Nat.zero_le _,rfl,_,_,w3,e2⟩,?_⟩
  rintro k m σ' H' ⟨hk,rfl,ρ2,g2,w4,e4⟩
  obtain ⟨wgo,wstop⟩:=walk _ H' hM (fun b o hb hn=>w4.base b o hb hn) hysM
  by_cases hlt:k < p.2.length
  ·obtain ⟨d,hd⟩:∃ d,p.2[k]?=some d:=⟨_,z9 hlt⟩
   have hdrop:p.2.drop k=d :: p.2.drop (k+1):=by
    rw [List.drop_eq_getElem_cons hlt]
    rw [z9 hlt] at hd
    cases hd;rfl
   rw [hdrop] at e4
   obtain ⟨go,yld⟩:=wgo k d hd
   refine .inr ⟨go,fun σ5 H5=>∃ ρ5 g5,Wf K (dZ G H1 g1 is) H5 σ5 ρ5 (els ++ (Ts ++ T).map bm) g5/\fw bnd b (p.2.drop (k+1)) ρ5=some (r2,ρ3),fun σ5 H5 ⟨ρ5,g5,w5,e5⟩=>⟨p.2.length - (k+1),by omega,hlt,rfl,ρ5,g5,w5,e5⟩,fun x H'' hy=>?_⟩
   obtain ⟨u,nu,ud,uf,uv⟩:=yld x H'' hy
   have w5:Wf K (dZ G H1 g1 is) H'' σ' ρ2 (u :: (els ++ (Ts ++ T).map bm)) g2:=w4.push nu fun c hc=>w4.alls (ys:=els) (fun y hy=>⟨.inr (z6 _ hy),(hels y hy).1⟩) hc
   have e5:(match bnd d ρ2 with
    | none=>none
    | some ρ1=>ae b (fun f=>match f with
     | .nx=>fw bnd b (p.2.drop (k+1))
     | .ct=>fw bnd b (p.2.drop (k+1))
     | .br=>bb .nx
     | .rt d f=>bb (.rt d f)) ρ1)=some (r2,ρ3):=e4
   cases e6:bnd d ρ2 with
   | none=>rw [e6] at e5;exact nsE e5
   | some ρ6 =>
    rw [e6] at e5
    dsimp only at e5
    rw [<- uv]
    refine hb (dZ G H1 g1 is) H'' σ' ρ2 ρ6 _ g2 u _ le.pr uf w5 (by rw [ud];exact e6) fun σ6 g6 w6=>?_
    unfold ae at e5
    cases e7:b ρ6 with
    | none=>rw [e7] at e5;exact nsE e5
    | some pr7 =>
     obtain ⟨o7,ρ7⟩:=pr7
     rw [e7] at e5
     cases o7 with
     | error er =>
      cases e5
      refine tS.mk (r:=.error er) le' w6 e7 ?_
      show W er (aN gz is _)
      rw [eρ];exact q
     | ok f =>
      cases f with
      | nx=>exact tS.mk (r:=.ok .nx) le' w6 e7 fun σ8 H8 g8 w8=>⟨ρ7,g8,w8,e5⟩
      | ct=>exact tS.mk (r:=.ok .ct) le' w6 e7 fun σ8 H8 g8 w8=>⟨ρ7,g8,w8,e5⟩
      | br =>
       cases e5
       refine tS.mk (r:=.ok .br) le' w6 e7 fun σ8 H8 g8 w8=>?_
       obtain ⟨g9,w9⟩:=leave (R:=[]) w8
       rw [eρ] at w9
       exact q _ _ _ w9
      | rt d' f' =>
       cases e5
       refine tS.mk (r:=.ok (.rt d' f')) le' w6 e7 fun x8 σ8 H8 g8 w8 x1 x2=>?_
       obtain ⟨g9,w9⟩:=leave (R:=[x8]) w8
       rw [eρ] at w9
       exact q x8 _ _ _ w9 x1 x2
  ·have ek:k=p.2.length:=by omega
   subst ek
   rw [List.drop_length] at e4
   cases e4
   obtain ⟨g9,w9⟩:=leave (R:=[]) w4
   rw [eρ] at w9
   exact .inl ⟨wstop,q _ _ _ w9⟩
end
end L3
end
section
namespace L3
open PySem L2
noncomputable def pD (ix:List (Option Nat)) (ρ:Sto):Sto:=ix.map fun o=>match o with
 | some i=>(ρ[i]?).join
 | none=>none
noncomputable def uncap:List (Option Nat)->Sto->Sto->Option Sto
 | [],_,ρ=>some ρ
 | none :: ix,τ,ρ=>uncap ix τ.tail ρ
 | some i :: ix,τ,ρ=>match (ρ[i]?).join,τ.head? with
  | some (_,f),some (some (d',f'))=>if f'=f\/f'=.z then uncap ix τ.tail (ρ.set i (some (d',f'))) else none
  | _,_=>none
noncomputable def bT (bnd:D->Sto->Option Sto) (c:M3 Bool) (elt:EM):List D->M3 (List D)
 | []=>bb []
 | d :: ds=>fun τ=>match bnd d τ with
  | none=>none
  | some τ1=>ae c (fun b=>if b then ae elt (fun r=>ae (eO r) fun p=>ae (bT bnd c elt ds) fun l=>bb (p.1 :: l)) else bT bnd c elt ds) τ1
noncomputable def cT (im:IM) (bnd:D->Sto->Option Sto) (c:M3 Bool) (elt:EM) (ix:List (Option Nat)):EM:=ae im fun p=>fun ρ =>
 match bT bnd c elt p.2 (pD ix (aN dm (us ρ (pls p.1)) ρ)) with
 | some (.ok ds,τ)=>if p.2.length < 16777216 then (uncap ix τ (aN dm (us ρ (pls p.1)) ρ)).map fun ρ2=>(.ok (.val (.lst ds) .u),aN gz (us ρ (pls p.1)) ρ2) else none
 | _=>none
section
variable {K:FG} {G G0:Gm} {W W0:D->Sto->Prop} {H H':Hp} {σ τ:St} {ρ ρ':Sto} {T T':List It3} {g:Nat->Option It3} {x y z:It3} {α β:Type} {ix:List (Option Nat)}
noncomputable def Inj (ix:List (Option Nat)):Prop:=∀ (j k i:Nat),ix[j]?=some (some i)->ix[k]?=some (some i)->j=k
noncomputable def wX (ix:List (Option Nat)) (g:Nat->Option It3) (j:Nat):Option It3:=(ix[j]?).join.bind g
noncomputable def o8 (ix:List (Option Nat)) (n:Nat) (g:Nat->Option It3):List It3:=(List.range n).filterMap fun i=>if some i ∈ ix then none else g i
noncomputable def uQ (G:Gm) (ix:List (Option Nat)) (σ:St):Gm:=⟨G.H0,G.bw,fun j=>((ix[j]?).join).isSome,cap ix σ,fun _=>none,G.src,fun j=>(ix[j]?).join.bind G.lv⟩
theorem dQ {j:Nat} (h:wX ix g j=some x):∃ i,ix[j]?=some (some i)/\g i=some x:=by
 unfold wX at h
 cases e:ix[j]? with
 | none=>rw [e] at h;exact nsE h
 | some o =>
  rw [e] at h
  cases o with
  | none=>exact nsE h
  | some i=>exact ⟨i,rfl,h⟩
set_option tactic.hygienic true in
theorem ke {n:Nat} (h:x ∈ o8 ix n g):∃ i,some i ∉ ix/\g i=some x:=by
 obtain ⟨i,_,e⟩:=List.mem_filterMap.mp h
 split at e
 ·exact nsE e
 ·rename_i hn;exact ⟨i,hn,e⟩
theorem tZ {n i:Nat} (hi:i < n) (hn:some i ∉ ix) (e:g i=some x):x ∈ o8 ix n g:=List.mem_filterMap.mpr ⟨i,List.mem_range.mpr hi,by rw [if_neg hn];exact e⟩
theorem Wf.cap (w:Wf K G H σ ρ T g) (hij:Inj ix):Wf K (uQ G ix σ) H (cap ix σ) (pD ix ρ) (o8 ix ρ.length g ++ T) (wX ix g):=by
 have ne:∀ {i j:Nat},ix[j]?=some (some i)->∀ k,some k ∉ ix->i ≠ k:=fun e k hk q=>hk (by rw [<- q];exact Af e)
 refine ⟨by unfold L2.cap pD;rw [Ad,Ad],fun j=>?_,fun j x h=>?_,fun j x h=>?_,fun x hx=>?_,fun j k x y n hx hy=>?_,fun j x h y hy=>?_,?_,w.base,fun _ _=>rfl,⟨fun _ _ _ _ _=>rfl,fun _ _ _ _ _ _ _=>rfl,w.fx.bin,fun b o e=>(by cases e),fun j x h hl=>?_⟩⟩
 ·unfold wX pD
  rw [Ai]
  cases e:ix[j]? with
  | none=>rfl
  | some o =>
   cases o with
   | none=>rfl
   | some i=>exact w.sl i
 ·obtain ⟨i,e1,e2⟩:=dQ h
  unfold L2.cap
  rw [Ai,e1]
  show some ((σ[i]?).getD none)=_
  rw [w.sv i x e2];rfl
 ·obtain ⟨i,_,e2⟩:=dQ h
  have ok:=w.okS i x e2
  exact ⟨ok.rep,ok.own,ok.src⟩
 ·rcases Ab.mp hx with h | h
  ·obtain ⟨i,_,e⟩:=ke h
   have ok:=w.okS i x e
   exact ⟨ok.rep,ok.own,ok.src⟩
  ·have ok:=w.okT x h
   exact ⟨ok.rep,ok.own,ok.src⟩
 ·obtain ⟨i,e1,e2⟩:=dQ hx
  obtain ⟨i',e3,e4⟩:=dQ hy
  exact w.ss i i' x y (fun q=>n (hij j k i e1 (q ▸ e3))) e2 e4
 ·obtain ⟨i,e1,e2⟩:=dQ h
  rcases Ab.mp hy with q | q
  ·obtain ⟨k,hk,e⟩:=ke q
   have:=ne e1 k hk
   exact ⟨w.ss i k x y this e2 e,w.ss k i y x (Ne.symm this) e e2⟩
  ·exact w.st i x e2 y q
 ·refine List.pairwise_append.mpr ⟨?_,w.tt,fun a ha b hb=>?_⟩
  ·unfold o8
   rw [List.pairwise_filterMap]
   refine List.pairwise_lt_range.imp fun {i k} lt a ha b hb=>?_
   have ha':(if some i ∈ ix then none else g i)=some a:=ha
   have hb':(if some k ∈ ix then none else g k)=some b:=hb
   split at ha'
   ·cases ha'
   ·split at hb'
    ·cases hb'
    ·exact ⟨w.ss i k a b (Al lt) ha' hb',w.ss k i b a (Nat.ne_of_gt lt) hb' ha'⟩
  ·obtain ⟨k,hk,e⟩:=ke ha
   exact w.st k a e b hb
 ·obtain ⟨i,e1,e2⟩:=dQ h
  show (ix[j]?).join.bind G.lv=_
  rw [e1]
  exact w.fx.lvS i x e2 hl
theorem Wf.perm {T T':List It3} (w:Wf K G H σ ρ T g) (p:T.Perm T'):Wf K G H σ ρ T' g :=
 ⟨w.len,w.sl,w.sv,w.okS,fun x hx=>w.okT x (p.mem_iff.mpr hx),w.ss,fun i x e y hy=>w.st i x e y (p.mem_iff.mpr hy),(p.pairwise_iff fun h=>Apart3.symm h).mp w.tt,w.base,w.pro,w.fx.sub fun x hx=>p.mem_iff.mpr hx⟩
set_option tactic.hygienic true in
theorem gJ:∀ {ix:List (Option Nat)} {τ ρ ρ2:Sto},uncap ix τ ρ=some ρ2->Inj ix->ρ2.length = ρ.length/\(∀ i,some i ∉ ix->(ρ2[i]?).join=(ρ[i]?).join) /\
  ∀ (j i:Nat),ix[j]?=some (some i)->∃ p q,(ρ[i]?).join=some p/\(τ[j]?).join=some q/\(ρ2[i]?).join=some q/\(q.2=p.2\/q.2=.z)
 | [],τ,ρ,ρ2,e,_=>by cases e;exact ⟨rfl,fun _ _=>rfl,fun j i h=>by simp at h⟩
 | none :: ix,τ,ρ,ρ2,e,hij=>by
  unfold uncap at e
  obtain ⟨h1,h2,h3⟩:=gJ e fun j k i a b=>by
   have:=hij (j+1) (k+1) i (by simpa using a) (by simpa using b)
   omega
  refine ⟨h1,fun i hi=>h2 i fun q=>hi (zZ _ q),fun j i h=>?_⟩
  cases j with
  | zero=>simp at h
  | succ j =>
   obtain ⟨p,q,a,b,c⟩:=h3 j i (by simpa using h)
   exact ⟨p,q,a,by rw [List.getElem?_tail] at b;exact b,c⟩
 | some i0 :: ix,τ,ρ,ρ2,e,hij=>by
  unfold uncap at e
  cases e1:(ρ[i0]?).join with
  | none=>rw [e1] at e;exact nsE e
  | some p =>
   obtain ⟨d,f⟩:=p
   cases e2:τ.head? with
   | none=>rw [e1,e2] at e;exact nsE e
   | some o =>
    cases o with
    | none=>rw [e1,e2] at e;exact nsE e
    | some q =>
     obtain ⟨d',f'⟩:=q
     rw [e1,e2] at e
     dsimp only at e
     split at e
     ·rename_i hf
      have hi0:=dM e1
      have no0:some i0 ∉ ix:=fun m=>by
       obtain ⟨k,hk,ek⟩:=List.mem_iff_getElem.mp m
       have:=hij 0 (k+1) i0 rfl (by simp [hk,ek])
       omega
      obtain ⟨h1,h2,h3⟩:=gJ e fun j k i a b=>by
       have:=hij (j+1) (k+1) i (by simpa using a) (by simpa using b)
       omega
      refine ⟨by rw [h1,List.length_set],fun i hi=>?_,fun j i h=>?_⟩
      ·rw [h2 i fun q=>hi (zZ _ q),bX hi0,if_neg (fun q=>hi (by rw [q];exact zY))]
      ·cases j with
       | zero =>
        simp at h
        subst h
        refine ⟨(d,f),(d',f'),e1,?_,?_,hf⟩
        ·rw [List.head?_eq_getElem?] at e2;rw [e2];rfl
        ·rw [h2 i0 no0,bX hi0,if_pos rfl]
       | succ j =>
        have hji:ix[j]?=some (some i):=by simpa using h
        obtain ⟨p,q,a,b,c⟩:=h3 j i hji
        have ii:i ≠ i0:=fun z=>no0 (by rw [<- z];exact Af hji)
        rw [bX hi0,if_neg ii] at a
        exact ⟨p,q,a,by rw [List.getElem?_tail] at b;exact b,c⟩
     ·exact nsE e
theorem Wf.uncap {τ':St} {τρ ρ2:Sto} {gC:Nat->Option It3} {R:List It3} (w:Wf K G H σ ρ T g) (hH:∀ b o,H b=some o->G.H0 b=some o) (hij:Inj ix) (e:L3.uncap ix τρ ρ=some ρ2) (hR:∀ x ∈ R,x.f=.z) (w2:Wf K (uQ G ix σ) H' τ' τρ (R ++ (o8 ix ρ.length g ++ T)) gC) :
  ∃ g2,Wf K G H' σ ρ2 (R ++ T) g2:=by
 obtain ⟨hl,h2,h3⟩:=gJ e hij
 let inv (i:Nat):Option Nat:=(List.range ix.length).find? fun j=>decide (ix[j]?=some (some i))
 have inv_some:∀ i j,inv i=some j->ix[j]?=some (some i):=fun i j h=>by simpa using List.find?_some h
 have inv_none:∀ i,inv i=none->some i ∉ ix:=fun i h m=>by
  obtain ⟨k,hk,ek⟩:=List.mem_iff_getElem.mp m
  have:=List.find?_eq_none.mp h k (List.mem_range.mpr hk)
  simp [hk,ek] at this
 let g2 (i:Nat):Option It3:=match inv i with | some j=>gC j | none=>g i
 have val:∀ i u,g2 i=some u->(∃ j p q,ix[j]?=some (some i)/\gC j=some u/\(ρ[i]?).join=some p/\(τρ[j]?).join=some q/\(q.2=p.2\/q.2=.z))\/(some i ∉ ix/\g i=some u):=fun i u h=>by
  have h':(match inv i with | some j=>gC j | none=>g i)=some u:=h
  cases ei:inv i with
  | none=>rw [ei] at h';exact .inr ⟨inv_none i ei,h'⟩
  | some j =>
   rw [ei] at h'
   obtain ⟨p,q,a,b,_,c⟩:=h3 j i (inv_some i j ei)
   exact .inl ⟨j,p,q,inv_some i j ei,h',a,b,c⟩
 have out:∀ i u,some i ∉ ix->g i=some u->u ∈ o8 ix ρ.length g:=fun i u hn e=>by
  have s:=w.sl i
  rw [e] at s
  exact tZ (dM s.symm) hn e
 have back:∀ i j u,ix[j]?=some (some i)->gC j=some u->σ[i]?=some (some u.v):=fun i j u ej eu=>by
  have a:=w2.sv j u eu
  have b:=w2.pro j (by show ((ix[j]?).join).isSome=true;rw [ej];rfl)
  rw [a] at b
  have b:some (some u.v)=(L2.cap ix σ)[j]?:=b
  unfold L2.cap at b
  rw [Ai,ej] at b
  have b:some (some u.v)=some ((σ[i]?).getD none):=b
  cases q:σ[i]? with
  | none=>rw [q] at b;cases b
  | some o=>rw [q] at b;cases b;rfl
 have was:∀ i j u p q,ix[j]?=some (some i)->gC j=some u->(ρ[i]?).join=some p->(τρ[j]?).join=some q->(q.2=p.2\/q.2=.z)->∃ y,g i=some y/\y.v=u.v/\(u.f=y.f\/u.f=.z):=fun i j u p q ej eu ep eq hf=>by
  obtain ⟨y,y1,y2,y3,y4⟩:=w.slot (d:=p.1) (f:=p.2) ep
  have b:=back i j u ej eu
  rw [y4] at b
  have s:=w2.sl j
  rw [eu,eq] at s
  have s:some (u.d,u.f)=some q:=s
  refine ⟨y,y1,by injection b with b;injection b,?_⟩
  rw [y3,show u.f=q.2 by injection s with s;rw [<- s]]
  exact hf
 refine ⟨g2,⟨by rw [hl];exact w.len,fun i=>?_,fun i u h=>?_,fun i u h=>?_,fun u hu=>?_,fun i k a b n ha hb=>?_,fun i a h b hb=>?_,w2.tt.sublist ((List.Sublist.refl R).append (Ag _ T)),w2.base,w.pro,⟨fun u hu hf=>?_,fun i u h hp hf a ea=>?_,w2.fx.bin,fun b o hb=>?_,fun i u h hl=>?_⟩⟩⟩
 ·show (match inv i with | some j=>gC j | none=>g i).map _=_
  cases ei:inv i with
  | none=>rw [h2 i (inv_none i ei)];exact w.sl i
  | some j =>
   obtain ⟨p,q,a,b,c,_⟩:=h3 j i (inv_some i j ei)
   rw [c,<- b];exact w2.sl j
 ·rcases val i u h with ⟨j,p,q,ej,eu,_⟩ | ⟨hn,e⟩
  ·exact back i j u ej eu
  ·exact w.sv i u e
 ·rcases val i u h with ⟨j,p,q,ej,eu,_⟩ | ⟨hn,e⟩
  ·have ok:=w2.okS j u eu
   exact ⟨ok.rep,ok.own,ok.src⟩
  ·have ok:=w2.okT u (z7 _ (z6 _ (out i u hn e)))
   exact ⟨ok.rep,ok.own,ok.src⟩
 ·have ok:=w2.okT u (by
   rcases Ab.mp hu with q | q
   ·exact z6 _ q
   ·exact z7 _ (z7 _ q))
  exact ⟨ok.rep,ok.own,ok.src⟩
 ·rcases val i a ha with ⟨j,p,q,ej,eu,_⟩ | ⟨hn,e⟩
  ·rcases val k b hb with ⟨j',p',q',ej',eu',_⟩ | ⟨hn',e'⟩
   ·exact w2.ss j j' a b (fun z=>n (by subst z;rw [ej] at ej';injection ej' with z;injection z)) eu eu'
   ·exact (w2.st j a eu b (z7 _ (z6 _ (out k b hn' e')))).1
  ·rcases val k b hb with ⟨j',p',q',ej',eu',_⟩ | ⟨hn',e'⟩
   ·exact (w2.st j' b eu' a (z7 _ (z6 _ (out i a hn e)))).2
   ·exact w.ss i k a b n e e'
 ·have hb':b ∈ R ++ (o8 ix ρ.length g ++ T):=by
   rcases Ab.mp hb with q | q
   ·exact z6 _ q
   ·exact z7 _ (z7 _ q)
  rcases val i a h with ⟨j,p,q,ej,eu,_⟩ | ⟨hn,e⟩
  ·exact w2.st j a eu b hb'
  ·rcases Ab.mp hb with q | q
   ·exact ((List.pairwise_append.mp w2.tt).2.2 b q a (z6 _ (out i a hn e))).symm
   ·exact w.st i a e b q
 ·rcases Ab.mp hu with q | q
  ·exact absurd (hR u q) hf
  ·exact w.fx.frT u q hf
 ·rcases val i u h with ⟨j,p,q,ej,eu,ep,eq,hc⟩ | ⟨hn,e⟩
  ·obtain ⟨y,y1,y2,y3⟩:=was i j u p q ej eu ep eq hc
   refine w.fx.frS i y y1 hp (fun z=>hf ?_) a (by rw [y2];exact ea)
   rcases y3 with h | h
   ·rw [h];exact z
   ·exact h
  ·exact w.fx.frS i u e hp hf a ea
 ·obtain ⟨o',ho⟩:=w.fx.ob b o hb
  have h0:=hH b o' ho
  by_cases q:G.bw b
  ·exact w2.fx.bin b q
  ·exact ⟨o',w2.base b o' h0 q⟩
 ·rcases val i u h with ⟨j,p,q,ej,eu,ep,eq,hc⟩ | ⟨hn,e⟩
  ·obtain ⟨y,y1,y2,y3⟩:=was i j u p q ej eu ep eq hc
   rw [<- y2]
   refine w.fx.lvS i y y1 ?_
   rcases y3 with h | h
   ·rw [<- h];exact hl
   ·rw [h] at hl;cases hl
  ·exact w.fx.lvS i u e hl
theorem sd {J:It} {H1:Hp} {ys els:List It3} {ds:List D} {bnd:D->Sto->Option Sto} {c:M3 Bool} {elt:EM} {tg:TG} {tc:TT} {te:TE} {Gc:Gm} {Rst:List It3} {ds':List D} {τρ τρ':Sto} {gC:Nat->Option It3} {Z:List V->Hp->Prop} {M:Addr->Prop}
  (hz:(16777216:Nat)=sizeLine) (hel:∀ x ∈ els,x ∈ Rst/\x.f=.z)
  (hgo:∀ H',(∀ b o,H1 b=some o->¬ Gc.bw b->H' b=some o)->(∀ (i:Nat) (d:D),ds[i]?=some d->J.go i H'/\∀ x H'',J.yld i H' x H''->∃ w,New K H' H'' (dC els) w/\w.d=d/\w.f=.z/\w.v=x)/\J.stop ds.length H')
  (h0:Gc.H0=H1) (hb:Bnd K Gc.pr tg bnd) (htc:∀ σ H Q,tT K Gc (fun _ _=>False) c σ H Q->tc σ H Q) (hte:∀ σ H Q,tE K Gc (fun _ _=>False) elt σ H Q->te σ H Q)
  (hlen:ds.length < 16777216) (w:Wf K Gc H1 τ τρ Rst gC) (e:bT bnd c elt ds τρ=some (.ok ds',τρ'))
  (hZ:∀ (us:List It3) (τ':St) (H':Hp) (g':Nat->Option It3),(∀ x ∈ us,x.f=.z)->us.map (·.d)=ds'->Wf K Gc H' τ' τρ' (us ++ Rst) g'->Z (us.map (·.v)) H'):oK J tg tc te Z τ H1:=by
 refine ⟨fun i m vs τ' H'=>i<=ds.length/\m=ds.length - i/\vs.length<=i/\∃ (us:List It3) (ρ2:Sto) (g2:Nat->Option It3) (r:List D),(∀ x ∈ us,x.f=.z)/\us.map (·.v)=vs/\Wf K Gc H' τ' ρ2 (us ++ Rst) g2/\bT bnd c elt (ds.drop i) ρ2=some (.ok r,τρ')/\us.map (·.d) ++ r=ds',⟨_,Nat.zero_le _,rfl,Aj _,[],τρ,gC,ds',fun _ h=>(by cases h),rfl,w,e,rfl⟩,?_⟩
 rintro i m vs τ1 H2 ⟨hi,rfl,hvl,us,ρ2,g2,r,huz,huv,w2,e2,hds⟩
 refine ⟨by omega,?_⟩
 obtain ⟨wgo,wstop⟩:=hgo H2 fun b o hb' hn=>w2.base b o (by rw [h0];exact hb') hn
 by_cases hlt:i < ds.length
 ·obtain ⟨d,hd⟩:∃ d,ds[i]?=some d:=⟨_,z9 hlt⟩
  have hdrop:ds.drop i=d :: ds.drop (i+1):=by
   rw [List.drop_eq_getElem_cons hlt]
   rw [z9 hlt] at hd
   cases hd;rfl
  rw [hdrop] at e2
  obtain ⟨go,yld⟩:=wgo i d hd
  refine .inr ⟨go,fun vs5 τ5 H5=>vs5.length<=i+1/\∃ (us:List It3) (ρ5:Sto) (g5:Nat->Option It3) (r:List D),(∀ x ∈ us,x.f=.z)/\us.map (·.v)=vs5/\Wf K Gc H5 τ5 ρ5 (us ++ Rst) g5/\bT bnd c elt (ds.drop (i+1)) ρ5=some (.ok r,τρ')/\us.map (·.d) ++ r=ds',
   fun vs5 τ5 H5 ⟨hl5,h5⟩=>⟨ds.length - (i+1),by omega,hlt,rfl,hl5,h5⟩,fun x H'' hy=>?_⟩
  obtain ⟨u,nu,ud,uf,uv⟩:=yld x H'' hy
  have w3:Wf K Gc H'' τ1 ρ2 (u :: (us ++ Rst)) g2:=w2.push nu fun c hc=>w2.alls (ys:=els) (fun y hy=>⟨.inr (z7 _ (hel y hy).1),(hel y hy).2⟩) hc
  have e3:(match bnd d ρ2 with
   | none=>none
   | some τ1=>ae c (fun b=>if b then ae elt (fun r=>ae (eO r) fun p=>ae (bT bnd c elt (ds.drop (i+1))) fun l=>bb (p.1 :: l)) else bT bnd c elt (ds.drop (i+1))) τ1)=some (.ok r,τρ'):=e2
  cases e4:bnd d ρ2 with
  | none=>rw [e4] at e3;exact nsE e3
  | some ρ3 =>
   rw [e4] at e3
   dsimp only at e3
   rw [<- uv]
   refine hb Gc H'' τ1 ρ2 ρ3 _ g2 u _ rfl uf w3 (by rw [ud];exact e4) fun τ4 g4 w4=>?_
   refine htc _ _ _ (tT.seq (Le.refl K Gc _) w4 e3 (fun x hx=>by cases hx) fun b ρ5 e5 H5 g5 w5=>?_)
   cases b with
   | false =>
    simp only [AA,if_false] at e5 ⊢
    exact ⟨by omega,us,ρ5,g5,r,huz,huv,w5,e5,hds⟩
   | true =>
    simp only [if_true] at e5 ⊢
    refine hte _ _ _ (tE.seq (Le.refl K Gc _) w5 e5 (fun x hx=>by cases hx) fun ra ρ6 e6 v H6 ⟨Ts,g6,w6,a6⟩=>?_)
    obtain ⟨p,ρ7,g7,x7,e7,w7,f1,f2,_,f3⟩:=a6.take w6 e6
    have w8:=Wf.lowT (Ts:=[x7]) w7
    unfold ae at e7
    cases e8:bT bnd c elt (ds.drop (i+1)) ρ7 with
    | none=>rw [e8] at e7;exact nsE e7
    | some pr =>
     obtain ⟨o,ρ8⟩:=pr
     rw [e8] at e7
     cases o with
     | error x=>cases e7
     | ok l =>
      cases e7
      refine ⟨by rw [Au];simp;omega,us ++ [c5 x7],ρ7,g7,l,fun y hy=>?_,by rw [List.map_append,huv,<- f3];rfl,?_,e8,?_⟩
      ·rcases Ab.mp hy with h | h
       ·exact huz y h
       ·rw [Az.mp h];rfl
      ·exact w8.perm (by
        show ([c5 x7] ++ (us ++ Rst)).Perm (us ++ [c5 x7] ++ Rst)
        rw [<- List.append_assoc]
        exact (List.perm_append_comm).append_right Rst)
      ·rw [List.map_append,List.append_assoc]
       show us.map (·.d) ++ ((c5 x7).d :: l)=ds'
       rw [show (c5 x7).d=p.1 from f1]
       exact hds
 ·have ei:i=ds.length:=by omega
  subst ei
  rw [List.drop_length] at e2
  cases e2
  rw [List.append_nil] at hds
  subst huv
  exact .inl ⟨wstop,hZ us τ1 H2 g2 huz hds w2⟩
end
end L3
end
section
namespace L3
open PySem L2
section
variable {K:FG} {G G0:Gm} {W W0:D->Sto->Prop} {H H':Hp} {σ τ:St} {ρ ρ':Sto} {T T':List It3} {g:Nat->Option It3} {x y z:It3} {α β:Type} {ix:List (Option Nat)}
noncomputable def bN (ix:List (Option Nat)):Gm:=⟨fun _=>none,fun _=>False,fun j=>((ix[j]?).join).isSome,[],fun _=>none,fun _=>False,fun _=>none⟩
noncomputable abbrev noX:D->Sto->Prop:=fun _ _=>False
theorem qp {G1:Gm} (h:G1.pr=(bN ix).pr) (le:Le K G W G1 noX):Le K G W (bN ix) noX:=⟨le.pr.trans h,fun H σ ρ T g e w q=>by
 obtain ⟨_,_,_,_,f⟩:=le.ex H σ ρ T g e w q
 exact f.elim⟩
theorem vo {G1:Gm} {m:EM} {Q:VK} (h:G1.pr=(bN ix).pr) (q:tE K G1 noX m σ H Q):tE K (bN ix) noX m σ H Q:=by
 obtain ⟨G,W,le,r⟩:=q
 exact ⟨G,W,qp h le,r⟩
theorem ve {G1:Gm} {m:M3 Bool} {Q:Bool->Hp->Prop} (h:G1.pr=(bN ix).pr) (q:tT K G1 noX m σ H Q):tT K (bN ix) noX m σ H Q:=by
 obtain ⟨G,W,le,r⟩:=q
 exact ⟨G,W,qp h le,r⟩
noncomputable def gP:M3 Bool:=bb true
theorem xU {Q:Bool->Hp->Prop} (h:tT K G0 W0 gP σ H Q):tYes σ H Q:=by
 refine h.use fun G W le ρ T g o ρ' w e q=>?_
 cases e
 exact q _ _ w
set_option tactic.hygienic true in
theorem iW {bnd:D->Sto->Option Sto} {c:M3 Bool} {elt:EM}:∀ {ds ds':List D} {τρ τρ':Sto},bT bnd c elt ds τρ=some (.ok ds',τρ')->ds'.length<=ds.length
 | [],ds',τρ,τρ',e=>by cases e;exact Aj _
 | d :: ds,ds',τρ,τρ',e=>by
  unfold bT at e
  split at e
  ·exact nsE e
  ·rename_i τ1 _
   unfold ae at e
   split at e
   ·exact nsE e
   ·cases e
   ·rename_i b τ2 _
    cases b with
    | false =>
     simp only [AA,if_false] at e
     have:=iW e
     simp;omega
    | true =>
     simp only [if_true] at e
     split at e
     ·exact nsE e
     ·cases e
     ·split at e
      ·exact nsE e
      ·cases e
      ·split at e
       ·exact nsE e
       ·cases e
       ·rename_i l τ5 h5
        cases e
        have:=iW h5
        simp;omega
set_option tactic.hygienic true in
theorem ot {im:IM} {bnd:D->Sto->Option Sto} {c:M3 Bool} {elt:EM} {tg:TG} {o:Except D R3} {Z:List V->Hp->Prop} (hz:(16777216:Nat)=sizeLine) (hij:Inj ix) (hb:Bnd K (bN ix).pr tg bnd) (le:Le K G W G0 W0) (w:Wf K G H σ ρ T g) (e:cT im bnd c elt ix ρ=some (o,ρ')) (he:∀ x,o=.error x->W x ρ')
  (hZ:∀ (us:List It3) (H':Hp) (g':Nat->Option It3) (Ts:List It3) (ds:List D),o=.ok (.val (.lst ds) .u)->(∀ x ∈ us,x.f=.z)->us.map (·.d)=ds->us.length<=16777216->Wf K G H' σ ρ' (us ++ T) g'->Z (us.map (·.v)) H') :
  tI K G0 W0 im σ H fun J H1=>oK J tg (tT K (bN ix) noX c) (tE K (bN ix) noX elt) Z (cap ix σ) H1:=by
 refine tI.seq le w e he fun p ρ1 e1=>?_
 intro J H1 vs Ts g1 ys w1 a1 hys hw
 have his:=us_u (is:=pls p.1) w1
 have hus:∀ i y,i ∈ pls p.1->g1 i=some y->y.f=.u->i ∈ us ρ1 (pls p.1):=fun i y hi ey hf=>sI w1 hi ey hf
 generalize us ρ1 (pls p.1)=is at e1 his hus
 have w2:=w1.enter is
 obtain ⟨els,hels,walk⟩:=hw
 have hM:∀ b,(∃ j y,j ∉ is/\g1 j=some y/\y.f=.u/\y.v=.ref b)->MutAt H1 b:=fun b ⟨j,y,_,ey,hf,hv⟩=>by
  obtain ⟨_,a,L',v1,v2,_⟩:=(w1.okS j y ey).own (by rw [hf];intro q;cases q)
  rw [hv] at v1;cases v1
  exact (w1.okS j y ey).rep.inH b (by rw [v2];exact zY)
 have hysM:∀ y ∈ ys,∀ b ∈ y.L,¬ ∃ j y,j ∉ is/\g1 j=some y/\y.f=.u/\y.v=.ref b:=fun y hy b hb ⟨j,y',nj,ey',hf,hv⟩=>by
  have hfz:y'.f ≠ .z:=by rw [hf];intro q;cases q
  rcases hys y hy with ⟨i,hi,ei⟩ | hy
  ·by_cases ij:i=j
   ·subst ij
    rw [ei] at ey';cases ey'
    exact nj (hus i y hi ei hf)
   ·exact w1.ss j i y' y (Ne.symm ij) ey' ei hfz b hv hb
  ·exact (w1.st j y' ey' y (z6 _ hy)).1 hfz b hv hb
 have hitm:∀ y ∈ ys,Itm (Ts ++ T) g1 y:=fun y hy=>by
  rcases hys y hy with ⟨i,_,ei⟩ | h
  ·exact .inl ⟨i,ei⟩
  ·exact .inr (z6 _ h)
 have kid:∀ x ∈ els,∀ c ∈ x.L,dN ((Ts ++ T).map bm) (fun j=>if j ∈ is then (g1 j).map bm else g1 j) c/\(H1 c=none\/(G.H0 c=none\/G.src c)):=fun x hx c hc=>by
  obtain ⟨nr,sr⟩:=w1.kids hitm ((hels x hx).2.2 c hc)
  refine ⟨⟨fun i z ez hf hv=>?_,fun z hz hf hv=>?_⟩,.inr sr⟩
  ·have ez:(if i ∈ is then (g1 i).map bm else g1 i)=some z:=ez
   by_cases q:i ∈ is
   ·rw [if_pos q] at ez
    obtain ⟨z0,e0,e1⟩:=z5.mp ez
    subst e1
    exact nr.1 i z0 e0 (fun q=>hf (lentF_z.mpr q)) hv
   ·rw [if_neg q] at ez
    exact nr.1 i z ez hf hv
  ·obtain ⟨z0,h0,rfl⟩:=Ah.mp hz
   exact nr.2 z0 h0 (fun q=>hf (lentF_z.mpr q)) hv
 have w3:Wf K (dZ G H1 g1 is) H1 σ (aN dm is ρ1) (els ++ (Ts ++ T).map bm) (fun j=>if j ∈ is then (g1 j).map bm else g1 j):=w2.pushAll fun x hx=>⟨(hels x hx).1,(hels x hx).2.1,fun c hc=>kid x hx c hc⟩
 have w4:=w3.cap hij
 cases e2:bT bnd c elt p.2 (pD ix (aN dm is ρ1)) with
 | none=>rw [e2] at e1;exact nsE e1
 | some rr =>
  obtain ⟨o2,τρ⟩:=rr
  rw [e2] at e1
  cases o2 with
  | error x=>exact nsE e1
  | ok ds =>
   dsimp only at e1
   split at e1
   ·rename_i hlen
    cases e3:uncap ix τρ (aN dm is ρ1) with
    | none=>rw [e3] at e1;exact nsE e1
    | some ρ3 =>
     rw [e3] at e1
     have eo:o=.ok (.val (.lst ds) .u)/\ρ'=aN gz is ρ3:=by cases e1;exact ⟨rfl,rfl⟩
     obtain ⟨eo,eρ⟩:=eo
     refine sd (K:=K) (Gc:=uQ (dZ G H1 g1 is) ix σ) (els:=els) (M:=fun _=>False) (ys:=ys) hz (fun x hx=>⟨z7 _ (z6 _ hx),(hels x hx).1⟩) (fun H' hk=>walk _ H' hM hk hysM) rfl hb (fun σ' H Q q=>ve (G1:=uQ (dZ G H1 g1 is) ix σ) rfl q) (fun σ' H Q q=>vo (G1:=uQ (dZ G H1 g1 is) ix σ) rfl q) hlen w4 e2 fun us τ' H' g' huz hud w5=>?_
     obtain ⟨g6,w6⟩:=Wf.uncap w3 (fun b o h=>h) hij e3 huz w5
     have w7:=Wf.leave (T:=Ts ++ T) (T':=T) (R:=us) w1 his (Ag Ts T) (w6.sub ((List.Sublist.refl us).append (by
      rw [List.map_append]
      exact (Ag (Ts.map bm) (T.map bm)).trans (Ag els _))))
     have hle:us.length<=16777216:=by
      have h1:us.length=ds.length:=by rw [<- hud,Ad]
      have h2:=iW e2
      omega
     rw [<- eρ] at w7
     exact hZ us H' _ Ts ds eo huz hud hle w7
   ·exact nsE e1
theorem lI {us:List It3} {p:Addr} (w:Wf K G H σ ρ (us ++ T) g) (huz:∀ x ∈ us,x.f=.z) (hp:H p=none) :
  Wf K G (upd H p (.lst (us.map (·.v)))) σ ρ (⟨.lst (us.map (·.d)),.ref p,p :: (us.map (·.L)).flatten,.u⟩ :: T) g:=by
 have hi:∀ y ∈ us,Itm (us ++ T) g y/\y.f=.z:=fun y hy=>⟨.inr (z6 _ hy),huz y hy⟩
 have np:p ∉ (us.map (·.L)).flatten:=fun hc=>by
  obtain ⟨y,hm,hc⟩:=eS hc
  obtain ⟨o,ho⟩:=((w.itm (hi y hm).1).rep.inH p hc).ex
  rw [hp] at ho;exact nsE ho
 have n:New K H (upd H p (.lst (us.map (·.v)))) (dC us) ⟨.lst (us.map (·.d)),.ref p,p :: (us.map (·.L)).flatten,.u⟩:=⟨bK hp,.lst bc ((jA fun y hy=>(w.itm (hi y hy).1).rep).same (bK hp)),fun c hc=>by
  rcases z8.mp hc with e | hc
  ·rw [e];exact .inl hp
  ·exact .inr (eS hc),fun _=>⟨rfl,p,_,rfl,rfl,np,hp⟩⟩
 exact (w.push n fun c h=>w.alls hi h).sub (List.Sublist.cons_cons _ (Ag us T))
theorem vq {im:IM} {bnd:D->Sto->Option Sto} {c:M3 Bool} {elt:EM} {tg:TG} {Q:VK} (hz:(16777216:Nat)=sizeLine) (hij:Inj ix) (hb:Bnd K (bN ix).pr tg bnd) (h:tE K G0 W0 (cT im bnd c elt ix) σ H Q) :
  xx (tI K G0 W0 im) tg (tT K (bN ix) noX c) (tE K (bN ix) noX elt) ix σ H Q:=by
 refine h.use fun G W le ρ T g o ρ' w e q=>?_
 refine ot hz hij hb le w e q.err fun us H' g' Ts ds eo huz hud hl w1=>?_
 subst eo hud
 intro p hp
 have w2:=lI w1 huz hp
 exact q (.ref p) _ ⟨[_],g',w2,Ar.val (⟨.lst (us.map (·.d)),.ref p,p :: (us.map (·.L)).flatten,.u⟩:It3)⟩
set_option tactic.hygienic true in
theorem oO {i:Nat} {im:IM} {bnd:D->Sto->Option Sto} {c:M3 Bool} {elt:EM} {tg:TG} {E:Ends} (hz:(16777216:Nat)=sizeLine) (hij:Inj ix) (hb:Bnd K (bN ix).pr tg bnd) (hp:G0.pr i=false) (h:tS K G0 W0 (a7 i (cT im bnd c elt ix)) E σ H) :
  xA i (tI K G0 W0 im) tg (tT K (bN ix) noX c) (tE K (bN ix) noX elt) ix E σ H:=by
 refine h.use fun G W le ρ T g r ρ' w e q=>?_
 unfold a7 ae at e
 cases e1:cT im bnd c elt ix ρ with
 | none=>rw [e1] at e;exact nsE e
 | some pr =>
  obtain ⟨o,ρ1⟩:=pr
  rw [e1] at e
  have herr:∀ x,o=.error x->W x ρ1:=fun x hx=>by subst hx;cases e;exact q
  refine ot hz hij hb le w e1 herr fun us H' g' Ts ds eo huz hud hl w1=>?_
  subst eo hud
  intro p hp'
  have w2:=lI w1 huz hp'
  have e:(if i < ρ1.length then some ((.ok .nx,ρ1.set i (some (D.lst (us.map (·.d)),Fl.u))):Except D Flw × Sto) else none)=some (r,ρ'):=e
  split at e
  ·rename_i hi
   cases e
   exact q _ _ _ (w2.store (f:=.u) hi (by rw [le.pr];exact hp) (.inl rfl) (by intro h;cases h))
  ·exact nsE e
end
end L3
end
section
namespace L3
open PySem L2
section
variable {K:FG} {G G0:Gm} {W W0:D->Sto->Prop} {H H':Hp} {σ:St} {ρ ρ':Sto} {T T':List It3} {g:Nat->Option It3} {x y z:It3} {α β:Type}
theorem Wf.mutate {i:Nat} {a:Addr} {o':HO} {d':D} {L0:List Addr} (w:Wf K G H σ ρ T g) (ey:g i=some y) (hu:y.f=.u) (ev:y.v=.ref a) (hm:iq d'=true) (rep:Rep K (upd H a o') d' (.ref a) (a :: L0)) (na:a ∉ L0)
  (hk:∀ c ∈ L0,dN T g c/\(G.H0 c=none\/G.src c)):Wf K G (upd H a o') σ (ρ.set i (some (d',.u))) T (fun j=>if j=i then some ⟨d',.ref a,a :: L0,.u⟩ else g j):=by
 have hfz:y.f ≠ .z:=by rw [hu];intro q;cases q
 have oy:=w.okS i y ey
 obtain ⟨_,a',L',v1,v2,v3,v4⟩:=oy.own hfz
 rw [ev] at v1;cases v1
 have hi:i < ρ.length:=by
  have:=w.sl i
  rw [ey] at this
  exact dM this.symm
 have ma:MutAt H a:=oy.rep.inH a (by rw [v2];exact zY)
 have val:∀ j u,(if j=i then some (⟨d',.ref a,a :: L0,.u⟩:It3) else g j)=some u->(j=i/\u=⟨d',.ref a,a :: L0,.u⟩)\/(j ≠ i/\g j=some u):=fun j u h=>by
  by_cases q:j=i
  ·rw [if_pos q] at h;cases h;exact .inl ⟨q,rfl⟩
  ·rw [if_neg q] at h;exact .inr ⟨q,h⟩
 have keep:∀ u,ItOk K G H u->a ∉ u.L->ItOk K G (upd H a o') u:=fun u ou hn=>ou.keep (M:=fun b=>b=a) (fun b o hb n=>by rw [aJ n];exact hb) (fun b e=>by rw [e];exact ma) fun b hb e=>hn (by rw [<- e];exact hb)
 have nS:∀ j u,j ≠ i->g j=some u->a ∉ u.L:=fun j u n e=>w.ss i j y u (Ne.symm n) ey e hfz a ev
 have nT:∀ u ∈ T,a ∉ u.L:=fun u hu'=>(w.st i y ey u hu').1 hfz a ev
 have dom:∀ b o,H b=some o->∃ o'',upd H a o' b=some o'':=fun b o hb=>by
  by_cases q:b=a
  ·rw [q,bc];exact ⟨_,rfl⟩
  ·rw [aJ q];exact ⟨o,hb⟩
 refine ⟨by rw [List.length_set];exact w.len,fun j=>?_,fun j u h=>?_,fun j u h=>?_,fun u hu'=>keep u (w.okT u hu') (nT u hu'),fun j k p q n hp hq=>?_,fun j u h t ht=>?_,w.tt,fun b o e n=>?_,w.pro,⟨w.fx.frT,fun j u h hp hf b eb=>?_,fun b hb=>?_,fun b o hb=>?_,fun j u h hl=>?_⟩⟩
 ·rw [bX hi]
  by_cases q:j=i
  ·rw [if_pos q,if_pos q];rfl
  ·rw [if_neg q,if_neg q];exact w.sl j
 ·rcases val j u h with ⟨rfl,rfl⟩ | ⟨n,h⟩
  ·rw [w.sv j y ey,ev]
  ·exact w.sv j u h
 ·rcases val j u h with ⟨rfl,rfl⟩ | ⟨n,h⟩
  ·refine ⟨rep,fun _=>⟨hm,a,L0,rfl,rfl,na,fun _=>v4 hu⟩,fun c hc=>?_⟩
   rcases z8.mp hc with e | hc
   ·rw [e];exact oy.src a (by rw [v2];exact zY)
   ·exact (hk c hc).2
  ·exact keep u (w.okS j u h) (nS j u n h)
 ·rcases val j p hp with ⟨ej,ep⟩ | ⟨n1,hp'⟩
  ·rcases val k q hq with ⟨ek,eq⟩ | ⟨n2,hq'⟩
   ·exact absurd (ej.trans ek.symm) n
   ·rw [ep]
    intro _ c ec
    cases ec
    exact nS k q n2 hq'
  ·rcases val k q hq with ⟨ek,eq⟩ | ⟨n2,hq'⟩
   ·rw [eq]
    intro hf c ec hc
    rcases z8.mp hc with e | hc
    ·obtain ⟨_,b,L2,u1,u2,_⟩:=(w.okS j p hp').own hf
     rw [ec] at u1;cases u1
     exact nS j p n1 hp' (by rw [<- e,u2];exact zY)
    ·exact (hk c hc).1.1 j p hp' hf ec
   ·exact w.ss j k p q n hp' hq'
 ·rcases val j u h with ⟨ej,eu⟩ | ⟨n,h'⟩
  ·rw [eu]
   refine ⟨fun _ c ec=>by cases ec;exact nT t ht,fun hf c ec hc=>?_⟩
   rcases z8.mp hc with e | hc
   ·obtain ⟨_,b,L2,u1,u2,_⟩:=(w.okT t ht).own hf
    rw [ec] at u1;cases u1
    exact nT t ht (by rw [<- e,u2];exact zY)
   ·exact (hk c hc).1.2 t ht hf ec
  ·exact w.st j u h' t ht
 ·have:b ≠ a:=fun z=>by
   subst z
   rcases v4 hu with h | h
   ·rw [e] at h;cases h
   ·exact n h
  rw [aJ this];exact w.base b o e n
 ·rcases val j u h with ⟨ej,eu⟩ | ⟨n,h'⟩
  ·subst ej
   rw [eu] at eb
   cases eb
   exact w.fx.frS j y ey hp hfz a ev
  ·exact w.fx.frS j u h' hp hf b eb
 ·obtain ⟨o,ho⟩:=w.fx.bin b hb
  exact dom b o ho
 ·obtain ⟨o2,ho⟩:=w.fx.ob b o hb
  exact dom b o2 ho
 ·rcases val j u h with ⟨ej,eu⟩ | ⟨n,h'⟩
  ·rw [eu] at hl;cases hl
  ·exact w.fx.lvS j u h' hl
noncomputable def MutD (K:FG) (r:V->List V->Hp->VK->Prop) (f:D->List D->Option (D × D)):Prop:=∀ (a:Addr) (d:D) (L0:List Addr) (as:List It3) (H:Hp) (Q:VK) (p:D × D),Rep K H d (.ref a) (a :: L0)->iq d=true->a ∉ L0->(∀ x ∈ as,Rep K H x.d x.v x.L)->(∀ x ∈ as,a ∉ x.L)->f d (as.map (·.d))=some p ->
 (∀ (o':HO) (L1:List Addr) (w:It3),Rep K (upd H a o') p.1 (.ref a) (a :: L1)->iq p.1=true->(∀ c ∈ L1,c ∈ L0\/dC as c)->w.f=.z->w.d=p.2->Rep K (upd H a o') w.d w.v w.L->(∀ c ∈ w.L,c ∈ L0\/dC as c)->Q w.v (upd H a o'))->r (.ref a) (as.map (·.v)) H Q
noncomputable def chk (ok:D->Bool) (i:Nat):M3 Unit:=fun ρ=>match (ρ[i]?).join with
 | some (d,_)=>if ok d then some (.ok (),ρ) else none
 | none=>none
theorem mK {i:Nat} {k:R3->M3 β} {r:Except D β} (e:ae (ac i) k ρ=some (r,ρ')):∃ p,(ρ[i]?).join=some p/\k (.pl i) ρ=some (r,ρ'):=by
 unfold ae ac at e
 cases q:(ρ[i]?).join with
 | none=>rw [q] at e;exact nsE e
 | some p=>rw [q] at e;exact ⟨p,rfl,e⟩
theorem uN {ok:D->Bool} {i:Nat} {k:Unit->M3 β} {r:Except D β} (e:ae (chk ok i) k ρ=some (r,ρ')):(∀ p,(ρ[i]?).join=some p->ok p.1=true)/\k () ρ=some (r,ρ'):=by
 unfold ae chk at e
 cases q:(ρ[i]?).join with
 | none=>rw [q] at e;exact nsE e
 | some p =>
  rw [q] at e
  dsimp only at e
  cases h:ok p.1 with
  | false=>rw [h] at e;exact nsE e
  | true=>rw [h] at e;exact ⟨fun p' e'=>by cases e';exact h,e⟩
noncomputable def rK (ok:D->Bool) (f:D->List D->Option (D × D)) (i:Nat) (ms:M3 (List R3)):EM:=ae (ac i) fun _=>ae (chk ok i) fun _=>ae ms fun rs=>ae (gives rs) fun ds=>fun ρ=>match (ρ[i]?).join with
 | some (d,.u)=>match f d ds with
  | some p=>some (.ok (.val p.2 .z),ρ.set i (some (p.1,.u)))
  | none=>none
 | _=>none
theorem Wf.changed {i:Nat} {d:D} {as us:List It3} {r:V->List V->Hp->VK->Prop} {f:D->List D->Option (D × D)} {p:D × D} {v:V} {Q:VK} (hr:MutD K r f) (w:Wf K G H σ ρ (us ++ T) g) (e:(ρ[i]?).join=some (d,.u)) (hv:σ[i]?=some (some v)) (ha:∀ y ∈ as,Itm (us ++ T) g y/\y.f=.z)
  (ef:f d (as.map (·.d))=some p) (q:∀ v H',Got K G σ (ρ.set i (some (p.1,.u))) T (.val p.2 .z) v H'->Q v H'):r v (as.map (·.v)) H Q:=by
 obtain ⟨y,y1,y2,y3,y4⟩:=w.slot e
 rw [hv] at y4
 injection y4 with y4
 injection y4 with y4
 have hfz:y.f ≠ .z:=by rw [y3];intro q;cases q
 have oy:=w.okS i y y1
 obtain ⟨m,a,L0,v1,v2,v3,_⟩:=oy.own hfz
 have ra:=oy.rep
 rw [v1,v2,y2] at ra
 rw [y2] at m
 rw [y4,v1]
 have na:∀ x ∈ as,a ∉ x.L:=fun x hx hc=>by
  have:=(w.kid (ha x hx).1 hc fun hf=>absurd (ha x hx).2 hf).1 i y y1 hfz
  exact this v1
 refine hr a d L0 as H Q p ra m v3 (fun x hx=>(w.itm (ha x hx).1).rep) na ef fun o' L1 u r1 m1 s1 uf ud ur us1=>?_
 have hsrc:∀ c,(c ∈ L0\/dC as c)->dN (us ++ T) g c/\(G.H0 c=none\/G.src c):=fun c hc=>by
  rcases hc with hc | hc
  ·have hc':c ∈ y.L:=by rw [v2];exact zZ _ hc
   exact ⟨w.kid (.inl ⟨i,y1⟩) hc' fun _ ez=>by rw [v1] at ez;cases ez;exact v3 hc,oy.src c hc'⟩
  ·exact w.alls ha hc
 have nL:∀ c,(c ∈ L0\/dC as c)->c ≠ a:=fun c hc z=>(hsrc c hc).1.1 i y y1 hfz (by rw [z];exact v1)
 have w1:=w.mutate (o':=o') y1 y3 v1 m1 r1 (fun h=>nL a (s1 a h) rfl) fun c hc=>hsrc c (s1 c hc)
 have w2:=w1.pushAll (ws:=[u]) fun x hx=>by
  rw [Az.mp hx]
  refine ⟨uf,ur,fun c hc=>?_⟩
  have s:=hsrc c (us1 c hc)
  refine ⟨⟨fun j z ez hf hz=>?_,s.1.2⟩,s.2⟩
  have ez:(if j=i then some (⟨p.1,.ref a,a :: L1,.u⟩:It3) else g j)=some z:=ez
  by_cases q:j=i
  ·rw [if_pos q] at ez
   cases ez
   cases hz
   exact nL a (us1 a hc) rfl
  ·rw [if_neg q] at ez
   exact s.1.1 j z ez hf hz
 rw [<- ud,<- uf] at q
 exact q u.v _ ⟨[u],_,w2.sub ((List.Sublist.refl [u]).append (Ag us T)),.val u⟩
theorem yn {i:Nat} {Ty:String} {ok:D->Bool} {ms:M3 (List R3)} {r:V->List V->Hp->VK->Prop} {f:D->List D->Option (D × D)} {Q:VK} (hr:MutD K r f) (hok:∀ d v L H,ok d=true->Rep K H d v L->tyV K Ty v H) (h:tE K G0 W0 (rK ok f i ms) σ H Q):tBM K Ty r (qU i) (tA K G0 W0 ms) σ H Q:=by
 refine h.use fun G W le ρ T g o ρ' w e q=>?_
 obtain ⟨p0,e0,e⟩:=mK e
 obtain ⟨hk,e⟩:=uN e
 obtain ⟨d0,f0⟩:=p0
 obtain ⟨y,y1,y2,y3,y4⟩:=w.slot e0
 refine ⟨y.v,y4,hok d0 y.v y.L H (hk _ e0) (by rw [<- y2];exact (w.okS i y y1).rep),?_⟩
 refine tA.seq le w e q.err fun rs ρ1 e1 vs H1 Ts g1 w1 a1=>?_
 obtain ⟨ds,ρ2,g2,e2,_,w2,_,ys,hy,f1,f2⟩:=a1.gives w1 e1
 subst f1 f2
 cases e3:(ρ2[i]?).join with
 | none=>rw [e3] at e2;exact nsE e2
 | some p3 =>
  obtain ⟨d3,f3⟩:=p3
  rw [e3] at e2
  cases f3 with
  | u =>
   dsimp only at e2
   cases e4:f d3 (ys.map (·.d)) with
   | none=>rw [e4] at e2;exact nsE e2
   | some p =>
    rw [e4] at e2
    cases e2
    exact w2.changed hr e3 y4 hy e4 q
  | l=>exact nsE e2
  | z=>exact nsE e2
noncomputable def j6 (t:V->V->V->Hp->(Hp->Prop)->Prop):V->List V->Hp->VK->Prop:=fun x vs H Q=>∃ k v,vs=[k,v]/\t x k v H fun H'=>Q .non H'
noncomputable def kT (f:D->List D->Option (D × D)) (i:Nat) (mk mv:EM):SM:=ae mv fun rv=>ae (ac i) fun _=>ae mk fun rk=>ae (gives [rk,rv]) fun ds=>fun ρ=>match (ρ[i]?).join with
 | some (d,.u)=>match f d ds with
  | some p=>some (.ok .nx,ρ.set i (some (p.1,.u)))
  | none=>none
 | _=>none
theorem xY {i:Nat} {mk mv:EM} {t:sE} {f:D->List D->Option (D × D)} {E:Ends} (hr:MutD K (j6 t) f) (h:tS K G0 W0 (kT f i mk mv) E σ H):sO (tE K G0 W0 mv) (gSub (qU i) (tE K G0 W0 mk) t) E σ H:=by
 refine h.use fun G W le ρ T g r ρ' w e q=>?_
 refine tE.seq le w e q.err fun rv ρ1 e1 v H1 ⟨Ts,g1,w1,a1⟩=>?_
 obtain ⟨p0,e0,e1⟩:=mK e1
 obtain ⟨d0,f0⟩:=p0
 obtain ⟨y,y1,y2,y3,y4⟩:=w1.slot e0
 refine ⟨y.v,y4,?_⟩
 ·refine tE.seq le w1 e1 q.err fun rk ρ2 e2 vk H2 ⟨Us,g2,w2,a2⟩=>?_
  have a3:Ars σ [rk,rv] [vk,v] (([] ++ Ts) ++ Us):=.cons a2 (.cons a1 .nil)
  have w3:Wf K G H2 σ ρ2 ((([] ++ Ts) ++ Us) ++ T) g2:=w2.perm (by
   rw [List.nil_append,<- List.append_assoc]
   exact (List.perm_append_comm).append_right T)
  obtain ⟨ds,ρ3,g3,e3,_,w4,_,ys,hy,f1,f2⟩:=a3.gives w3 e2
  subst f1
  cases e4:(ρ3[i]?).join with
  | none=>rw [e4] at e3;exact nsE e3
  | some p3 =>
   obtain ⟨d3,f3⟩:=p3
   rw [e4] at e3
   cases f3 with
   | u =>
    dsimp only at e3
    cases e5:f d3 (ys.map (·.d)) with
    | none=>rw [e5] at e3;exact nsE e3
    | some p =>
     rw [e5] at e3
     cases e3
     have:=w4.changed (Q:=fun _ H'=>E.nx σ H') hr e4 y4 hy e5 fun v' H' ⟨Vs,g5,w5,a5⟩=>q _ _ _ (w5.sub (Ag Vs T))
     rw [f2] at this
     obtain ⟨k',v',ekv,ht⟩:=this
     cases ekv
     exact ht
   | l=>exact nsE e3
   | z=>exact nsE e3
end
end L3
end
section
namespace L3
open PySem L2
structure RE (X:Cx) (G0:Gm) (W0:D->Sto->Prop) (e:Expr) (m:EM):Prop where
 h:PE X e (tE X.K G0 W0 m)
structure RT (X:Cx) (G0:Gm) (W0:D->Sto->Prop) (e:Expr) (m:M3 Bool):Prop where
 h:PT X e (tT X.K G0 W0 m)
structure RW (X:Cx) (G0:Gm) (W0:D->Sto->Prop) (e:Expr) (m:M3 Bool):Prop where
 h:PW X e (tT X.K G0 W0 m)
structure RA (X:Cx) (G0:Gm) (W0:D->Sto->Prop) (es:List Expr) (m:M3 (List R3)):Prop where
 h:PA X es (tA X.K G0 W0 m)
structure RS (X:Cx) (G0:Gm) (W0:D->Sto->Prop) (s:Stmt) (m:SM):Prop where
 h:PS X s (tS X.K G0 W0 m)
structure RSs (X:Cx) (G0:Gm) (W0:D->Sto->Prop) (s:List Stmt) (m:SM):Prop where
 h:PSs X s (tS X.K G0 W0 m)
structure RI (X:Cx) (G0:Gm) (W0:D->Sto->Prop) (tg iter:Expr) (m:IM):Prop where
 h:PI X tg iter (tI X.K G0 W0 m)
structure RG (X:Cx) (pr:Nat->Bool) (target:Expr) (bnd:D->Sto->Option Sto):Prop where
 h:∃ tg,PG X target tg/\Bnd X.K pr tg bnd
structure RGs (X:Cx) (pr:Nat->Bool) (targets:List Expr) (bnd:List D->Sto->Option Sto):Prop where
 h:∃ tg,PGs X targets tg/\u7 X.K pr tg bnd
theorem PE.imp {X:Cx} {e:Expr} {t t':TE} (h:PE X e t) (f:∀ σ H Q,t' σ H Q->t σ H Q):PE X e t':=fun pins s σ H Q I q=>h pins s σ H Q I (f σ H Q q)
theorem PT.imp {X:Cx} {e:Expr} {t t':TT} (h:PT X e t) (f:∀ σ H Q,t' σ H Q->t σ H Q):PT X e t':=fun pins s σ H Q I q=>h pins s σ H Q I (f σ H Q q)
theorem PW.imp {X:Cx} {e:Expr} {t t':TT} (h:PW X e t) (f:∀ σ H Q,t' σ H Q->t σ H Q):PW X e t':=fun wh pins s σ H Q I q=>h wh pins s σ H Q I (f σ H Q q)
theorem PA.imp {X:Cx} {e:List Expr} {t t':TA} (h:PA X e t) (f:∀ σ H Q,t' σ H Q->t σ H Q):PA X e t':=fun pos pins s σ H Q I q=>h pos pins s σ H Q I (f σ H Q q)
theorem PS.imp {X:Cx} {e:Stmt} {t t':TS} (h:PS X e t) (f:∀ D σ H,t' D σ H->t D σ H):PS X e t':=fun pins s σ H D I q=>h pins s σ H D I (f D σ H q)
theorem PSs.imp {X:Cx} {e:List Stmt} {t t':TS} (h:PSs X e t) (f:∀ D σ H,t' D σ H->t D σ H):PSs X e t':=fun pins s σ H D I q=>h pins s σ H D I (f D σ H q)
theorem PI.imp {X:Cx} {tg e:Expr} {t t':TI} (h:PI X tg e t) (f:∀ σ H R,t' σ H R->t σ H R):PI X tg e t':=fun pins s σ H R I q=>h pins s σ H R I (f σ H R q)
theorem szl:(16777216:Nat)=sizeLine:=by rw [sizeLine_eq]
section
variable {X:Cx} {G0:Gm} {W0:D->Sto->Prop} {a b c e:Expr} {es:List Expr} {pos:Pos} {ma mb mc m:EM} {ms:M3 (List R3)} {t u:M3 Bool} {fT:List Expr}
theorem tz (i:Nat) {x:Str} (hN:X.N[i]?=some x) (hv:Vis X.env.scope x) (hd:(x == ("__debug__":Str))=false) (hcd:(x == ("__classdict__":Str))=false):RE X G0 W0 (.Name x pos) (ac i):=⟨PE.imp (fo hN hv hd hcd) fun _ _ _ h=>yk h⟩
theorem af {i j}:RE X G0 W0 (.Constant (.int i) j pos) (mC (.int i)):=⟨PE.imp y7 fun _ _ _ h=>fL (fun _=>.int i) h⟩
theorem j4 {i j}:RE X G0 W0 (.Constant (.bool i) j pos) (mC (.bl i)):=⟨PE.imp pe_bl fun _ _ _ h=>fL (fun _=>.bl i) h⟩
theorem lX {j}:RE X G0 W0 (.Constant .none j pos) (mC .non):=⟨PE.imp yY fun _ _ _ h=>fL (fun _=>.non) h⟩
theorem lW {i j}:RE X G0 W0 (.Constant (.str i) j pos) (mC (.str i)):=⟨PE.imp yV fun _ _ _ h=>fL (fun _=>.str i) h⟩
theorem cI {x:Str} {i:Int} {tk:Tok} (hg:Gl X x) (hm:X.mg x=some (.int i tk)) (hd:(x == ("__debug__":Str))=false):RE X G0 W0 (.Name x pos) (mC (.int i)):=⟨PE.imp (wg (v:=V.int i) hg hm ⟨_,rfl⟩ hd) fun _ _ _ h=>fL (fun _=>.int i) h⟩
theorem am {op:Operator} {r:R2} {f:D->D->Option (D × Fl)} (ho:OpR X (binaryOp op) r) (hd:OpD X.K r f) (ha:RE X G0 W0 a ma) (hb:RE X G0 W0 b mb):RE X G0 W0 (.BinOp a op b pos) (ah f ma mb):=⟨PE.imp (pe_op ho ha.h hb.h) fun _ _ _ h=>jM hd h⟩
theorem m7 {op:UnaryOp} {r:V->Hp->VK->Prop} {f:D->Option (D × Fl)} (ho:UnR X (unaryOp op) r) (hd:UnD X.K r f) (ha:RE X G0 W0 a ma):RE X G0 W0 (.UnaryOp op a pos) (mUn f ma):=⟨PE.imp (pe_un ho ha.h) fun _ _ _ h=>xv hd h⟩
theorem fk {op:CmpOp} {r:R2} {f:D->D->Option (D × Fl)} (ho:OpR X (compareOp op) r) (hd:OpD X.K r f) (ha:RE X G0 W0 a ma) (hb:RE X G0 W0 b mb) (hm:behindInMarks op b=false):RE X G0 W0 (.Compare a [op] [b] pos) (ah f ma mb):=⟨PE.imp (wk ho ha.h hb.h hm) fun _ _ _ h=>jM hd h⟩
theorem aF {r:R2} {f:D->D->Option (D × Fl)} (ho:IxR X r) (hd:OpD X.K r f) (ha:RE X G0 W0 a ma) (hb:RE X G0 W0 b mb) (hs:qO b):RE X G0 W0 (.Subscript a b pos) (ah f ma mb):=⟨PE.imp (pe_ix ho ha.h hb.h hs) fun _ _ _ h=>jM hd h⟩
theorem fV (ha:RE X G0 W0 a ma) (hb:RE X G0 W0 (.BoolOp .And (b :: fT) pos) mb):RE X G0 W0 (.BoolOp .And (a :: b :: fT) pos) (ip ma mb):=⟨PE.imp (y9 ha.h hb.h) fun _ _ _ h=>yp h⟩
theorem iJ {op} (h:RE X G0 W0 a ma):RE X G0 W0 (.BoolOp op [a] pos) ma:=⟨yW h.h⟩
theorem yE (ha:RE X G0 W0 a ma):RE X G0 W0 (.UnaryOp .Not a pos) (zr ma):=⟨PE.imp (yX ha.h) fun _ _ _ h=>ym h⟩
theorem re_if (hc:RT X G0 W0 c t) (ha:RE X G0 W0 a ma) (hb:RE X G0 W0 b mb):RE X G0 W0 (.IfExp c a b pos) (mIf t ma mb):=⟨PE.imp (tW hc.h ha.h hb.h) fun _ _ _ h=>tE_if h⟩
noncomputable def gM (f f':D->D->Option (D × Fl)) (ma mb mc:EM):EM:=ae ma fun ra=>ae mb fun rb=>ae (der ra) fun da=>ae (der rb) fun db=>ae (bh ((f da db).bind fun p=>asB p.1)) fun k=>if k then ae mc fun rc=>ae (der rb) fun db=>ae (der rc) fun dc=>bh ((f' db dc).map fun p=>R3.val p.1 p.2) else bb (.val (.bl false) .z)
theorem fS (ha:RE X G0 W0 a ma) (he:∀ whole,isTrue a X.env whole=(do let v <- whole;standAt a.pos;holding [v] (truthy v))):RT X G0 W0 a (cB ma):=⟨PT.imp (yK ha.h he) fun _ _ _ h=>xW h⟩
theorem vK (h:RW X G0 W0 a t):RT X G0 W0 a t:=⟨h.h.pt⟩
theorem vC (ha:RT X G0 W0 a t):RW X G0 W0 (.BoolOp .And [a] pos) t:=⟨vT ha.h⟩
theorem oT (ha:RT X G0 W0 a t):RW X G0 W0 (.BoolOp .Or [a] pos) t:=⟨yI ha.h⟩
theorem yy (ha:RT X G0 W0 a t) (hb:RW X G0 W0 (.BoolOp .And (b :: fT) pos) u):RW X G0 W0 (.BoolOp .And (a :: b :: fT) pos) (pI t u):=⟨PW.imp (yJ ha.h hb.h) fun _ _ _ h=>xX h⟩
theorem sX (ha:RT X G0 W0 a t) (hb:RW X G0 W0 (.BoolOp .Or (b :: fT) pos) u):RW X G0 W0 (.BoolOp .Or (a :: b :: fT) pos) (cOr t u):=⟨PW.imp (pw_or ha.h hb.h) fun _ _ _ h=>tT_or h⟩
theorem gK (ha:RT X G0 W0 a t):RT X G0 W0 (.UnaryOp .Not a pos) (kH t):=⟨PT.imp (yM ha.h) fun _ _ _ h=>xV h⟩
theorem ad:RA X G0 W0 [] aj:=⟨PA.imp o6 fun _ _ _ h=>sP h⟩
theorem aa (ha:RE X G0 W0 e m) (hr:RA X G0 W0 es ms) (hs:starEach (e :: es) X.env=(false,eval e X.env) :: starEach es X.env):RA X G0 W0 (e :: es) (ab m ms):=⟨PA.imp (jB ha.h hr.h hs) fun _ _ _ h=>pR h⟩
theorem aQ {x1} (h:RA X G0 W0 es ms):RE X G0 W0 (.Tuple es x1 pos) (bW ms):=⟨PE.imp (yU h.h) fun _ _ _ h=>yl szl h⟩
theorem fU (h:RA X G0 W0 es ms):RE X G0 W0 (.List es pos) (jq ms):=⟨PE.imp (yZ h.h) fun _ _ _ h=>yo szl h⟩
theorem aA {x:Str} {p:Pos} {id:String} {r:List V->Hp->VK->Prop} {f:List D->Option (D × Fl)} (hc:CallR X (.builtin id) r) (hd:ff X.K r f) (hg:Gl X x) (hm:X.mg x=none) (hv:bootBuiltins x=some (.builtin id)) (ha:RA X G0 W0 (e :: es) ms) (hn:x ≠ "__name__") (hdb:(x == ("__debug__":Str))=false)
  (he:starEach (e :: es) X.env=(false,eval e X.env) :: starEach es X.env) (hpl:(backTo pos (starEach es X.env)).any (·.1)=false):RE X G0 W0 (.Call (.Name x p) (e :: es) [] pos) (aB f ms):=⟨PE.imp (j9 hc hg hm hv ha.h hn hdb he hpl) fun _ _ _ h=>jL hd h⟩
theorem lu {x:Str} {p:Pos} {T:String} {r:List V->Hp->VK->Prop} {f:List D->Option (D × Fl)} (hc:CallR X (.type T) r) (hd:ff X.K r f) (hg:Gl X x) (hm:X.mg x=none) (hv:bootBuiltins x=some (.type T)) (ha:RA X G0 W0 (e :: es) ms) (hn:x ≠ "__name__") (hdb:(x == ("__debug__":Str))=false)
  (he:starEach (e :: es) X.env=(false,eval e X.env) :: starEach es X.env) (hpl:(backTo pos (starEach es X.env)).any (·.1)=false):RE X G0 W0 (.Call (.Name x p) (e :: es) [] pos) (aB f ms):=⟨PE.imp (rn hc hg hm hv ha.h hn hdb he hpl) fun _ _ _ h=>jL hd h⟩
variable {st:Stmt} {sts:List Stmt} {sm sn:SM}
theorem bZ:RSs X G0 W0 [] fQ:=⟨PSs.imp vZ fun _ _ _ h=>ye h⟩
theorem ag (h1:RS X G0 W0 st sm) (h2:RSs X G0 W0 sts sn):RSs X G0 W0 (st :: sts) (aH sm sn):=⟨PSs.imp (tL h1.h h2.h) fun _ _ _ h=>x4 h⟩
theorem ak (h1:RS X G0 W0 st sm):RSs X G0 W0 [st] sm:=⟨vY h1.h⟩
theorem fj (he:RE X G0 W0 e m) (hs:swapsWith e none pos.line X.env=pure false):RS X G0 W0 (.Expr e pos) (fR m):=⟨PS.imp (wa he.h hs) fun _ _ _ h=>vf h⟩
theorem aK (np:Nat) (hnp:∀ i,np<=i->G0.pr i=false) (he:RE X G0 W0 e m):RS X G0 W0 (.Return (some e) pos) (bq np m):=⟨PS.imp (yO he.h) fun _ _ _ h=>x5 hnp h⟩
theorem eQ {x y:List Stmt} (hc:RT X G0 W0 c t) (ha:RSs X G0 W0 x sm) (hb:RSs X G0 W0 y sn):RS X G0 W0 (.If c x y pos) (sIf t sm sn):=⟨PS.imp (ps_if hc.h ha.h hb.h) fun _ _ _ h=>tS_if h⟩
theorem aG (i:Nat) {x:Str} {pos':Pos} (hN:X.N.Nodup) (hi:X.N[i]?=some x) (hx:Loc X.env.scope x) (he:RE X G0 W0 e m) (hs:swapsWith e (some (.Name x pos')) pos.line X.env=pure false) (hf:X.fn x=true\/X.env.scope.names.lookup x=some .local) (hp:G0.pr i=false):RS X G0 W0 (.Assign [.Name x pos'] e pos) (a7 i m):=⟨PS.imp (yN hN hi hx he.h hs hf) fun _ _ _ h=>xZ hp h⟩
theorem m4 {body:List Stmt} (hp:PassesOwn (model X.prog X.w) X.A X.env X.xe) (hc:RT X G0 W0 c t) (hb:RSs X G0 W0 body sm):RS X G0 W0 (.While c body [] pos) (eI t sm):=⟨PS.imp (tM hp hc.h hb.h) fun _ _ _ h=>sM h⟩
theorem bU {tg iter:Expr} {body:List Stmt} {im:IM} {bnd:D->Sto->Option Sto} (hp:PassesOwn (model X.prog X.w) X.A X.env X.xe) (hc:X.calm=true) (hi:RI X G0 W0 tg iter im) (hg:RG X G0.pr tg bnd) (hb:RSs X G0 W0 body sm) (hs:∀ x,foldedSetIterable iter X.env x=pure x):RS X G0 W0 (.For tg iter body [] pos) (di im bnd sm):=by
 obtain ⟨g,h1,h2⟩:=hg.h
 exact ⟨PS.imp (yQ hp hc hi.h h1 hb.h hs) fun _ _ _ h=>yg h2 h⟩
theorem aY (i:Nat) {x:Str} {pr:Nat->Bool} (hN:X.N.Nodup) (hi:X.N[i]?=some x) (hx:Loc X.env.scope x) (hf:X.fn x=true\/X.env.scope.names.lookup x=some .local) (hp:pr i=false):RG X pr (.Name x pos) (ay i):=⟨_,cv hN hi hx hf,bL hp⟩
theorem pY {pr:Nat->Bool}:RGs X pr [] pM:=⟨_,qc,oF⟩
theorem hU {pr:Nat->Bool} {bn:D->Sto->Option Sto} {bs:List D->Sto->Option Sto} (h1:RG X pr e bn) (h2:RGs X pr es bs) (hs:(assignEach (e :: es) X.env).map (·.2)=assign e X.env :: (assignEach es X.env).map (·.2)):RGs X pr (e :: es) (fI bn bs):=by
 obtain ⟨g,a1,a2⟩:=h1.h
 obtain ⟨gs,b1,b2⟩:=h2.h
 exact ⟨_,j8 a1 b1 hs,i6 a2 b2⟩
theorem tw {pr:Nat->Bool} {k n:Nat} {bs:List D->Sto->Option Sto} (hc:X.calm=true) (h:RGs X pr es bs) (hn:(assignEach es X.env).length=n) (hst:(assignEach es X.env).findIdx? (·.1)=none):RG X pr (.Tuple es k pos) (pL n bs):=by
 obtain ⟨gs,b1,b2⟩:=h.h
 exact ⟨_,tU hc b1 hn hst,qJ b2⟩
theorem eh {elt tg iter:Expr} {ifs:List Expr} {scope:Scope} {im:IM} {bnd:D->Sto->Option Sto} {cm:M3 Bool} {em:EM} (NY:List Str) (ix:List (Option Nat)) (hc:X.calm=true) (hi:RI X G0 W0 tg iter im)
  (ht:∀ s H C fp,PTs (aX X NY scope s H C fp) ifs (tT X.K (bN ix) noX cm)) (he:∀ s H C fp,RE (aX X NY scope s H C fp) (bN ix) noX elt em)
  (ck:iV scope X.N X.env.scope NY ix=true) (hij:Inj ix) (hs:∀ x,foldedSetIterable iter X.env x=pure x) (hgu:∃ tg',Bnd X.K (bN ix).pr tg' bnd/\∀ s H C fp,PG (aX X NY scope s H C fp) tg tg'):RE X G0 W0 (.ListComp elt [⟨tg,iter,ifs,0⟩] scope pos) (cT im bnd cm em ix):=by
 obtain ⟨tg',b1,b2⟩:=hgu
 exact ⟨PE.imp (wj NY ix hc hi.h b2 ht (fun s H C fp=>(he s H C fp).h) ck hs) fun _ _ _ h=>vq szl hij b1 h⟩
end
end L3
end
section
namespace L3
open PySem L2
noncomputable def au (F:Fn) (ms:M3 (List R3)):EM:=ae ms fun rs=>fun ρ=>match prs (frz (oh rs) ρ) rs with
 | none=>none
 | some ps=>match F ps with
  | none=>none
  | some (.ok p,qs)=>if qs.length=ps.length then some (.ok (.val p.1 p.2),back rs ps qs (frz (oh rs) ρ)) else none
  | some (.error _,_)=>none
noncomputable def qV (K:FG) (F:Fn):Sp:=fun vs H Q _=>∃ (ps:List It3) (p:D × Fl) (fs:List (D × Fl)),vs=ps.map (·.v)/\(∀ p ∈ ps,Arg K H p)/\ps.Pairwise Apart3/\F (ps.map fun p=>(p.d,p.f))=some (.ok p,fs) /\
 ∀ x qs H',Behind K H H' ps qs x->x.d=p.1->x.f=p.2->qs.map (fun q=>(q.d,q.f))=fs->Q x.v H'
section
variable {K:FG} {G G0:Gm} {W W0:D->Sto->Prop} {H H':Hp} {σ:St} {ρ ρ':Sto} {T T':List It3} {g:Nat->Option It3} {x y z:It3} {α β:Type}
theorem sN {F:Fn} {ms:M3 (List R3)} {Q:VK} (h:tE K G0 W0 (au F ms) σ H Q):tA K G0 W0 ms σ H fun vs H1=>qV K F vs H1 Q E0:=by
 refine h.use fun G W le ρ T g o ρ' w e q=>?_
 refine tA.seq le w e q.err fun rs ρ1 e1 vs H1 Ts g1 w1 a1=>?_
 obtain ⟨g2,w2,z2⟩:=Wf.frz (is:=oh rs) w1
 cases e2:prs (L3.frz (oh rs) ρ1) rs with
 | none=>rw [e2] at e1;exact nsE e1
 | some pfs =>
  rw [e2] at e1
  dsimp only at e1
  have hd:∀ i,2<=(pls rs).count i->∀ y,g2 i=some y->y.f=.z:=fun i hc y ey=>by
   have hm:i ∈ oh rs:=AB.mpr ⟨List.count_pos_iff.mp (by omega),by simpa using hc⟩
   have s1:=w2.sl i
   rw [ey] at s1
   have hy:∃ y0,g1 i=some y0:=by
    cases q1:g1 i with
    | some y0=>exact ⟨y0,rfl⟩
    | none =>
     exfalso
     have s2:=w1.sl i
     rw [q1] at s2
     have:=n9 (is:=oh rs) s2.symm
     rw [this] at s1
     cases s1
   obtain ⟨y0,ey0⟩:=hy
   obtain ⟨y',e3,_,e5⟩:=z2 i y0 ey0
   rw [ey] at e3
   cases e3
   exact e5 hm
  obtain ⟨ps,f1,f2,f3,f4,f5⟩:=Ars.args a1 w2 hd e2
  have hit:∀ p ∈ ps,Itm (Ts ++ T) g2 p:=fun p hp=>by
   rcases f4 p hp with ⟨i,_,ei⟩ | h
   ·exact .inl ⟨i,ei⟩
   ·exact .inr (z6 _ h)
  have harg:∀ p ∈ ps,Arg K H1 p:=fun p hp=>⟨(w2.itm (hit p hp)).rep,fun hf=>by
   obtain ⟨m,a,L',v1,v2,v3,_⟩:=(w2.itm (hit p hp)).own hf
   exact ⟨m,a,L',v1,v2,v3⟩⟩
  subst f2
  cases e3:F pfs with
  | none=>rw [e3] at e1;exact nsE e1
  | some r =>
   obtain ⟨out,fs⟩:=r
   rw [e3] at e1
   cases out with
   | ok p =>
    dsimp only at e1
    split at e1
    ·cases e1
     refine ⟨ps,p,fs,rfl,harg,f3,by rw [f1];exact e3,?_⟩
     intro x qs H' B x1 x2 hq
     obtain ⟨g',w3,px⟩:=Wf.after w2 e2 f1 f4 f5 B.toBehindX
     have w4:=px x B.rep B.own B.src B.apx
     rw [hq] at w4
     rw [<- x1,<- x2] at q
     exact q x.v H' ⟨[x],g',w4,.val x⟩
    ·exact nsE e1
   | error er=>exact nsE e1
noncomputable def dY (b:Bool) (p:It3):It3:=if b then c5 p else p
theorem lB:∀ {mask:List Bool} {ps:List It3},(List.zipWith dY mask ps).map (fun p=>(p.d,p.f))=List.zipWith rN mask (ps.map fun p=>(p.d,p.f))
 | [],_=>rfl
 | _ :: _,[]=>rfl
 | b :: mask,p :: ps=>by
  simp only [List.zipWith_cons_cons,An,lB]
  cases b <;> rfl
theorem rM {mask:List Bool} {ps:List It3} {i:Nat} {q:It3} (h:(List.zipWith dY mask ps)[i]?=some q):∃ b p,mask[i]?=some b/\ps[i]?=some p/\q=dY b p:=by
 rw [List.getElem?_zipWith] at h
 cases e1:mask[i]? with
 | none=>rw [e1] at h;exact nsE h
 | some b =>
  cases e2:ps[i]? with
  | none=>rw [e1,e2] at h;exact nsE h
  | some p=>rw [e1,e2] at h;cases h;exact ⟨b,p,rfl,rfl,rfl⟩
theorem nV {mask:List Bool} {ps:List It3} {i:Nat} {p:It3} (hl:ps.length=mask.length) (h:ps[i]?=some p):∃ b,mask[i]?=some b/\(List.zipWith dY mask ps)[i]?=some (dY b p):=by
 have hi:i < mask.length:=by have:=(Ae.mp h).1;omega
 refine ⟨mask[i],z9 hi,?_⟩
 rw [List.getElem?_zipWith,z9 hi,h]
theorem dX (b:Bool) (p:It3):(dY b p).d=p.d/\(dY b p).v=p.v/\(dY b p).L=p.L/\((dY b p).f=p.f\/(dY b p).f=.z):=by
 cases b
 ·exact ⟨rfl,rfl,rfl,.inl rfl⟩
 ·exact ⟨rfl,rfl,rfl,.inr rfl⟩
theorem NoRoot.low {a b a' b':It3} (h:NoRoot a b) (hv:a'.v=a.v) (hf:a'.f=a.f\/a'.f=.z) (hL:b'.L=b.L):NoRoot a' b':=fun q c e=>by
 rw [hL]
 rcases hf with f | f
 ·exact h (by rw [<- f];exact q) c (by rw [<- hv];exact e)
 ·exact absurd f q
noncomputable def prM (mask:List Bool) (i:Nat):Bool:=match mask[i]? with
 | some b=>!b
 | none=>false
theorem wH {α β:Type} {f:α->β} {l:List α} {i:Nat} {a:α} (h:l[i]?=some a):(l.map f)[i]?=some (f a):=by rw [Ai,h];rfl
set_option tactic.hygienic true in
theorem qz {mask:List Bool} {m:SM} {n:Nat} {vs:List V} {Q:VK} {E:XK} (hn:mask.length<=n) (h:qV K (fnM mask n m) vs H Q E) :
  ∃ G:Gm,G.pr=prM mask/\tS K G noX m { nx:=fun _ H'=>Q .non H',rt:=Q } (vs.map some ++ List.replicate (n - vs.length) none) H:=by
 obtain ⟨ps,p,fs,rfl,ha,hp,hF,q⟩:=h
 unfold fnM at hF
 rw [Ad] at hF
 split at hF
 ·rename_i hl
  rw [<- lB] at hF
  generalize hps:List.zipWith dY mask ps=ps' at hF
  have hl':ps'.length=ps.length:=by rw [<- hps,List.length_zipWith];omega
  have hv:ps'.map (·.v)=ps.map (·.v):=by
   refine List.ext_getElem? fun i=>?_
   rw [Ai,Ai]
   cases e:ps[i]? with
   | none=>rw [List.getElem?_eq_none (by have:=List.getElem?_eq_none_iff.mp e;omega)]
   | some u =>
    obtain ⟨b,_,e2⟩:=nV (mask:=mask) hl e
    rw [hps] at e2
    rw [e2]
    show some (dY b u).v=some u.v
    rw [(dX b u).2.1]
  have up:∀ (i:Nat) (u:It3),ps'[i]?=some u->∃ b u0,mask[i]?=some b/\ps[i]?=some u0/\u=dY b u0:=fun i u e=>by rw [<- hps] at e;exact rM e
  have upm:∀ u ∈ ps',∃ b u0,u0 ∈ ps/\u=dY b u0:=fun u hu=>by
   obtain ⟨i,hi,e⟩:=List.mem_iff_getElem.mp hu
   obtain ⟨b,u0,_,e2,e3⟩:=up i u (by rw [z9 hi,e])
   exact ⟨b,u0,Af e2,e3⟩
  have ha':∀ u ∈ ps',Arg K H u:=fun u hu=>by
   obtain ⟨b,u0,h0,rfl⟩:=upm u hu
   obtain ⟨e1,e2,e3,e4⟩:=dX b u0
   refine ⟨by rw [e1,e2,e3];exact (ha u0 h0).rep,fun hf=>?_⟩
   rw [e1,e2,e3]
   refine (ha u0 h0).own fun z=>hf ?_
   rcases e4 with f | f
   ·rw [f];exact z
   ·exact f
  have hp':ps'.Pairwise Apart3:=by
   rw [List.pairwise_iff_getElem]
   intro i j hi hj lt
   obtain ⟨b,u0,_,e2,e3⟩:=up i _ (z9 hi)
   obtain ⟨b',u0',_,e2',e3'⟩:=up j _ (z9 hj)
   have ap:=dl hp (fun _ _=>Apart3.symm) (Al lt) e2 e2'
   rw [e3,e3']
   obtain ⟨_,a2,a3,a4⟩:=dX b u0
   obtain ⟨_,b2,b3,b4⟩:=dX b' u0'
   exact ⟨ap.1.low a2 a4 b3,ap.2.low b2 b4 a3⟩
  have hpr:∀ (i:Nat) (u:It3),ps'[i]?=some u->u.f ≠ .z->prM mask i=true:=fun i u e hf=>by
   obtain ⟨b,u0,e1,e2,e3⟩:=up i u e
   unfold prM
   rw [e1]
   cases b with
   | false=>rfl
   | true=>rw [e3] at hf;exact absurd rfl hf
  have alls:∀ c,dC ps' c->dC ps c:=fun c ⟨u,hu,hc⟩=>by
   obtain ⟨b,u0,h0,rfl⟩:=upm u hu
   exact ⟨u0,h0,by rw [<- (dX b u0).2.2.1];exact hc⟩
  have lift:∀ {H':Hp} {qs:List It3},BehindX K H H' ps' qs->BehindX K H H' ps qs:=fun {H' qs} B=>by
   refine ⟨fun b o hb hn=>B.frame b o hb fun u hu hf hv=>?_,Paired.ofGet ?_ fun k u v eu ev=>?_,B.apart⟩
   ·obtain ⟨b',u0,h0,rfl⟩:=upm u hu
    obtain ⟨_,e2,_,e4⟩:=dX b' u0
    rcases e4 with f | f
    ·exact hn u0 h0 (by rw [<- f];exact hf) (by rw [<- e2];exact hv)
    ·rw [f] at hf;cases hf
   ·rw [<- hl'];exact Paired.length B.back
   ·obtain ⟨b,_,e2⟩:=nV (mask:=mask) hl eu
    rw [hps] at e2
    have b1:=Paired.at B.back e2 ev
    obtain ⟨a1,a2,a3,a4⟩:=dX b u
    refine ⟨fun hz=>?_,by rw [b1.v,a2],?_,b1.arg,fun c hc=>(b1.src c hc).imp id (alls c),fun hf b' hb'=>?_⟩
    ·have:dY b u=u:=by
      cases b
      ·rfl
      ·obtain ⟨d,v,L,f⟩:=u
       have hz:f=.z:=hz
       subst hz;rfl
     rw [<- this]
     exact b1.z (by rw [this];exact hz)
    ·rcases b1.f with h | h
     ·rcases a4 with f | f
      ·exact .inl (h.trans f)
      ·exact .inr (h.trans f)
     ·exact .inr h
    ·rcases a4 with f | f
     ·exact b1.there (by rw [f];exact hf) b' (by rw [a2];exact hb')
     ·-- lowered: as it was
      obtain ⟨_,a,L',v1,v2,_⟩:=(ha u (Af eu)).own (by rw [hf];intro q;cases q)
      rw [hb'] at v1;cases v1
      have hq:=b1.z f
      have r:=b1.arg.rep
      rw [hq,a1,a2,a3] at r
      exact (r.inH b' (by rw [v2];exact zY)).ex
  have hnn:ps'.length<=n:=by omega
  have wf:=sH (K:=K) (H:=H) (n:=n) (pr:=prM mask) hnn ha' hp' hpr
  rw [hv] at wf
  refine ⟨gOf H (prM mask) ((ps.map (·.v)).map some ++ List.replicate (n - (ps.map (·.v)).length) none) ps',rfl,?_⟩
  have h0:∀ (i:Nat) (u:It3),ps'[i]?=some u->((ps.map (·.v)).map some ++ List.replicate (n - (ps.map (·.v)).length) none)[i]?=some (some u.v):=fun i u e=>lj (by rw [<- hv];exact wH e)
  unfold fn0 at hF
  cases e:m (jh n (ps'.map fun p=>(p.d,p.f))) with
  | none=>rw [e] at hF;exact nsE hF
  | some rr =>
   obtain ⟨r,ρ2⟩:=rr
   rw [e] at hF
   refine tS.mk (r:=r) (Le.refl K _ _) wf e ?_
   have fin:∀ {x:It3} {σ':St} {H':Hp} {g':Nat->Option It3} {d:D} {f:Fl},Wf K (gOf H (prM mask) ((ps.map (·.v)).map some ++ List.replicate (n - (ps.map (·.v)).length) none) ps') H' σ' ρ2 [x] g'->x.d=d->x.f=f ->
     ((gE ρ2 0 (ps'.map fun p=>(p.d,p.f))).map fun fs=>((.ok (d,f),fs):Except D (D × Fl) × List (D × Fl)))=some (.ok p,fs)->Q x.v H':=fun {x σ' H' g' d f} w1 xd xf hF=>by
    cases e5:gE ρ2 0 (ps'.map fun p=>(p.d,p.f)) with
    | none=>rw [e5] at hF;exact nsE hF
    | some fs' =>
     rw [e5] at hF
     cases hF
     obtain ⟨qs,B,hq⟩:=pK (n:=n) ha' hp' hpr h0 w1 e5
     have BX:=lift B.toBehindX
     exact q x qs H' ⟨BX,B.rep,B.own,fun c hc=>(B.src c hc).imp id (alls c),B.apx⟩ xd xf hq
   cases r with
   | error er=>
    dsimp only at hF
    cases e5:gE ρ2 0 (ps'.map fun p=>(p.d,p.f)) with
    | none=>rw [e5] at hF;exact nsE hF
    | some fs'=>rw [e5] at hF;cases hF
   | ok fl =>
    cases fl with
    | nx =>
     intro σ' H' g' w1
     obtain ⟨Ts,g2,w2,a2⟩:=w1.const .non
     obtain ⟨x,rfl,x1,x2,x3⟩:=a2.val_inv
     have:=fin w2 x1 x2 hF
     rw [x3] at this
     exact this
    | br=>exact nsE hF
    | ct=>exact nsE hF
    | rt d f =>
     intro x σ' H' g' w1 x1 x2
     exact fin w1 x1 x2 hF
 ·exact nsE hF
end
noncomputable abbrev aL (P:Program) (w:World) (K:FG) (mg:Str->Option Value) (base:Heap) (x:Str) (k:Nat) (ps:List Str) (F:Fn):Prop:=Callee P w K mg base x k ps (qV K F)
set_option tactic.hygienic true in
theorem aS {P:Program} {w:World} {K:FG} {mg:Str->Option Value} {base:Heap} {x:Str} {st:Stmt} {k:Nat} {N ps:List Str} {mask:List Bool} {m:SM} {nn:Nat} (D:Def K mg x st) (S:FnScope N ps (ai st)) (hml:mask.length=ps.length) (hnn:N.length=nn)
  (hb:∀ (kV doc pm:Value) (an:Option Addr) (cdv ct:Value) (us:List Value),us.length=ps.length->bindArgs (PySem.W.fnOf x x (bg st) (aU st) (ai st) .none kV doc pm an cdv ct) ⟨us,[]⟩=pure (ps.zip us))
  (body:∀ (cdv:Value) (A:Around) (outer:List Env) (s:Shared) (H:Hp) (E:XK) (f:Addr) (G:Gm),Room k (A.deeper (PyProof.Rows.envOfC x (ai st) s.heap.objs.size f cdv))->G.pr=prM mask->RSs (oj CX0 P w K mg base N x (ai st) f cdv A outer s H E).nox G noX (aU st) m) :
  aL P w K mg base x (k+1) ps (fnM mask nn m):=by
 refine D.callee hb fun f fd F=>F.ok S (fun vs H Q E h=>?_) fun cdv A outer s H vs Q E hr h=>?_
 ·obtain ⟨ps',p,fs,rfl,_,_,hF,_⟩:=h
  unfold fnM at hF
  rw [Ad] at hF ⊢
  split at hF
  ·rename_i e;rw [e,hml]
  ·exact nsE hF
 ·have hle:mask.length<=nn:=by
   rw [hml,<- hnn]
   have:=congrArg List.length S.pre
   rw [Aw] at this
   omega
  obtain ⟨G,hG,ht⟩:=qz hle h
  subst hnn
  exact ⟨_,(body cdv A outer s H E f G hr hG).h,ht⟩
theorem ao {X:Cx} {G0:Gm} {W0:D->Sto->Prop} {x:Str} {p pos:Pos} {e:Expr} {es:List Expr} {ms:M3 (List R3)} {k:Nat} {ps:List Str} {F:Fn} (c:aL X.prog X.w X.K X.mg X.base x k ps F) (hr:Room k X.A) (ha:RA X G0 W0 (e :: es) ms) (hg:Gl X x) (hdb:(x == ("__debug__":Str))=false)
  (he:starEach (e :: es) X.env=(false,eval e X.env) :: starEach es X.env) (hpl:(backTo pos (starEach es X.env)).any (·.1)=false):RE X G0 W0 (.Call (.Name x p) (e :: es) [] pos) (au F ms) :=
 ⟨PE.imp (pe_fn c hr ha.h hg hdb he hpl) fun _ _ _ h=>sN h⟩
end L3
end
section
namespace L3
open PySem L2
noncomputable def orD (f g:D->D->Option (D × Fl)) (a b:D):Option (D × Fl):=match f a b with
 | some p=>some p
 | none=>g a b
section
variable {K:FG} {H:Hp} {Ks:Addr->Prop} {d:D} {v:V} {L:List Addr} {X:Cx}
theorem dH (r:Rep K H d v []):New K H H Ks ⟨d,v,[],.z⟩:=⟨Same.refl _,r,fun _ h=>(by cases h),fun h=>absurd rfl h⟩
theorem nC (r:Rep K H d v L) (h:∀ c ∈ L,Ks c):New K H H Ks ⟨d,v,L,.z⟩:=⟨Same.refl _,r,fun c hc=>.inr (h c hc),fun h=>absurd rfl h⟩
theorem zm {p:Addr} {ds:List D} {vs:List V} (hp:H p=none) (r:Reps (Rep K H) ds vs L) (h:∀ c ∈ L,Ks c):New K H (upd H p (.lst vs)) Ks ⟨.lst ds,.ref p,p :: L,.u⟩:=by
 have np:p ∉ L:=fun hc=>by obtain ⟨o,ho⟩:=(r.inH p hc).ex;rw [hp] at ho;exact nsE ho
 refine ⟨bK hp,.lst bc (r.same (bK hp)),fun c hc=>?_,fun _=>⟨rfl,p,L,rfl,rfl,np,hp⟩⟩
 rcases z8.mp hc with e | hc
 ·rw [e];exact .inl hp
 ·exact .inr (h c hc)
theorem wB {p:Addr} {ds:List D} {vs:List V} (hp:H p=none) (r:Reps (Rep K H) ds vs L) (h:∀ c ∈ L,Ks c):New K H (upd H p (.tup vs)) Ks ⟨.tup ds,.ref p,L,.z⟩ :=
 ⟨bK hp,.tup bc (r.same (bK hp)),fun c hc=>.inr (h c hc),fun h=>absurd rfl h⟩
theorem jr {y:It3} {ys:List It3} (hy:y ∈ ys) (h:Arg K H y) (hm:iq y.d=false):∀ c ∈ y.L,dz ys c:=fun c hc=>⟨y,hy,hc,fun hf=>by
 have:=(h.own hf).1
 rw [hm] at this;cases this⟩
theorem pv {y:It3} {ys:List It3} {a:Addr} {L:List Addr} (hy:y ∈ ys) (h:Arg K H y) (hv:y.v=.ref a) (hL:y.L=a :: L):∀ c ∈ L,dz ys c:=fun c hc=>⟨y,hy,by rw [hL];exact zZ _ hc,fun hf e=>by
 obtain ⟨_,a',L',v1,v2,v3⟩:=h.own hf
 rw [hv] at v1;cases v1
 rw [hL] at v2;cases v2
 rw [hv] at e;cases e
 exact v3 hc⟩
theorem OpD.or {r r':R2} {f g:D->D->Option (D × Fl)} (h:OpD K r f) (h':OpD K r' g):OpD K (fun x y H Q=>r x y H Q\/r' x y H Q) (orD f g):=fun a b H Q p ra rb e q=>by
 unfold orD at e
 cases ef:f a.d b.d with
 | some p'=>rw [ef] at e;cases e;exact .inl (h a b H Q _ ra rb ef q)
 | none=>rw [ef] at e;exact .inr (h' a b H Q p ra rb e q)
noncomputable def eL (C:Int->Int->Bool) (g:Int->Int->D):D->D->Option (D × Fl)
 | .int i,.int j=>if C i j then some (g i j,.z) else none
 | _,_=>none
set_option tactic.hygienic true in
theorem iu {C:Int->Int->Prop} {Cb:Int->Int->Bool} {g:Int->Int->V} {gd:Int->Int->D} (hC:∀ i j,Cb i j=true->C i j) (hg:∀ i j H,Rep K H (gd i j) (g i j) []):OpD K (rI C g) (eL Cb gd):=fun a b H Q p ra rb e q=>by
 obtain ⟨da,va,La,fa⟩:=a
 obtain ⟨db,vb,Lb,fb⟩:=b
 obtain ⟨ra,oa⟩:=ra
 obtain ⟨rb,ob⟩:=rb
 dsimp only at ra rb
 cases da <;> try (exact nsE e)
 rename_i i
 obtain ⟨rfl,rfl⟩:=ra.view
 cases db <;> try (exact nsE e)
 rename_i j
 obtain ⟨rfl,rfl⟩:=rb.view
 have e:(if Cb i j then some (gd i j,Fl.z) else none)=some p:=e
 split at e
 ·rename_i hc
  cases e
  exact ⟨i,j,rfl,rfl,hC i j hc,q ⟨gd i j,g i j,[],.z⟩ H (dH (hg i j H)) rfl rfl⟩
 ·exact nsE e
theorem rI_of {g:Int->Int->V}:rI0 g=rI (fun _ _=>True) g:=by
 funext x y H Q
 unfold rI0 rI
 apply propext
 constructor
 ·rintro ⟨i,j,a,b,c⟩;exact ⟨i,j,a,b,trivial,c⟩
 ·rintro ⟨i,j,a,b,_,c⟩;exact ⟨i,j,a,b,c⟩
theorem eX {g:Int->Int->V} {gd:Int->Int->D} (hg:∀ i j H,Rep K H (gd i j) (g i j) []):OpD K (rI0 g) (eL (fun _ _=>true) gd):=by
 rw [rI_of]
 exact iu (fun _ _ _=>trivial) hg
noncomputable abbrev mI:Int->Int->Bool:=fun _ _=>true
noncomputable abbrev addI:=eL mI fun i j=>.int (i+j)
noncomputable abbrev fN:=eL mI fun i j=>.int (i - j)
noncomputable abbrev fq:=eL (fun i j=>decide ((-(2 ^ 64) < i/\i < 2 ^ 64)\/(-(2 ^ 64) < j/\j < 2 ^ 64))) fun i j=>.int (i * j)
noncomputable abbrev nE:=eL (fun _ j=>decide (0 < j)) fun i j=>.int (i % j)
noncomputable abbrev tQ:=eL (fun i j=>decide (0<=j/\j<=1000000/\i.natAbs < 2 ^ 64)) fun i j=>.int (i ^ j.toNat)
noncomputable abbrev ltI:=eL mI fun i j=>.bl (decide (i < j))
noncomputable abbrev leI:=eL mI fun i j=>.bl (decide (i<=j))
noncomputable abbrev gtI:=eL mI fun i j=>.bl (decide (j < i))
noncomputable abbrev geI:=eL mI fun i j=>.bl (decide (j<=i))
theorem od_addI:OpD K (rI0 fun i j=>.int (i+j)) addI:=eX fun i j _=>.int _
theorem bA:OpD K (rI0 fun i j=>.int (i - j)) fN:=eX fun i j _=>.int _
theorem bB:OpD K (rI CMul fun i j=>.int (i * j)) fq:=iu (fun i j h=>by simpa [CMul,sG,u5] using h) fun i j _=>.int _
theorem gv:OpD K (rI (fun _ j=>0 < j) fun i j=>.int (i % j)) nE:=iu (fun i j h=>by simpa [CMul,sG,u5] using h) fun i j _=>.int _
theorem qg:OpD K (rI u5 fun i j=>.int (i ^ j.toNat)) tQ:=iu (fun i j h=>by simpa [CMul,sG,u5] using h) fun i j _=>.int _
theorem nz:OpD K (rI0 fun i j=>.bl (decide (i < j))) ltI:=eX fun i j _=>.bl _
theorem qi:OpD K (rI0 fun i j=>.bl (decide (i<=j))) leI:=eX fun i j _=>.bl _
theorem xG:OpD K (rI0 fun i j=>.bl (decide (j < i))) gtI:=eX fun i j _=>.bl _
theorem od_ge:OpD K (rI0 fun i j=>.bl (decide (j<=i))) geI:=eX fun i j _=>.bl _
noncomputable def xi:D->D->Option (D × Fl)
 | .tup xs,.tup ys=>if xs.length+ys.length<=16777216 then some (.tup (xs ++ ys),.z) else none
 | _,_=>none
noncomputable def xk:D->D->Option (D × Fl)
 | .lst xs,.lst ys=>if xs.length+ys.length<=16777216 then some (.lst (xs ++ ys),.u) else none
 | _,_=>none
noncomputable def xj:D->D->Option (D × Fl)
 | .str xs,.str ys=>if xs.length+ys.length<=16777216 then some (.str (xs ++ ys),.z) else none
 | _,_=>none
theorem Reps.len {ds:List D} {vs:List V} (r:Reps (Rep K H) ds vs L):ds.length=vs.length:=by
 induction r with
 | nil=>rfl
 | cons _ _ ih=>simp [ih]
theorem Reps.append {ds ds':List D} {vs vs':List V} {L L':List Addr} (r:Reps (Rep K H) ds vs L) (r':Reps (Rep K H) ds' vs' L'):Reps (Rep K H) (ds ++ ds') (vs ++ vs') (L ++ L'):=by
 induction r with
 | nil=>exact r'
 | cons a _ ih=>rw [List.append_assoc];exact .cons a ih
theorem Reps.nil_iff {ds:List D} {vs:List V} (r:Reps (Rep K H) ds vs L):ds=[] ↔ vs=[]:=by cases r <;> simp
noncomputable def lZ (K:FG):R2:=fun x y H Q=>∃ a b ys,x=.ref a/\y=.ref b/\SqT K H a []/\SqT K H b ys/\Q (.ref b) H
theorem t4:OpR X (binaryOp .Add) (lZ X.K):=by
 intro pins s σ H x y v u Q I rx ry h
 obtain ⟨a,b,ys,rfl,rfl,ha,hb,q⟩:=h
 cases rx
 cases ry
 obtain ⟨its,r1,p1,_⟩:=I.tuple ha
 obtain ⟨its2,r2,p2,_⟩:=I.tuple hb
 have e:its=[]:=r1.nil_iff.mpr rfl
 subst e
 obtain ⟨⟨cls,dd,data,sl⟩,ho,hc,n,hd⟩:=id p1
 obtain ⟨⟨cls2,dd2,data2,sl2⟩,ho2,hc2,n2,hd2⟩:=id p2
 simp only at hc hd hc2 hd2
 subst hc hd hc2 hd2
 exact concat_meets ⟨_,ho,rfl⟩ ⟨_,ho2,rfl⟩ noFill_tuple_add seq_tuple_add PySem.F.slot_tuple_add PySem.F.entry_tuple_add (PySem.F.args_tuple_add_2 _ _)
   (PyProof.Rows.tuple_addW0 a b _ _ n n2 dd dd2 sl sl2 (by simp)) ⟨ho,ho2,⟨.ref b,H,I,rfl,q⟩⟩
set_option tactic.hygienic true in
theorem od_catT:OpD K (fun x y H Q=>p9 K x y H Q\/lZ K x y H Q) xi:=fun a b H Q p ra rb e q=>by
 obtain ⟨da,va,La,fa⟩:=a
 obtain ⟨db,vb,Lb,fb⟩:=b
 obtain ⟨ra,oa⟩:=ra
 obtain ⟨rb,ob⟩:=rb
 dsimp only at ra rb
 cases da <;> try (exact nsE e)
 rename_i xs
 obtain ⟨pa,vs,rfl,ha,rs⟩:=ra.view
 cases db <;> try (exact nsE e)
 rename_i ys
 obtain ⟨pb,ws,rfl,hb,rs'⟩:=rb.view
 have e:(if xs.length+ys.length<=16777216 then some (D.tup (xs ++ ys),Fl.z) else none)=some p:=e
 split at e
 ·rename_i hl
  cases e
  by_cases hx:vs=[]
  ·have hx0:=rs.nil_iff.mpr hx
   subst hx hx0
   refine .inr ⟨pa,pb,ws,rfl,rfl,SqT.of ha,SqT.of hb,?_⟩
   exact q ⟨.tup ys,.ref pb,Lb,.z⟩ H (nC (.tup hb rs') (jr (y:=⟨.tup ys,.ref pb,Lb,fb⟩) (zZ _ (Az.mpr rfl)) ⟨.tup hb rs',ob⟩ rfl)) rfl rfl
  ·refine .inl ⟨pa,pb,vs,ws,rfl,rfl,SqT.of ha,SqT.of hb,hx,by rw [<- rs.len,<- rs'.len,<- szl];exact hl,fun hw=>?_,fun hw p hp=>?_⟩
   ·have hy0:=rs'.nil_iff.mpr hw
    subst hy0
    refine q ⟨.tup (xs ++ []),.ref pa,La,.z⟩ H (nC (by rw [List.append_nil];exact .tup ha rs) (jr (y:=⟨.tup xs,.ref pa,La,fa⟩) zY ⟨.tup ha rs,oa⟩ rfl)) rfl rfl
   ·refine q ⟨.tup (xs ++ ys),.ref p,La ++ Lb,.z⟩ _ (wB hp (rs.append rs') fun c hc=>?_) rfl rfl
    rcases Ab.mp hc with h | h
    ·exact jr (y:=⟨.tup xs,.ref pa,La,fa⟩) zY ⟨.tup ha rs,oa⟩ rfl c h
    ·exact jr (y:=⟨.tup ys,.ref pb,Lb,fb⟩) (zZ _ (Az.mpr rfl)) ⟨.tup hb rs',ob⟩ rfl c h
 ·exact nsE e
set_option tactic.hygienic true in
theorem wA:OpD K vS xk:=fun a b H Q p ra rb e q=>by
 obtain ⟨da,va,La,fa⟩:=a
 obtain ⟨db,vb,Lb,fb⟩:=b
 obtain ⟨ra,oa⟩:=ra
 obtain ⟨rb,ob⟩:=rb
 dsimp only at ra rb
 cases da <;> try (exact nsE e)
 rename_i xs
 obtain ⟨pa,vs,La,rfl,rfl,ha,rs⟩:=ra.view
 cases db <;> try (exact nsE e)
 rename_i ys
 obtain ⟨pb,ws,Lb,rfl,rfl,hb,rs'⟩:=rb.view
 have e:(if xs.length+ys.length<=16777216 then some (D.lst (xs ++ ys),Fl.u) else none)=some p:=e
 split at e
 ·rename_i hl
  cases e
  refine ⟨pa,pb,vs,ws,rfl,rfl,ha,hb,by rw [<- rs.len,<- rs'.len,<- szl];exact hl,fun p hp=>?_⟩
  refine q ⟨.lst (xs ++ ys),.ref p,p :: (La ++ Lb),.u⟩ _ (zm hp (rs.append rs') fun c hc=>?_) rfl rfl
  rcases Ab.mp hc with h | h
  ·exact pv (y:=⟨.lst xs,.ref pa,pa :: La,fa⟩) zY ⟨.lst ha rs,oa⟩ rfl rfl c h
  ·exact pv (y:=⟨.lst ys,.ref pb,pb :: Lb,fb⟩) (zZ _ (Az.mpr rfl)) ⟨.lst hb rs',ob⟩ rfl rfl c h
 ·exact nsE e
set_option tactic.hygienic true in
theorem od_catS:OpD K (fun x y H Q=>∃ i j,x=.str i/\y=.str j/\i.length+j.length<=sizeLine/\Q (.str (i ++ j)) H) xj:=fun a b H Q p ra rb e q=>by
 obtain ⟨da,va,La,fa⟩:=a
 obtain ⟨db,vb,Lb,fb⟩:=b
 obtain ⟨ra,oa⟩:=ra
 obtain ⟨rb,ob⟩:=rb
 dsimp only at ra rb
 cases da <;> try (exact nsE e)
 rename_i i
 obtain ⟨rfl,rfl⟩:=ra.view
 cases db <;> try (exact nsE e)
 rename_i j
 obtain ⟨rfl,rfl⟩:=rb.view
 have e:(if i.length+j.length<=16777216 then some (D.str (i ++ j),Fl.z) else none)=some p:=e
 split at e
 ·rename_i hl
  cases e
  exact ⟨i,j,rfl,rfl,by rw [<- szl];exact hl,q ⟨.str (i ++ j),.str (i ++ j),[],.z⟩ H (dH (.str _)) rfl rfl⟩
 ·exact nsE e
noncomputable abbrev bF:=orD addI (orD xj (orD xi xk))
theorem aT:OpD K (fun x y H Q=>rI0 (fun i j=>.int (i+j)) x y H Q\/((∃ i j,x=.str i/\y=.str j/\i.length+j.length<=sizeLine/\Q (.str (i ++ j)) H)\/((p9 K x y H Q\/lZ K x y H Q)\/vS x y H Q))) bF:=od_addI.or (od_catS.or (od_catT.or wA))
theorem aI:OpR X (binaryOp .Add) (fun x y H Q=>rI0 (fun i j=>.int (i+j)) x y H Q\/((∃ i j,x=.str i/\y=.str j/\i.length+j.length<=sizeLine/\Q (.str (i ++ j)) H)\/((p9 X.K x y H Q\/lZ X.K x y H Q)\/vS x y H Q))):=op_add.or (op_add_str.or ((op_catT.or t4).or zd))
noncomputable def eqS:D->D->Option Bool
 | .non,.non=>some true | .non,.int _=>some false | .int _,.non=>some false | .non,.bl _=>some false | .bl _,.non=>some false | .non,.str _=>some false | .str _,.non=>some false
 | .int i,.int j=>some (decide (i=j)) | .bl i,.bl j=>some (decide (i=j)) | .str i,.str j=>some (decide (i=j))
 | .int _,.str _=>some false | .str _,.int _=>some false | .bl _,.str _=>some false | .str _,.bl _=>some false
 | _,_=>none
theorem uG {a b:D} {u v:V} {L L':List Addr} {k:Bool} (ra:Rep K H a u L) (rb:Rep K H b v L') (e:eqS a b=some k):yw u v=true/\k=decide (u=v):=by
 cases a <;> cases b <;> first | exact nsE e | (obtain ⟨rfl,rfl⟩:=ra.view;obtain ⟨rfl,rfl⟩:=rb.view;cases e;exact ⟨rfl,by simp⟩)
noncomputable def qu:D->Bool
 | .non=>true
 | _=>false
noncomputable def isN:D->D->Option (D × Fl)
 | a,.non=>some (.bl (qu a),.z)
 | _,_=>none
noncomputable def zi:D->D->Option (D × Fl)
 | a,.non=>some (.bl (!qu a),.z)
 | _,_=>none
theorem Rep.non_iff {a:D} {u:V} (ra:Rep K H a u L):qu a=decide (u=.non):=by cases ra <;> simp [qu]
theorem zh:OpD K (fun x y H Q=>y=.non/\Q (.bl (decide (x=.non))) H) isN:=fun a b H Q p ra rb e q=>by
 obtain ⟨db,vb,Lb,fb⟩:=b
 obtain ⟨rb,ob⟩:=rb
 dsimp only at rb
 cases db <;> try (exact nsE e)
 obtain ⟨rfl,rfl⟩:=rb.view
 unfold isN at e
 cases e
 refine ⟨rfl,?_⟩
 rw [<- ra.rep.non_iff]
 exact q ⟨_,_,[],.z⟩ H (dH (.bl _)) rfl rfl
theorem wx:OpD K (fun x y H Q=>y=.non/\Q (.bl (!decide (x=.non))) H) zi:=fun a b H Q p ra rb e q=>by
 obtain ⟨db,vb,Lb,fb⟩:=b
 obtain ⟨rb,ob⟩:=rb
 dsimp only at rb
 cases db <;> try (exact nsE e)
 obtain ⟨rfl,rfl⟩:=rb.view
 unfold zi at e
 cases e
 refine ⟨rfl,?_⟩
 rw [<- ra.rep.non_iff]
 exact q ⟨_,_,[],.z⟩ H (dH (.bl _)) rfl rfl
noncomputable def rA:D->Option (D × Fl)
 | .int i=>some (.int (-i),.z)
 | _=>none
theorem jK:UnD K (rU fun i=>.int (-i)) rA:=fun a H Q p ra e q=>by
 obtain ⟨da,va,La,fa⟩:=a
 obtain ⟨ra,oa⟩:=ra
 dsimp only at ra
 cases da <;> try (exact nsE e)
 obtain ⟨rfl,rfl⟩:=ra.view
 cases e
 exact ⟨_,rfl,q ⟨_,_,[],.z⟩ H (dH (.int _)) rfl rfl⟩
theorem Reps.at:∀ {ds:List D} {vs:List V} {L:List Addr} {i:Nat} {d:D},Reps (Rep K H) ds vs L->ds[i]?=some d->∃ v L',vs[i]?=some v/\Rep K H d v L'/\∀ c ∈ L',c ∈ L
 | _,_,_,_,_,.nil,h=>by simp at h
 | _,_,_,0,_,.cons r _,h=>by simp at h;subst h;exact ⟨_,_,rfl,r,fun c hc=>z6 _ hc⟩
 | _,_,_,i+1,_,.cons _ t,h=>by
  obtain ⟨v,L',h1,h2,h3⟩:=Reps.at (i:=i) t (by simpa using h)
  exact ⟨v,L',by simpa using h1,h2,fun c hc=>z7 _ (h3 c hc)⟩
theorem Reps.atI {ds:List D} {vs:List V} {i:Int} {d:D} (r:Reps (Rep K H) ds vs L) (h:atI ds i=some d):∃ v L',atI vs i=some v/\Rep K H d v L'/\∀ c ∈ L',c ∈ L:=by
 unfold L2.atI at h ⊢
 rw [<- r.len]
 cases e:ixN ds.length i with
 | none=>rw [e] at h;exact nsE h
 | some j=>rw [e] at h;exact r.at h
noncomputable def ixD:D->D->Option (D × Fl)
 | .lst xs,.int i=>(atI xs i).map fun d=>(d,.z)
 | .fls xs,.int i=>(atI xs i).map fun d=>(d,.z)
 | .tup xs,.int i=>(atI xs i).map fun d=>(d,.z)
 | _,_=>none
set_option tactic.hygienic true in
theorem od_ix:OpD K (fun x y H Q=>tJ K x y H Q\/tH K x y H Q) ixD:=fun a b H Q p ra rb e q=>by
 obtain ⟨da,va,La,fa⟩:=a
 obtain ⟨db,vb,Lb,fb⟩:=b
 obtain ⟨rb,ob⟩:=rb
 have ra0:=ra
 obtain ⟨ra,oa⟩:=ra
 dsimp only at ra rb
 cases da <;> try (exact nsE e)
 all_goals (cases db <;> try (exact nsE e))
 all_goals (rename_i xs i;obtain ⟨rfl,rfl⟩:=rb.view)
 ·obtain ⟨pa,vs,rfl,ha,rs⟩:=ra.view
  obtain ⟨d,h1,h2⟩:=z5.mp (show (atI xs i).map (fun d=>(d,Fl.z))=some p from e)
  subst h2
  obtain ⟨v,L',g1,g2,g3⟩:=rs.atI h1
  refine .inr ⟨pa,vs,i,v,rfl,rfl,SqT.of ha,g1,q ⟨d,v,L',.z⟩ H (nC g2 fun c hc=>?_) rfl rfl⟩
  exact jr (y:=⟨.tup xs,.ref pa,La,fa⟩) zY ra0 rfl c (g3 c hc)
 ·obtain ⟨pa,vs,La,rfl,rfl,ha,rs⟩:=ra.view
  obtain ⟨d,h1,h2⟩:=z5.mp (show (atI xs i).map (fun d=>(d,Fl.z))=some p from e)
  subst h2
  obtain ⟨v,L',g1,g2,g3⟩:=rs.atI h1
  refine .inl ⟨pa,vs,i,v,rfl,rfl,SqL.of ha,g1,q ⟨d,v,L',.z⟩ H (nC g2 fun c hc=>?_) rfl rfl⟩
  exact pv (y:=⟨.lst xs,.ref pa,pa :: La,fa⟩) zY ra0 rfl rfl c (g3 c hc)
 ·obtain ⟨pa,vs,rfl,ha,rs⟩:=ra.view
  obtain ⟨d,h1,h2⟩:=z5.mp (show (atI xs i).map (fun d=>(d,Fl.z))=some p from e)
  subst h2
  obtain ⟨v,L',g1,g2,g3⟩:=rs.atI h1
  refine .inl ⟨pa,vs,i,v,rfl,rfl,ha.sq,g1,q ⟨d,v,L',.z⟩ H (nC g2 fun c hc=>?_) rfl rfl⟩
  exact jr (y:=⟨.fls xs,.ref pa,La,fa⟩) zY ra0 rfl c (g3 c hc)
theorem ix_ok:IxR X (fun x y H Q=>tJ X.K x y H Q\/tH X.K x y H Q):=ix_list.or zz
end
end L3
end
section
namespace L3
open PySem L2
section
variable {K:FG} {H:Hp} {Ks:Addr->Prop} {d:D} {v:V} {L:List Addr} {X:Cx}
noncomputable def c1 (f:D->Option (D × Fl)):List D->Option (D × Fl)
 | [d]=>f d
 | _=>none
noncomputable def c2 (f:D->D->Option (D × Fl)):List D->Option (D × Fl)
 | [d,d']=>f d d'
 | _=>none
theorem i5 {ys:List It3} {f:D->Option (D × Fl)} {p:D × Fl} (e:c1 f (ys.map (·.d))=some p):∃ y,ys=[y]/\f y.d=some p:=by
 match ys,e with
 | [],e=>exact nsE e
 | [y],e=>exact ⟨y,rfl,e⟩
 | _ :: _ :: _,e=>exact nsE e
theorem pJ {ys:List It3} {f:D->D->Option (D × Fl)} {p:D × Fl} (e:c2 f (ys.map (·.d))=some p):∃ y z,ys=[y,z]/\f y.d z.d=some p:=by
 match ys,e with
 | [],e=>exact nsE e
 | [_],e=>exact nsE e
 | [y,z],e=>exact ⟨y,z,rfl,e⟩
 | _ :: _ :: _ :: _,e=>exact nsE e
noncomputable def rO:D->Option (D × Fl)
 | .lst xs=>some (.int xs.length,.z)
 | .fls xs=>some (.int xs.length,.z)
 | .tup xs=>some (.int xs.length,.z)
 | _=>none
noncomputable abbrev d5:=c1 rO
set_option tactic.hygienic true in
theorem cn:ff K (fun xs H Q=>∃ p ys,xs=[.ref p]/\(SqL K H p ys\/SqT K H p ys)/\Q (.int ys.length) H) d5:=fun ys H Q p ra e q=>by
 obtain ⟨y,rfl,e2⟩:=i5 e
 clear e
 have e:=e2
 clear e2
 have rr:=(ra y zY).rep
 obtain ⟨da,va,La,fa⟩:=y
 dsimp only at rr e
 cases da <;> try (exact nsE e)
 ·rename_i xs
  obtain ⟨pa,vs,rfl,ha,rs⟩:=rr.view
  cases e
  exact ⟨pa,vs,rfl,.inr (SqT.of ha),by rw [<- rs.len];exact q ⟨_,_,[],.z⟩ H (dH (.int _)) rfl rfl⟩
 ·rename_i xs
  obtain ⟨pa,vs,La,rfl,rfl,ha,rs⟩:=rr.view
  cases e
  exact ⟨pa,vs,rfl,.inl (SqL.of ha),by rw [<- rs.len];exact q ⟨_,_,[],.z⟩ H (dH (.int _)) rfl rfl⟩
 ·rename_i xs
  obtain ⟨pa,vs,rfl,ha,rs⟩:=rr.view
  cases e
  exact ⟨pa,vs,rfl,.inl ha.sq,by rw [<- rs.len];exact q ⟨_,_,[],.z⟩ H (dH (.int _)) rfl rfl⟩
noncomputable def tupQ:D->Option (D × Fl)
 | .lst xs=>some (.tup xs,.z)
 | .tup xs=>some (.tup xs,.z)
 | _=>none
noncomputable abbrev u9:=c1 tupQ
set_option tactic.hygienic true in
theorem uO:ff K (fun xs H Q=>∃ p ys,xs=[.ref p]/\((SqL K H p ys/\∀ l,H l=none->Q (.ref l) (upd H l (.tup ys)))\/(SqT K H p ys/\Q (.ref p) H))) u9:=fun ys H Q p ra e q=>by
 obtain ⟨y,rfl,e2⟩:=i5 e
 clear e
 have e:=e2
 clear e2
 have ry:=ra y zY
 have rr:=ry.rep
 obtain ⟨da,va,La,fa⟩:=y
 dsimp only at rr e
 cases da <;> try (exact nsE e)
 ·rename_i xs
  obtain ⟨pa,vs,rfl,ha,rs⟩:=rr.view
  cases e
  exact ⟨pa,vs,rfl,.inr ⟨SqT.of ha,q ⟨.tup xs,.ref pa,La,.z⟩ H (nC (.tup ha rs) (jr (y:=⟨.tup xs,.ref pa,La,fa⟩) zY ry rfl)) rfl rfl⟩⟩
 ·rename_i xs
  obtain ⟨pa,vs,La,rfl,rfl,ha,rs⟩:=rr.view
  cases e
  exact ⟨pa,vs,rfl,.inl ⟨SqL.of ha,fun l hl=>q ⟨.tup xs,.ref l,La,.z⟩ _ (wB hl rs (pv (y:=⟨.lst xs,.ref pa,pa :: La,fa⟩) zY ry rfl rfl)) rfl rfl⟩⟩
noncomputable def absQ:D->Option (D × Fl)
 | .int i=>some (.int (if i < 0 then -i else i),.z)
 | _=>none
theorem Rep.int_inv {i:Int} (r:Rep K H (.int i) v L):v=.int i:=by cases r;rfl
noncomputable def nY (C:Int->Int->Bool) (g:Int->Int->D):D->D->Option (D × Fl)
 | .int i,.int j=>if C i j then some (g i j,.z) else none
 | _,_=>none
set_option tactic.hygienic true in
theorem iT {a b:D} {C:Int->Int->Bool} {g:Int->Int->D} {p:D × Fl} (e:nY C g a b=some p):∃ i j,a=.int i/\b=.int j/\C i j=true/\p=(g i j,.z):=by
 cases a <;> cases b <;> try (exact nsE e)
 rename_i i j
 have e:(if C i j then some (g i j,Fl.z) else none)=some p:=e
 split at e
 ·rename_i h;cases e;exact ⟨i,j,rfl,rfl,h,rfl⟩
 ·exact nsE e
noncomputable abbrev kg:=c2 (nY mI fun i j=>.int (if j > i then j else i))
noncomputable abbrev ly:=c2 (nY mI fun i j=>.int (if j < i then j else i))
noncomputable abbrev uI:=c2 (nY (fun _ j=>decide (0 < j/\j < 1073741824)) fun i j=>.tup [.int (i / j),.int (i % j)])
theorem iA:ff K (fun xs H Q=>∃ i j,xs=[.int i,.int j]/\Q (.int (if j > i then j else i)) H) kg:=fun ys H Q p ra e q=>by
 obtain ⟨y,z,rfl,e2⟩:=pJ e
 clear e
 have e:=e2
 clear e2
 obtain ⟨i,j,ei,ej,_,rfl⟩:=iT e
 have r1:=(ra y zY).rep
 have r2:=(ra z (zZ _ zY)).rep
 rw [ei] at r1
 rw [ej] at r2
 refine ⟨i,j,?_,q ⟨_,_,[],.z⟩ H (dH (.int _)) rfl rfl⟩
 show [y.v,z.v]=_
 rw [r1.int_inv,r2.int_inv]
theorem iz:ff K (fun xs H Q=>∃ i j,xs=[.int i,.int j]/\Q (.int (if j < i then j else i)) H) ly:=fun ys H Q p ra e q=>by
 obtain ⟨y,z,rfl,e2⟩:=pJ e
 clear e
 have e:=e2
 clear e2
 obtain ⟨i,j,ei,ej,_,rfl⟩:=iT e
 have r1:=(ra y zY).rep
 have r2:=(ra z (zZ _ zY)).rep
 rw [ei] at r1
 rw [ej] at r2
 refine ⟨i,j,?_,q ⟨_,_,[],.z⟩ H (dH (.int _)) rfl rfl⟩
 show [y.v,z.v]=_
 rw [r1.int_inv,r2.int_inv]
theorem se:ff K (fun xs H Q=>∃ i j,xs=[.int i,.int j]/\sG i j/\∀ p,H p=none->Q (.ref p) (upd H p (.tup [.int (i / j),.int (i % j)]))) uI:=fun ys H Q p ra e q=>by
 obtain ⟨y,z,rfl,e2⟩:=pJ e
 clear e
 have e:=e2
 clear e2
 obtain ⟨i,j,ei,ej,hc,rfl⟩:=iT e
 have r1:=(ra y zY).rep
 have r2:=(ra z (zZ _ zY)).rep
 rw [ei] at r1
 rw [ej] at r2
 refine ⟨i,j,?_,by simpa [sG] using hc,fun p hp=>q ⟨_,.ref p,[],.z⟩ _ (wB hp (L:=[]) (.cons (L:=[]) (.int _) (.cons (L:=[]) (.int _) .nil)) fun c hc=>by cases hc) rfl rfl⟩
 show [y.v,z.v]=_
 rw [r1.int_inv,r2.int_inv]
noncomputable def iC:List D->Option (List Bool)
 | []=>some []
 | .bl b :: ds=>(iC ds).map (b :: ·)
 | _=>none
set_option tactic.hygienic true in
theorem oG:∀ {ds:List D} {bs:List Bool},iC ds=some bs->ds=bs.map D.bl
 | [],bs,e=>by cases e;rfl
 | d :: ds,bs,e=>by
  cases d <;> try (exact nsE e)
  rename_i b
  obtain ⟨r,h1,h2⟩:=z5.mp (show (iC ds).map (b :: ·)=some bs from e)
  subst h2
  rw [oG h1];rfl
theorem Reps.bls:∀ {bs:List Bool} {vs:List V} {L:List Addr},Reps (Rep K H) (bs.map D.bl) vs L->vs=bs.map V.bl
 | [],_,_,.nil=>rfl
 | b :: bs,_,_,.cons r rs=>by
  rw [Reps.bls rs]
  cases r;rfl
noncomputable def zS:D->Option (D × Fl)
 | .lst xs=>(iC xs).map fun bs=>(.bl (bs.all id),.z)
 | _=>none
noncomputable abbrev zT:=c1 zS
set_option tactic.hygienic true in
theorem uP:ff K (fun xs H Q=>∃ (a:Addr) (bs:List Bool),xs=[.ref a]/\SqL K H a (bs.map V.bl)/\Q (.bl (bs.all id)) H) zT:=fun ys H Q p ra e q=>by
 obtain ⟨y,rfl,e2⟩:=i5 e
 clear e
 have e:=e2
 clear e2
 have rr:=(ra y zY).rep
 obtain ⟨da,va,La,fa⟩:=y
 dsimp only at rr e
 cases da <;> try (exact nsE e)
 rename_i xs
 obtain ⟨pa,vs,La,rfl,rfl,ha,rs⟩:=rr.view
 obtain ⟨bs,h1,h2⟩:=z5.mp (show (iC xs).map (fun bs=>(D.bl (bs.all id),Fl.z))=some p from e)
 subst h2
 have:=oG h1
 subst this
 have:=rs.bls
 subst this
 exact ⟨pa,bs,rfl,SqL.of ha,q ⟨_,_,[],.z⟩ H (dH (.bl _)) rfl rfl⟩
noncomputable def mw (xs:List D) (lo hi:Option Int):List D:=(xs.drop (HT.sIx xs.length 0 lo)).take (HT.sIx xs.length xs.length hi - HT.sIx xs.length 0 lo)
end
end L3
end
section
namespace L3
open PySem L2
noncomputable def xz:D->Option (List D)
 | .lst xs=>some xs
 | .fls xs=>some xs
 | .tup xs=>some xs
 | _=>none
noncomputable def ge (m:EM):IM:=ae m fun r=>ae (der r) fun d=>bh ((xz d).map fun ds=>([r],ds))
noncomputable def iSeq (K:FG) (tl:TE):TI:=fun σ H R=>tl σ H fun x H1=>(∃ a,x=.ref a/\(∃ xs,SqL K H1 a xs)/\R (Itl K a) H1)\/∃ a,x=.ref a/\(∃ xs,SqT K H1 a xs)/\R (Itt K a) H1
theorem yS {X:Cx} {tg l:Expr} {tl:TE} (hl:PE X l tl):PI X tg l (iSeq X.K tl):=by
 intro pins s σ H R I h
 exact thn (hl pins s σ H _ I h) fun v s1 ⟨x,H1,I1,r1,q1⟩=>by
   rcases q1 with ⟨a,e,⟨xs,hq⟩,q⟩ | ⟨a,e,⟨xs,hq⟩,q⟩
   ·subst e
    cases r1
    obtain ⟨its,rv,p,hz⟩:=I1.list hq
    refine wpAny_pyIter_list p.isList ?_
    refine ⟨s1.heap.objs.size,[s1.heap.objs.size],_,_,H1,rfl,I1.kept (t':=s1.toks) fun b o e=>z4 _ e,qR a _,⟨_,Ac _ rfl,rfl,rfl⟩,fun b hb=>?_,q⟩
    have e:b=s1.heap.objs.size:=by simpa using hb
    subst e
    exact I1.fpOk (Aj _) (I1.hok.fresh (Aj _))
   ·subst e
    cases r1
    obtain ⟨its,rv,p,hz⟩:=I1.tuple hq
    refine wpAny_pyIter_tuple (show s1.heap.IsTuple a its.toArray from p) ?_
    refine ⟨s1.heap.objs.size,[s1.heap.objs.size],_,_,H1,rfl,I1.kept (t':=s1.toks) fun b o e=>z4 _ e,oM a _,⟨_,Ac _ rfl,rfl,rfl⟩,fun b hb=>?_,q⟩
    have e:b=s1.heap.objs.size:=by simpa using hb
    subst e
    exact I1.fpOk (Aj _) (I1.hok.fresh (Aj _))
section
variable {K:FG} {G G0:Gm} {W W0:D->Sto->Prop} {H H':Hp} {σ:St} {ρ ρ':Sto} {T T':List It3} {g:Nat->Option It3} {x y z:It3} {α β:Type} {X:Cx}
theorem Ar.item2 {r:R3} {v:V} {Ts:List It3} {d:D} (w:Wf K G H σ ρ (Ts ++ T) g) (a:Ar σ r v Ts) (e:der r ρ=some (.ok d,ρ)):∃ y,y.d=d/\y.v=v/\((∃ i,i ∈ pls [r]/\g i=some y)\/y ∈ Ts):=by
 cases a with
 | @pl i v h =>
  have er:der (.pl i) ρ=((ρ[i]?).join).map fun p=>(.ok p.1,ρ):=rfl
  rw [er] at e
  cases q:(ρ[i]?).join with
  | none=>rw [q] at e;exact nsE e
  | some p =>
   rw [q] at e
   obtain ⟨y,e1,e2,e3,e4⟩:=w.slot (d:=p.1) (f:=p.2) q
   have e5:p.1=d:=by cases e;rfl
   rw [h] at e4
   injection e4 with e4
   injection e4 with e4
   exact ⟨y,e2.trans e5,e4.symm,.inl ⟨i,zY,e1⟩⟩
 | val x=>cases e;exact ⟨x,rfl,rfl,.inr (by simp)⟩
theorem lO {J:It} {H1:Hp} {y:It3} {ds:List D} {vs:List V} {L0:List Addr} (hr:Reps (Rep K H1) ds vs L0) (hk:∀ c ∈ L0,dz [y] c) (hL:∀ c ∈ L0,c ∈ y.L)
  (hgo:∀ (M:Addr->Prop) (H':Hp),(∀ b,M b->MutAt H1 b)->(∀ b o,H1 b=some o->¬ M b->H' b=some o)->(∀ b ∈ y.L,¬ M b)->(∀ (i:Nat) (v:V),vs[i]?=some v->J.go i H'/\∀ x H'',J.yld i H' x H''->H''=H'/\x=v)/\J.stop vs.length H'):Walk K J H1 [y] ds:=by
 obtain ⟨ws,h1,h2,h3⟩:=Reps.split hr
 refine ⟨ws,fun x hx=>⟨(h3 x hx).1,(h3 x hx).2.1,fun c hc=>hk c ((h3 x hx).2.2 c hc)⟩,fun M H' hm hkp hM=>?_⟩
 obtain ⟨go,stop⟩:=hgo M H' hm hkp (hM y zY)
 refine ⟨fun i d hd=>?_,by rw [hr.len];exact stop⟩
 have hi:∃ u,ws[i]?=some u/\u.d=d:=by
  rw [<- h1,Ai] at hd
  obtain ⟨u,a,b⟩:=z5.mp hd
  exact ⟨u,a,b⟩
 obtain ⟨u,eu,ud⟩:=hi
 have hv:vs[i]?=some u.v:=by rw [<- h2,Ai,eu];rfl
 obtain ⟨g1,g2⟩:=go i u.v hv
 refine ⟨g1,fun x H'' hy=>?_⟩
 obtain ⟨e1,e2⟩:=g2 x H'' hy
 subst e1 e2
 have hu:=Af eu
 refine ⟨u,⟨Same.refl _,(h3 u hu).2.1.keep hkp hm fun b hb=>hM y zY b (hL b ((h3 u hu).2.2 b hb)),fun c hc=>.inr ⟨u,hu,hc⟩,fun hf=>absurd (h3 u hu).1 hf⟩,ud,(h3 u hu).1,rfl⟩
theorem lc {y:It3} {a:Addr} {ds:List D} {vs:List V} (hq:∀ H',SqL K H' a vs->True) (hs:∀ (M:Addr->Prop) (H':Hp),(∀ b,M b->MutAt H b)->(∀ b o,H b=some o->¬ M b->H' b=some o)->(∀ b ∈ y.L,¬ M b)->SqL K H' a vs) :
  ∀ (M:Addr->Prop) (H':Hp),(∀ b,M b->MutAt H b)->(∀ b o,H b=some o->¬ M b->H' b=some o)->(∀ b ∈ y.L,¬ M b)->(∀ (i:Nat) (v:V),vs[i]?=some v->(Itl K a).go i H'/\∀ x H'',(Itl K a).yld i H' x H''->H''=H'/\x=v)/\(Itl K a).stop vs.length H':=fun M H' hm hk hM=>by
 have sq:SqL K H' a vs:=hs M H' hm hk hM
 refine ⟨fun i v hv=>⟨⟨vs,v,sq,hv⟩,fun x H'' ⟨e1,e2⟩=>⟨e1,?_⟩⟩,⟨vs,sq,Aj _⟩⟩
 have:=e2 vs sq
 rw [hv] at this
 injection this with this
 exact this.symm
theorem yj {m:EM} {R:It->Hp->Prop} (h:tI K G0 W0 (ge m) σ H R):iSeq K (tE K G0 W0 m) σ H R:=by
 obtain ⟨G,W,le,ρ,T,g,o,ρ',w,e,q⟩:=h
 have herr:∀ x,o=.error x->W x ρ':=fun x hx=>by subst hx;exact q
 refine tE.seq le w e herr fun ra ρ1 e1 v H1 ⟨Ts,g1,w1,a1⟩=>?_
 obtain ⟨d,d1,e2⟩:=aW e1
 obtain ⟨p,e3,rfl,rfl⟩:=bS e2
 obtain ⟨ds,e4,e5⟩:=z5.mp e3
 subst e5
 obtain ⟨y,y1,y2,y3⟩:=a1.item2 w1 d1
 have hy:Itm (Ts ++ T) g1 y:=by
  rcases y3 with ⟨i,_,ei⟩ | h
  ·exact .inl ⟨i,ei⟩
  ·exact .inr (z6 _ h)
 have ar:=(w1.itm hy).arg
 have qq:∀ J,Walk K J H1 [y] ds->R J H1:=fun J hw=>q J H1 [v] Ts g1 [y] w1 (by simpa using Ars.cons a1 .nil) (fun z hz=>by rw [Az.mp hz];exact y3) hw
 clear e1 e2 e3 q
 subst y1 y2
 have ar0:=ar
 obtain ⟨da,va,La,fa⟩:=y
 obtain ⟨rr,oo⟩:=ar
 dsimp only at rr e4
 cases da with
 | tup xs =>
  obtain ⟨pa,vs,rfl,ha,rs⟩:=rr.view
  cases e4
  refine .inr ⟨pa,rfl,⟨_,SqT.of ha⟩,qq _ (lO rs (jr (y:=⟨.tup ds,.ref pa,La,fa⟩) zY ar0 rfl) (fun c hc=>hc) fun M H' hm hk hM=>?_)⟩
  have sq:SqT K H' pa vs:=SqT.of (hk pa _ ha fun z=>(hm pa z).notup ha)
  refine ⟨fun i v hv=>⟨⟨vs,v,sq,hv⟩,fun x H'' ⟨e1,e2⟩=>⟨e1,?_⟩⟩,⟨vs,sq,Aj _⟩⟩
  have:=e2 vs sq
  rw [hv] at this
  injection this with this
  exact this.symm
 | lst xs =>
  obtain ⟨pa,vs,La,rfl,rfl,ha,rs⟩:=rr.view
  cases e4
  refine .inl ⟨pa,rfl,⟨_,SqL.of ha⟩,qq _ (lO rs (pv (y:=⟨.lst ds,.ref pa,pa :: La,fa⟩) zY ar0 rfl rfl) (fun c hc=>zZ _ hc) (lc (ds:=ds) (fun _ _=>trivial) fun M H' hm hk hM=>SqL.of (hk pa _ ha (hM pa zY))))⟩
 | fls xs =>
  obtain ⟨pa,vs,rfl,ha,rs⟩:=rr.view
  cases e4
  refine .inl ⟨pa,rfl,⟨_,ha.sq⟩,qq _ (lO rs (jr (y:=⟨.fls ds,.ref pa,La,fa⟩) zY ar0 rfl) (fun c hc=>hc) (lc (ds:=ds) (fun _ _=>trivial) fun M H' hm hk hM=>(ha.keep hk hm).sq))⟩
 | _=>exact nsE e4
theorem iI {tg l:Expr} {m:EM} (h:RE X G0 W0 l m):RI X G0 W0 tg l (ge m):=⟨PI.imp (yS h.h) fun _ _ _ h=>yj h⟩
noncomputable def aO (lo:Int) (n:Nat):List D:=(List.range n).map fun (k:Nat)=>D.int (lo+(k:Int))
theorem mJ {H1:Hp} {ys:List It3} {lo:Int} {n:Nat}:Walk K (Itr lo n) H1 ys (aO lo n):=by
 refine ⟨[],fun x hx=>(by cases hx),fun M H' _ _ _=>⟨fun i d hd=>?_,?_⟩⟩
 ·unfold aO at hd
  rw [Ai] at hd
  obtain ⟨k,a,b⟩:=z5.mp hd
  obtain ⟨hk,e⟩:=Ae.mp a
  rw [List.getElem_range] at e
  subst e
  rw [List.length_range] at hk
  refine ⟨hk,fun x H'' ⟨e1,e2⟩=>?_⟩
  subst e1
  exact ⟨⟨d,x,[],.z⟩,dH (by rw [<- b,e2];exact .int _),rfl,rfl,rfl⟩
 ·show n<=(aO lo n).length
  unfold aO
  simp
noncomputable def cD (j:Int):Bool:=decide (-(2 ^ 62)<=j/\j < 2 ^ 62)
noncomputable def b6:List D->Option (List D)
 | [.int j]=>if cD j then some (aO 0 j.toNat) else none
 | _=>none
noncomputable def eJ:List D->Option (List D)
 | [.int i,.int j]=>if cD i && cD j then some (aO i (j - i).toNat) else none
 | _=>none
noncomputable def aR (f:List D->Option (List D)) (ms:M3 (List R3)):IM:=ae ms fun rs=>ae (fD rs) fun ds=>bh ((f ds).map fun xs=>([],xs))
set_option tactic.hygienic true in
theorem vm {ms:M3 (List R3)} {R:It->Hp->Prop} (h:tI K G0 W0 (aR b6 ms) σ H R):xK (tA K G0 W0 ms) σ H R:=by
 obtain ⟨G,W,le,ρ,T,g,o,ρ',w,e,q⟩:=h
 have herr:∀ x,o=.error x->W x ρ':=fun x hx=>by subst hx;exact q
 refine tA.seq le w e herr fun rs ρ1 e1 vs H1 Ts g1 w1 a1=>?_
 obtain ⟨ds,d1,e2⟩:=c7 e1
 obtain ⟨p,e3,rfl,rfl⟩:=bS e2
 obtain ⟨xs,e4,e5⟩:=z5.mp e3
 subst e5
 obtain ⟨ys,i1,f1,f2⟩:=a1.items w1 (fun x hx=>z6 _ hx) d1
 subst f1 f2
 match ys,e4,i1,a1 with
 | [],e4,_,_=>exact nsE e4
 | y :: z :: r,e4,_,_=>cases hd:y.d <;> (rw [An,An,hd] at e4;exact nsE e4)
 | [y],e4,i1,a1 =>
  have rr:=(w1.itm (i1 y zY)).rep
  cases hd:y.d <;> (rw [An,hd] at e4;try (exact nsE e4))
  rename_i j
  rw [hd] at rr
  have e4:(if cD j then some (aO 0 j.toNat) else none)=some xs:=e4
  split at e4
  ·rename_i hj
   cases e4
   have hj:=of_decide_eq_true hj
   refine ⟨j,by show [y.v]=_;rw [rr.int_inv],hj.1,hj.2,?_⟩
   exact q _ H1 [] [] g1 [] (w1.sub (Ag Ts T)) .nil (fun _ h=>by cases h) mJ
  ·exact nsE e4
set_option tactic.hygienic true in
theorem vj {ms:M3 (List R3)} {R:It->Hp->Prop} (h:tI K G0 W0 (aR eJ ms) σ H R):xJ (tA K G0 W0 ms) σ H R:=by
 obtain ⟨G,W,le,ρ,T,g,o,ρ',w,e,q⟩:=h
 have herr:∀ x,o=.error x->W x ρ':=fun x hx=>by subst hx;exact q
 refine tA.seq le w e herr fun rs ρ1 e1 vs H1 Ts g1 w1 a1=>?_
 obtain ⟨ds,d1,e2⟩:=c7 e1
 obtain ⟨p,e3,rfl,rfl⟩:=bS e2
 obtain ⟨xs,e4,e5⟩:=z5.mp e3
 subst e5
 obtain ⟨ys,i1,f1,f2⟩:=a1.items w1 (fun x hx=>z6 _ hx) d1
 subst f1 f2
 have inv:∀ {ds:List D},eJ ds=some xs->∃ i j,ds=[.int i,.int j]/\cD i=true/\cD j=true/\xs=aO i (j - i).toNat:=fun {ds} h=>by
  unfold eJ at h
  split at h
  ·rename_i i j
   split at h
   ·rename_i hh
    cases h
    simp only [Bool.and_eq_true] at hh
    exact ⟨i,j,rfl,hh.1,hh.2,rfl⟩
   ·exact nsE h
  ·exact nsE h
 obtain ⟨i,j,eds,hi,hj,rfl⟩:=inv e4
 match ys,eds,i1,a1 with
 | [],eds,_,_=>cases eds
 | [y],eds,_,_=>exact absurd (congrArg List.length eds) (by simp)
 | y :: z :: u :: r,eds,_,_=>exact absurd (congrArg List.length eds) (by simp)
 | [y,z],eds,i1,a1 =>
  have r1:=(w1.itm (i1 y zY)).rep
  have r2:=(w1.itm (i1 z (zZ _ zY))).rep
  have h1:y.d=.int i:=by injection eds
  have h2:z.d=.int j:=by injection eds with _ h;injection h
  rw [h1] at r1
  rw [h2] at r2
  have hi:=of_decide_eq_true hi
  have hj:=of_decide_eq_true hj
  refine ⟨i,j,by show [y.v,z.v]=_;rw [r1.int_inv,r2.int_inv],⟨hi.1,hi.2,hj.1,hj.2⟩,?_⟩
  exact q _ H1 [] [] g1 [] (w1.sub (Ag Ts T)) .nil (fun _ h=>by cases h) mJ
theorem b7 {tg a:Expr} {p pos:Pos} {ms:M3 (List R3)} (hg:Gl X "range") (hm:X.mg "range"=none) (ha:RA X G0 W0 [a] ms) (hs:starEach [a] X.env=[(false,eval a X.env)]):RI X G0 W0 tg (.Call (.Name "range" p) [a] [] pos) (aR b6 ms):=⟨PI.imp (rm hg hm ha.h hs) fun _ _ _ h=>vm h⟩
theorem gu {tg a b:Expr} {p pos:Pos} {ms:M3 (List R3)} (hg:Gl X "range") (hm:X.mg "range"=none) (ha:RA X G0 W0 [a,b] ms) (hs:starEach [a,b] X.env=[(false,eval a X.env),(false,eval b X.env)]) (hs2:starEach [b] X.env=[(false,eval b X.env)]):RI X G0 W0 tg (.Call (.Name "range" p) [a,b] [] pos) (aR eJ ms):=⟨PI.imp (rl hg hm ha.h hs hs2) fun _ _ _ h=>vj h⟩
end
end L3
end
section
namespace L3
open PySem L2
section
variable {K:FG} {G G0:Gm} {W W0:D->Sto->Prop} {H H':Hp} {σ:St} {ρ ρ':Sto} {T T':List It3} {g:Nat->Option It3} {x y z:It3} {α β:Type} {X:Cx} {L:List Addr}
noncomputable def sW (bnd:D->Sto->Option Sto) (m:EM):SM:=ae m fun r=>ae (eO r) fun p=>fun ρ=>(bnd p.1 ρ).map fun ρ1=>(.ok .nx,ρ1)
theorem yh {bnd:D->Sto->Option Sto} {tg:TG} {m:EM} {E:Ends} (hb:Bnd K G0.pr tg bnd) (h:tS K G0 W0 (sW bnd m) E σ H):sO (tE K G0 W0 m) tg E σ H:=by
 refine h.use fun G W le ρ T g r ρ' w e q=>?_
 refine tE.seq le w e q.err fun ra ρ1 e1 v H1 ⟨Ts,g1,w1,a1⟩=>?_
 obtain ⟨p,ρ2,g2,x,e2,w2,f1,_,_,f3⟩:=a1.take w1 e1
 have w3:=Wf.lowT (Ts:=[x]) w2
 obtain ⟨ρ3,e3,e4⟩:=z5.mp e2
 cases e4
 rw [<- f3]
 exact hb G H1 σ ρ2 _ T g2 (c5 x) _ le.pr rfl w3 (by show bnd x.d ρ2=_;rw [f1];exact e3) fun σ2 g3 w4=>q _ _ _ w4
theorem yD {tg e:Expr} {pos:Pos} {bnd:D->Sto->Option Sto} {m:EM} (hg:RG X G0.pr tg bnd) (he:RE X G0 W0 e m) (hs:swapsWithSole [tg] e pos.line X.env=pure false) (hw:swappedStores [tg] e X.env=pure none) (h1:(assignEach [tg] X.env).map (·.2)=[assign tg X.env]):RS X G0 W0 (.Assign [tg] e pos) (sW bnd m):=by
 obtain ⟨g,a,b⟩:=hg.h
 exact ⟨PS.imp (tO he.h a hs hw h1) fun _ _ _ h=>yh b h⟩
theorem jV {i:Nat} {y:Str} {py spos:Pos} {elt tg iter:Expr} {ifs:List Expr} {scope:Scope} {pos:Pos} {im:IM} {bnd:D->Sto->Option Sto} {cm:M3 Bool} {em:EM} (hN:X.N.Nodup) (hy:X.N[i]?=some y) (hx:Loc X.env.scope y) (NY:List Str) (ix:List (Option Nat)) (hc:X.calm=true) (hi:RI X G0 W0 tg iter im)
  (ht:∀ s H C fp,PTs (aX X NY scope s H C fp) ifs (tT X.K (bN ix) noX cm)) (he:∀ s H C fp,RE (aX X NY scope s H C fp) (bN ix) noX elt em)
  (ck:iV scope X.N X.env.scope NY ix=true) (hij:Inj ix) (hsw:swapsWith (.ListComp elt [⟨tg,iter,ifs,0⟩] scope pos) (some (.Name y py)) spos.line X.env=pure true) (hf:X.fn y=true\/X.env.scope.names.lookup y=some .local)
  (hs:∀ x,foldedSetIterable iter X.env x=pure x) (hp:G0.pr i=false) (hgu:∃ tg',Bnd X.K (bN ix).pr tg' bnd/\∀ s H C fp,PG (aX X NY scope s H C fp) tg tg'):RS X G0 W0 (.Assign [.Name y py] (.ListComp elt [⟨tg,iter,ifs,0⟩] scope pos) spos) (a7 i (cT im bnd cm em ix)):=by
 obtain ⟨tg',b1,b2⟩:=hgu
 exact ⟨PS.imp (o1 hN hy hx NY ix hc hi.h b2 ht (fun s H C fp=>(he s H C fp).h) ck hsw hf hs) fun _ _ _ h=>oO szl hij b1 hp h⟩
noncomputable def isL:D->Bool
 | .lst _=>true
 | _=>false
theorem uy:∀ d v L H,isL d=true->Rep K H d v L->tyV K "list" v H:=fun d v L H h r=>by
 cases r with
 | lst ha _=>exact .inl ⟨rfl,_,SqL.of ha⟩
 | _=>cases h
noncomputable def xo:D->List D->Option (D × D)
 | .lst xs,[d]=>if xs.length < 16777216 then some (.lst (xs ++ [d]),.non) else none
 | _,_=>none
set_option tactic.hygienic true in
theorem zp:MutD K qa xo:=fun a d L0 as H Q p r m na ra nA e q=>by
 cases d with
 | lst xs =>
  obtain ⟨_,vs,_,e1,e2,ha,rs⟩:=r.view
  cases e1
  cases e2
  match as,e,ra,nA with
  | [],e,_,_=>exact nsE e
  | _ :: _ :: _,e,_,_=>exact nsE e
  | [y],e,ra,nA =>
   have e:(if xs.length < 16777216 then some (D.lst (xs ++ [y.d]),D.non) else none)=some p:=e
   split at e
   ·rename_i hl
    cases e
    refine ⟨a,vs,y.v,rfl,rfl,ha,by rw [<- rs.len,<- szl];exact hl,?_⟩
    have ry:=ra y zY
    have ny:=nA y zY
    have ma:MutAt H a:=.inl ⟨_,ha⟩
    have keep:∀ {d v L},Rep K H d v L->a ∉ L->Rep K (upd H a (.lst (vs ++ [y.v]))) d v L:=fun {d v L} r n=>r.keep (M:=fun b=>b=a) (fun b o hb h=>by rw [aJ h];exact hb) (fun b e=>by rw [e];exact ma) fun b hb e=>n (by rw [<- e];exact hb)
    have keeps:Reps (Rep K (upd H a (.lst (vs ++ [y.v])))) xs vs L0:=rs.keep (M:=fun b=>b=a) (fun b o hb h=>by rw [aJ h];exact hb) (fun b e=>by rw [e];exact ma) fun b hb e=>na (by rw [<- e];exact hb)
    exact q (.lst (vs ++ [y.v])) (L0 ++ (y.L ++ [])) ⟨.non,.non,[],.z⟩ (.lst bc (keeps.append (.cons (keep ry ny) .nil))) rfl (fun c hc=>by
     rcases Ab.mp hc with h | h
     ·exact .inl h
     ·rw [List.append_nil] at h;exact .inr ⟨y,zY,h⟩) rfl rfl .non fun c hc=>by cases hc
   ·exact nsE e
 | _=>exact nsE e
noncomputable def uF:D->List D->Option (D × D)
 | .lst xs,[.lst ys]=>if xs.length+ys.length<=16777216 then some (.lst (xs ++ ys),.non) else none
 | _,_=>none
theorem ext2 {xs:List D} (a:D) {b:D} {r:List D}:uF (.lst xs) (a :: b :: r)=none:=by cases a <;> rfl
set_option tactic.hygienic true in
theorem zo:MutD K p7 uF:=fun a d L0 as H Q p r m na ra nA e q=>by
 cases d with
 | lst xs =>
  obtain ⟨_,vs,_,e1,e2,ha,rs⟩:=r.view
  cases e1
  cases e2
  match as,e,ra,nA with
  | [],e,_,_=>exact nsE e
  | y :: _ :: _,e,_,_=>exact nsE ((ext2 y.d).symm.trans e)
  | [y],e,ra,nA =>
   have ry:=ra y zY
   have ny:=nA y zY
   obtain ⟨yd,yv,yL,yf⟩:=y
   dsimp only at ry ny e
   cases yd with
   | lst ys =>
    obtain ⟨b,ws,L1,rfl,rfl,hb,rs'⟩:=ry.view
    have e:(if xs.length+ys.length<=16777216 then some (D.lst (xs ++ ys),D.non) else none)=some p:=e
    split at e
    ·rename_i hl
     cases e
     refine ⟨a,b,vs,ws,rfl,rfl,ha,hb,by rw [<- rs.len,<- rs'.len,<- szl];exact hl,?_⟩
     have ma:MutAt H a:=.inl ⟨_,ha⟩
     have keeps:∀ {ds vs' L},Reps (Rep K H) ds vs' L->a ∉ L->Reps (Rep K (upd H a (.lst (vs ++ ws)))) ds vs' L:=fun {ds vs' L} r n=>r.keep (M:=fun b=>b=a) (fun b o hb h=>by rw [aJ h];exact hb) (fun b e=>by rw [e];exact ma) fun b hb e=>n (by rw [<- e];exact hb)
     exact q (.lst (vs ++ ws)) (L0 ++ L1) ⟨.non,.non,[],.z⟩ (.lst bc ((keeps rs na).append (keeps rs' fun h=>ny (zZ _ h)))) rfl (fun c hc=>by
      rcases Ab.mp hc with h | h
      ·exact .inl h
      ·exact .inr ⟨_,zY,zZ _ h⟩) rfl rfl .non fun c hc=>by cases hc
    ·exact nsE e
   | _=>exact nsE e
 | _=>exact nsE e
noncomputable def vz:D->List D->Option (D × D)
 | .lst xs,[.int i,d]=>(ixN xs.length i).map fun j=>(.lst (xs.set j d),.non)
 | _,_=>none
theorem Reps.set:∀ {ds:List D} {vs:List V} {L L':List Addr} {d:D} {v:V} (j:Nat),Reps (Rep K H) ds vs L->Rep K H d v L'->∃ L2,Reps (Rep K H) (ds.set j d) (vs.set j v) L2/\∀ c ∈ L2,c ∈ L\/c ∈ L'
 | _,_,_,_,_,_,j,.nil,_=>⟨[],.nil,fun c hc=>by cases hc⟩
 | _,_,_,L',_,_,0,.cons (L:=L1) (L':=L1') r rs,r'=>⟨L' ++ L1',.cons r' rs,fun c hc=>by
  rcases Ab.mp hc with h | h
  ·exact .inr h
  ·exact .inl (z7 _ h)⟩
 | _,_,_,L',_,_,j+1,.cons (L:=L1) (L':=L1') r rs,r'=>by
  obtain ⟨L2,h1,h2⟩:=Reps.set j rs r'
  refine ⟨L1 ++ L2,.cons r h1,fun c hc=>?_⟩
  rcases Ab.mp hc with h | h
  ·exact .inl (z6 _ h)
  ·rcases h2 c h with h | h
   ·exact .inl (z7 _ h)
   ·exact .inr h
theorem set1 {xs:List D} (a:D):vz (.lst xs) [a]=none:=by cases a <;> rfl
theorem set3' {xs:List D} (a:D) {b c:D} {r:List D}:vz (.lst xs) (a :: b :: c :: r)=none:=by cases a <;> rfl
theorem wF:MutD K (j6 p4) vz:=fun a d L0 as H Q p r m na ra nA e q=>by
 cases d with
 | lst xs =>
  obtain ⟨_,vs,_,e1,e2,ha,rs⟩:=r.view
  cases e1
  cases e2
  match as,e,ra,nA with
  | [],e,_,_=>exact nsE e
  | [y],e,_,_=>exact nsE ((set1 y.d).symm.trans e)
  | y :: _ :: _ :: _,e,_,_=>exact nsE ((set3' y.d).symm.trans e)
  | [k,y],e,ra,nA =>
   have rk:=ra k zY
   have ry:=ra y (zZ _ zY)
   have ny:=nA y (zZ _ zY)
   obtain ⟨kd,kv,kL,kf⟩:=k
   dsimp only at rk
   cases kd with
   | int i =>
    obtain ⟨rfl,rfl⟩:=rk.view
    obtain ⟨j,h1,h2⟩:=z5.mp (show (ixN xs.length i).map (fun j=>(D.lst (xs.set j y.d),D.non))=some p from e)
    subst h2
    refine ⟨.int i,y.v,rfl,a,vs,i,j,rfl,rfl,ha,by rw [<- rs.len];exact h1,?_⟩
    have ma:MutAt H a:=.inl ⟨_,ha⟩
    have ry':Rep K (upd H a (.lst (vs.set j y.v))) y.d y.v y.L:=ry.keep (M:=fun b=>b=a) (fun b o hb h=>by rw [aJ h];exact hb) (fun b e=>by rw [e];exact ma) fun b hb e=>ny (by rw [<- e];exact hb)
    have keeps:Reps (Rep K (upd H a (.lst (vs.set j y.v)))) xs vs L0:=rs.keep (M:=fun b=>b=a) (fun b o hb h=>by rw [aJ h];exact hb) (fun b e=>by rw [e];exact ma) fun b hb e=>na (by rw [<- e];exact hb)
    obtain ⟨L2,h3,h4⟩:=keeps.set j ry'
    exact q (.lst (vs.set j y.v)) L2 ⟨.non,.non,[],.z⟩ (.lst bc h3) rfl (fun c hc=>(h4 c hc).imp id fun h=>⟨y,zZ _ zY,h⟩) rfl rfl .non fun c hc=>by cases hc
   | _=>exact nsE e
 | _=>exact nsE e
theorem pZ {i:Nat} {x:Str} {pn apos cpos:Pos} {id:String} {nm:Str} {Ty:String} {e:Expr} {es:List Expr} {ok:D->Bool} {r:V->List V->Hp->VK->Prop} {f:D->List D->Option (D × D)} {ms:M3 (List R3)} (pa:PlainAttrs Ty) (slot:Slot Ty nm id) (hty:typeOf (.builtin id)=pure (.type "method_descriptor")) (hm:MtR X id r) (hr:MutD X.K r f) (hok:∀ d v L H,ok d=true->Rep X.K H d v L->tyV X.K Ty v H)
  (ho:PE X (.Name x pn) (qU i)) (ha:RA X G0 W0 (e :: es) ms) (hbase:attributeBase (.Name x pn) nm X.env (eval (.Name x pn) X.env)=eval (.Name x pn) X.env)
  (hfew:((backTo cpos (starEach (e :: es) X.env)).all (fun x=>!x.1) && (backToKw cpos (keywordEach [] X.env)).all (fun x=>x.1.isSome) && decide ((e :: es).length+([]:List Keyword).length+(if ([]:List Keyword).isEmpty then 0 else 1) < 30))=true)
  (hline:(apos.endLine == cpos.line)=true) (hs:starEach (e :: es) X.env=(false,eval e X.env) :: starEach es X.env) (hplain:(backTo cpos (starEach es X.env)).any (·.1)=false):RE X G0 W0 (.Call (.Attribute (.Name x pn) nm apos) (e :: es) [] cpos) (rK ok f i ms) :=
 ⟨PE.imp (pe_bm pa slot hty hm ho ha.h hbase hfew hline hs hplain) fun _ _ _ h=>yn hr hok h⟩
theorem iG {i:Nat} {x:Str} {pn p2 pos:Pos} {k e:Expr} {mk mv:EM} {t:sE} {f:D->List D->Option (D × D)} (hs:u3 X t) (hr:MutD X.K (j6 t) f) (ho:PE X (.Name x pn) (qU i)) (hk:RE X G0 W0 k mk) (hv:RE X G0 W0 e mv)
  (ha:∀ v,assign (.Subscript (.Name x pn) k p2) X.env v=(do
   let ov <- holding [v] (eval (.Name x pn) X.env)
   let iv <- holding [v,ov] (eval k X.env)
   standAt p2
   holding [v,ov,iv] (setItem ov iv v)
   release [v,ov,iv] []))
  (h1:swapsWithSole [.Subscript (.Name x pn) k p2] e pos.line X.env=pure false) (h2:swappedStores [.Subscript (.Name x pn) k p2] e X.env=pure none) (h3:(assignEach [.Subscript (.Name x pn) k p2] X.env).map (·.2)=[assign (.Subscript (.Name x pn) k p2) X.env]):RS X G0 W0 (.Assign [.Subscript (.Name x pn) k p2] e pos) (kT f i mk mv) :=
 ⟨PS.imp (tO hv.h (yT ho hk.h hs ha) h1 h2 h3) fun _ _ _ h=>xY hr h⟩
end
end L3
end
section
namespace L3
open PySem L2
section
variable {K:FG} {G G0:Gm} {W W0:D->Sto->Prop} {H H':Hp} {σ:St} {ρ ρ':Sto} {T T':List It3} {g:Nat->Option It3} {x y z:It3} {α β:Type} {X:Cx} {L:List Addr}
theorem eR {Y:Cx} {ix:List (Option Nat)}:PTs Y [] (tT K (bN ix) noX gP):=fun pins s σ H Q I h=>vW pins s σ H Q I (xU h)
theorem gZ {Y:Cx} {c:Expr} {ix:List (Option Nat)} {m:M3 Bool} (h:RT Y (bN ix) noX c m):PTs Y [c] (tT Y.K (bN ix) noX m):=vV h.h
theorem eM {ix:List (Option Nat)} (h:(ix.filterMap id).Nodup):Inj ix:=by
 intro j k i hj hk
 induction ix generalizing j k with
 | nil=>simp at hj
 | cons o ix ih =>
  cases o with
  | none =>
   have h':(ix.filterMap id).Nodup:=by simpa using h
   cases j with
   | zero=>simp at hj
   | succ j =>
    cases k with
    | zero=>simp at hk
    | succ k=>rw [ih h' j k (by simpa using hj) (by simpa using hk)]
  | some i0 =>
   have h':(i0 :: ix.filterMap id).Nodup:=by simpa using h
   obtain ⟨n,h''⟩:=List.nodup_cons.mp h'
   have mem:∀ m:Nat,ix[m]?=some (some i0)->False:=fun m e=>n (List.mem_filterMap.mpr ⟨some i0,Af e,rfl⟩)
   cases j with
   | zero =>
    simp at hj
    cases k with
    | zero=>rfl
    | succ k=>subst hj;exact (mem k (by simpa using hk)).elim
   | succ j =>
    cases k with
    | zero=>simp at hk;subst hk;exact (mem j (by simpa using hj)).elim
    | succ k=>rw [ih h'' j k (by simpa using hj) (by simpa using hk)]
noncomputable def oS:SM:=fun _=>none
theorem m5 {st:Stmt}:RS X G0 W0 st oS:=⟨PS.imp tN fun _ _ _ h=>by
 refine h.use fun G W le ρ T g r ρ' w e q=>?_
 cases e⟩
theorem mP {r r':R2} {f f':D->D->Option (D × Fl)} {ma mb mc:EM} {Q:VK} (ho:OpD K r f) (ho':OpD K r' f') (h:tE K G0 W0 (gM f f' ma mb mc) σ H Q):lQ r r' (tE K G0 W0 ma) (tE K G0 W0 mb) (tE K G0 W0 mc) σ H Q:=by
 refine h.use fun G W le ρ T g o ρ' w e q=>?_
 refine tE.seq le w e q.err fun ra ρ1 e1 va H1 ⟨Ts,g1,w1,a1⟩=>?_
 refine tE.seq le w1 e1 q.err fun rb ρ2 e2 vb H2 ⟨Us,g2,w2,a2⟩=>?_
 obtain ⟨da,d1,e3⟩:=aW e2
 obtain ⟨db,d2,e4⟩:=aW e3
 obtain ⟨k,e5,e6⟩:=iR e4
 obtain ⟨ya,i1,f1,f2⟩:=a1.item w2 (fun x hx=>z7 _ (z6 _ hx)) d1
 obtain ⟨yb,i2,f3,f4⟩:=a2.item w2 (fun x hx=>z6 _ hx) d2
 obtain ⟨p,e7,e8⟩:=Ay.mp e5
 have hp:=uW e8
 subst f1 f2 f4
 rw [<- f3] at e7
 refine ho ya yb H2 _ p (w2.itm i1).arg (w2.itm i2).arg e7 fun u H3 nu ud uf=>?_
 have w3:=w2.push nu fun c h=>w2.kids (ys:=[ya,yb]) (fun y hy=>by
  rcases z8.mp hy with h | hy
  ·rw [h];exact i1
  ·rw [Az.mp hy];exact i2) h
 have ru:=nu.rep
 rw [ud,hp] at ru
 refine ⟨k,ru.bl_eq.1,?_⟩
 have w4:=w3.sub (List.sublist_cons_self u _)
 cases k with
 | false =>
  cases e6
  have w5:=w4.sub (T':=T) ((Ag Ts T).trans (Ag Us _))
  exact q _ _ (w5.const (.bl false))
 | true =>
  simp only [if_true] at e6 ⊢
  refine tE.seq le w4 e6 q.err fun rc ρ5 e9 vc H5 ⟨Vs,g5,w5,a5⟩=>?_
  obtain ⟨db',d3,e10⟩:=aW e9
  obtain ⟨dc,d4,e11⟩:=aW e10
  obtain ⟨p',e12,rfl,rfl⟩:=bS e11
  obtain ⟨yb',i3,f5,f6⟩:=a2.item w5 (fun x hx=>z7 _ (z6 _ hx)) d3
  obtain ⟨yc,i4,f7,f8⟩:=a5.item w5 (fun x hx=>z6 _ hx) d4
  cases ef:f' db' dc with
  | none=>rw [ef] at e12;exact nsE e12
  | some s =>
   rw [ef] at e12
   cases e12
   have w6:=w5
   rw [show Vs ++ (Us ++ (Ts ++ T))=(Vs ++ (Us ++ Ts)) ++ T by simp] at w6
   have i3':Itm ((Vs ++ (Us ++ Ts)) ++ T) g5 yb':=by simpa using i3
   have i4':Itm ((Vs ++ (Us ++ Ts)) ++ T) g5 yc:=by simpa using i4
   rw [<- f6,<- f8]
   refine ho' yb' yc H5 Q s (w5.itm i3).arg (w5.itm i4).arg (by rw [f5,f7];exact ef) (og w6 (fun y hy=>?_) q)
   rcases z8.mp hy with h | hy
   ·rw [h];exact i3'
   ·rw [Az.mp hy];exact i4'
theorem tF {op op':CmpOp} {r r':R2} {f f':D->D->Option (D × Fl)} {a b c:Expr} {pos:Pos} {ma mb mc:EM} (ho:OpR X (compareOp op) r) (hd:OpD X.K r f) (ho':OpR X (compareOp op') r') (hd':OpD X.K r' f') (ha:RE X G0 W0 a ma) (hb:RE X G0 W0 b mb) (hc:RE X G0 W0 c mc)
  (h:PE X a (tE X.K G0 W0 ma)->PE X b (tE X.K G0 W0 mb)->PE X c (tE X.K G0 W0 mc)->PE X (.Compare a [op,op'] [b,c] pos) (lQ r r' (tE X.K G0 W0 ma) (tE X.K G0 W0 mb) (tE X.K G0 W0 mc))):RE X G0 W0 (.Compare a [op,op'] [b,c] pos) (gM f f' ma mb mc):=⟨PE.imp (h ha.h hb.h hc.h) fun _ _ _ h=>mP hd hd' h⟩
theorem cy {op:CmpOp} {r:R2} {f:D->D->Option (D × Fl)} {a b:Expr} {pos:Pos} {ma mb:EM} (ho:OpR X (compareOp op) r) (hd:OpD X.K r f) (ha:RE X G0 W0 a ma) (hb:RE X G0 W0 b mb) (hm:behindInMarks op b=false):RT X G0 W0 (.Compare a [op] [b] pos) (cB (ah f ma mb)):=⟨PT.imp (vX ho ha.h hb.h hm) fun _ _ _ h=>jM hd (xW h)⟩
theorem tp {op op':CmpOp} {r r':R2} {f f':D->D->Option (D × Fl)} {a b c:Expr} {pos:Pos} {ma mb mc:EM} (ho:OpR X (compareOp op) r) (hd:OpD X.K r f) (ho':OpR X (compareOp op') r') (hd':OpD X.K r' f') (ha:RE X G0 W0 a ma) (hb:RE X G0 W0 b mb) (hc:RE X G0 W0 c mc) (hm:lastMarks [op,op'] [b,c]=false):RT X G0 W0 (.Compare a [op,op'] [b,c] pos) (cB (gM f f' ma mb mc)):=⟨PT.imp (tK ho ho' ha.h hb.h hc.h hm) fun _ _ _ h=>mP hd hd' (xW h)⟩
end
end L3
namespace L3
theorem aC {mask:List Bool} {i:Nat} (h:mask.length<=i):prM mask i=false:=by
 unfold prM
 rw [List.getElem?_eq_none h]
end L3
end
section
namespace L3
open PySem L2
structure Bl (mg:Str->Option Value):Prop where
 len:mg "len"=none
 range:mg "range"=none
 abs:mg "abs"=none
 divmod:mg "divmod"=none
 enumerate:mg "enumerate"=none
 tuple:mg "tuple"=none
 isinstance:mg "isinstance"=none
 int:mg "int"=none
 bool:mg "bool"=none
 all:mg "all"=none
 str:mg "str"=none
 max:mg "max"=none
 min:mg "min"=none
 list:mg "list"=none
 dict:mg "dict"=none
 repr:mg "repr"=none
 sorted:mg "sorted"=none
 set:mg "set"=none
 zip:mg "zip"=none
 reversed:mg "reversed"=none
theorem dB:bootBuiltins "len"=some (.builtin "len"):=by decide +kernel
theorem uT:bootBuiltins "divmod"=some (.builtin "divmod"):=by decide +kernel
theorem jF:bootBuiltins "tuple"=some (.type "tuple"):=by decide +kernel
theorem mF:bootBuiltins "isinstance"=some (.builtin "isinstance"):=by decide +kernel
theorem b_int:bootBuiltins "int"=some (.type "int"):=by decide +kernel
theorem uU:bootBuiltins "bool"=some (.type "bool"):=by decide +kernel
theorem xR:bootBuiltins "all"=some (.builtin "all"):=by decide +kernel
theorem jj:bootBuiltins "max"=some (.builtin "max"):=by decide +kernel
theorem kI:bootBuiltins "min"=some (.builtin "min"):=by decide +kernel
end L3
end
section
namespace L3
open PySem L2
section
variable {K:FG} {G G0:Gm} {W W0:D->Sto->Prop} {H H':Hp} {σ:St} {ρ ρ':Sto} {T T':List It3} {g:Nat->Option It3} {x y z:It3} {α β:Type} {X:Cx} {L:List Addr}
theorem pQ {m:EM} {Q Q':VK} (h:tE K G0 W0 m σ H Q) (f:∀ v H,Q v H->Q' v H):tE K G0 W0 m σ H Q':=by
 refine h.use fun G W le ρ T g o ρ' w e q=>?_
 refine tE.mk le w e ?_
 cases o with
 | ok r=>exact fun v H' g=>f v H' (q v H' g)
 | error x=>exact q
noncomputable def xH:D->Option String
 | .non=>some "NoneType" | .bl _=>some "bool" | .int _=>some "int" | .str _=>some "str"
 | .tup _=>some "tuple" | .lst _=>some "list" | .fls _=>some "list" | .dk _=>some "dict" | .dt _=>some "dict" | .exc _ _=>none
noncomputable def rV (t:String) (d:D):Option (D × Fl):=(xH d).map fun k=>(.bl (nX k t),.z)
theorem Rep.kind {d:D} {v:V} {k:String} (r:Rep K H d v L) (e:xH d=some k):KindOf K H v k:=by
 cases r with
 | non=>cases e;exact .non
 | bl b=>cases e;exact .bool b
 | int i=>cases e;exact .int i
 | str s=>cases e;exact .str s
 | tup h _=>cases e;exact .tuple (SqT.of h)
 | lst h _=>cases e;exact .list (SqL.of h)
 | lstF h _=>cases e;exact .list h.sq
 | dK h _ _=>cases e;exact .dK h
 | dT h _ _=>cases e;exact .dT h
 | exc _ _=>cases e
theorem j1 {t:String} {tn:Str} {a:Expr} {p pT pos:Pos} {ma:EM} (hc:CallR X (.builtin "isinstance") (fun xs H Q=>∃ x k,xs=[x,.ty t]/\KindOf X.K H x k/\Q (.bl (nX k t)) H)) (hg:Gl X "isinstance") (hm:X.mg "isinstance"=none) (ht:PE X (.Name tn pT) (tC (.ty t))) (ha:RE X G0 W0 a ma)
  (he1:starEach [a,.Name tn pT] X.env=(false,eval a X.env) :: starEach [.Name tn pT] X.env) (he2:starEach [.Name tn pT] X.env=(false,eval (.Name tn pT) X.env) :: starEach [] X.env) (hpl:(backTo pos (starEach [.Name tn pT] X.env)).any (·.1)=false):RE X G0 W0 (.Call (.Name "isinstance" p) [a,.Name tn pT] [] pos) (mUn (rV t) ma) :=
 ⟨PE.imp (j9 hc hg hm mF (jB ha.h (jB ht o6 he2) he1) (by decide) (by decide) he1 hpl) fun σ H Q h=>by
  have h:=xv (r:=fun x H Q=>∃ k,KindOf X.K H x k/\Q (.bl (nX k t)) H) (fun a H Q p ra e q=>by
   obtain ⟨k,h1,h2⟩:=z5.mp e
   subst h2
   exact ⟨k,ra.rep.kind h1,q ⟨.bl (nX k t),.bl (nX k t),[],.z⟩ H (dH (.bl _)) rfl rfl⟩) h
  refine pQ h fun x H1 ⟨k,hk,q⟩=>?_
  exact ⟨x,k,rfl,hk,q⟩⟩
noncomputable def uu:D->Option Key
 | .int i=>some (.inl i)
 | .str s=>some (.inr s)
 | _=>none
noncomputable def eK:List D->Option (List Key)
 | []=>some []
 | d :: ds=>match uu d,eK ds with
  | some k,some ks=>some (k :: ks)
  | _,_=>none
theorem rR {d:D} {v:V} {k:Key} (r:Rep K H d v L) (e:uu d=some k):v=kV k:=by
 cases r <;> cases e <;> rfl
theorem gc:∀ {ds:List D} {vs:List V} {L:List Addr} {ks:List Key},Reps (Rep K H) ds vs L->eK ds=some ks->vs=ks.map kV
 | _,_,_,ks,.nil,e=>by cases e;rfl
 | _,_,_,ks,.cons (d:=d) (ds:=ds) r rs,e=>by
  unfold eK at e
  cases h1:uu d with
  | none=>rw [h1] at e;exact nsE e
  | some k =>
   cases h2:eK ds with
   | none=>rw [h1,h2] at e;exact nsE e
   | some ks' =>
    rw [h1,h2] at e
    cases e
    rw [rR r h1,gc rs h2];rfl
noncomputable def c6 (kvs:List (List Key × D)) (k:List Key):Option D:=(kvs.find? fun kv=>decide (kv.1=k)).map (·.2)
noncomputable def dj (kvs:List (List Key × D)) (k:List Key) (v:D):List (List Key × D) :=
 if (kvs.any fun kv=>decide (kv.1=k))=true then kvs.map (fun kv=>if kv.1=k then (kv.1,v) else kv) else kvs ++ [(k,v)]
theorem n5:∀ {kvs:List (List Key × D)} {ps:List (List Key × V)} {L:List Addr} {k:List Key} {d:D},kvs.map (·.1)=ps.map (·.1)->Reps (Rep K H) (kvs.map (·.2)) (ps.map (·.2)) L->c6 kvs k=some d->∃ v L',jl ps k=some v/\Rep K H d v L'/\∀ c ∈ L',c ∈ L
 | [],ps,L,k,d,hk,r,e=>by cases e
 | kv :: kvs,[],L,k,d,hk,r,e=>by cases hk
 | kv :: kvs,p :: ps,L,k,d,hk,r,e=>by
  have hk':kv.1=p.1/\kvs.map (·.1)=ps.map (·.1):=by simpa using hk
  generalize hr:(kv :: kvs).map (·.2)=xs at r
  generalize hp:(p :: ps).map (·.2)=ys at r
  cases r with
  | nil=>cases hr
  | cons a as =>
   cases hr
   cases hp
   unfold c6 at e
   rw [List.find?_cons] at e
   by_cases h:kv.1=k
   ·rw [Ao h] at e
    cases e
    exact ⟨_,_,gQ (hk'.1.symm.trans h),a,fun c hc=>z6 _ hc⟩
   ·rw [Ap h] at e
    obtain ⟨v,L',h1,h2,h3⟩:=n5 hk'.2 as e
    exact ⟨v,L',by rw [gR (fun z=>h (hk'.1.trans z))];exact h1,h2,fun c hc=>z7 _ (h3 c hc)⟩
noncomputable def n6:D->D->Option (D × Fl)
 | .dt kvs,.tup ks=>match eK ks with
  | some k=>(c6 kvs k).map fun d=>(d,.z)
  | none=>none
 | _,_=>none
noncomputable def p8:R2:=fun x y H Q=>∃ a v,x=.ref a/\DGet H a y (some v)/\Q v H
theorem wy:OpD K p8 n6:=fun a b H Q p ra rb e q=>by
 obtain ⟨da,va,La,fa⟩:=a
 obtain ⟨db,vb,Lb,fb⟩:=b
 have ra0:=ra
 obtain ⟨ra,oa⟩:=ra
 obtain ⟨rb,ob⟩:=rb
 dsimp only at ra rb e
 cases da with
 | dt kvs =>
  obtain ⟨pa,ps,L0,rfl,rfl,ha,hk,rs⟩:=ra.view
  cases db with
  | tup ks =>
   obtain ⟨pb,ws,rfl,hb,rs'⟩:=rb.view
   have e:(match eK ks with | some k=>(c6 kvs k).map fun d=>(d,Fl.z) | none=>none)=some p:=e
   cases h1:eK ks with
   | none=>rw [h1] at e;exact nsE e
   | some k =>
    rw [h1] at e
    obtain ⟨d,h2,h3⟩:=z5.mp (show (c6 kvs k).map (fun d=>(d,Fl.z))=some p from e)
    subst h3
    have hw:=gc rs' h1
    subst hw
    obtain ⟨v,L',g1,g2,g3⟩:=n5 hk rs h2
    refine ⟨pa,v,rfl,by rw [<- g1];exact DGet.t ha hb,q ⟨d,v,L',.z⟩ H (nC g2 fun c hc=>?_) rfl rfl⟩
    exact pv (y:=⟨.dt kvs,.ref pa,pa :: L0,fa⟩) zY ra0 rfl rfl c (g3 c hc)
  | _=>exact nsE e
 | _=>exact nsE e
open PySem.Spec PyProof.Rows in
theorem wT (hu:X.A.units+1 < cLine):IxR X p8:=by
 intro value slice pins s σ H x y v u Q I rx ry h hs
 obtain ⟨a,w,rfl,g,q⟩:=h
 cases rx
 have hT:=oi I g
 unfold subscriptTail
 refine zV ?_
 rw [getitemInPython_of_ne hT.not_modules]
 refine zV (wpAny_specialOf hT PySem.F.slot_dict_getitem.lookup ?_)
 have fin:wpAny (model X.prog X.w) X.A (subscripted slice false (.ref a) u) (fun r s₃=>wpAny (model X.prog X.w) X.A (letTemporaryGo value (.ref a) r >>= fun _=>pure r) (EP X pins σ Q) X.xe s₃) X.xe s:=by
  rw [hs]
  exact wpAny_operating (r6 hu I g ry fun w' s3 I3 rw'=>zV (wpAny_letTemporaryGo (zW ⟨w,H,I3,rw',q⟩)))
 first
  | exact zW (zV fin)
  | exact zV (zW (zV fin))
  | exact zV fin
noncomputable abbrev aD:=orD ixD n6
theorem av:OpD K (fun x y H Q=>(tJ K x y H Q\/tH K x y H Q)\/p8 x y H Q) aD:=od_ix.or wy
theorem aw (hu:X.A.units+1 < cLine):IxR X (fun x y H Q=>(tJ X.K x y H Q\/tH X.K x y H Q)\/p8 x y H Q):=ix_ok.or (wT hu)
noncomputable def km:EM:=bb (.val (.dt []) .u)
theorem ib {pos:Pos}:RE X G0 W0 (.Dict [] [] pos) km:=⟨PE.imp tX fun σ H Q h=>by
 refine h.use fun G W le ρ T g o ρ' w e q=>?_
 cases e
 intro p hp
 refine q _ _ (Wf.done (Us:=[]) (ys:=[]) (x:=⟨.dt [],.ref p,[p],.u⟩) w (fun _ h=>(by cases h)) ⟨bK hp,.dT bc rfl .nil,fun c hc=>?_,fun _=>⟨rfl,p,[],rfl,rfl,(by simp),hp⟩⟩)
 rw [Az.mp hc];exact .inl hp⟩
noncomputable def qb:D->List D->Option (D × D)
 | .dt kvs,[.tup ks,v]=>match eK ks with
  | some k=>if kvs.length < 16777216 then some (.dt (dj kvs k v),.non) else none
  | none=>none
 | _,_=>none
noncomputable def p5:sE:=fun o i v H Q=>∃ a H',o=.ref a/\DPut H a i v H'/\Q H'
theorem sT (hu:X.A.units+1 < cLine):u3 X p5:=by
 intro pins s σ H o i v ov iv u Q I ro ri rv h
 obtain ⟨a,H',rfl,g,q⟩:=h
 cases ro
 exact r0 hu I g ri rv fun s' I'=>⟨H',I',q⟩
theorem ni:∀ {kvs:List (List Key × D)} {ps:List (List Key × V)} {L L':List Addr} {k:List Key} {d:D} {v:V},kvs.map (·.1)=ps.map (·.1)->Reps (Rep K H) (kvs.map (·.2)) (ps.map (·.2)) L->Rep K H d v L' ->
  ∃ L2,Reps (Rep K H) ((kvs.map fun kv=>if kv.1=k then (kv.1,d) else kv).map (·.2)) ((ps.map fun kv=>if kv.1=k then (kv.1,v) else kv).map (·.2)) L2/\(∀ c ∈ L2,c ∈ L\/c ∈ L')
 | [],[],L,L',k,d,v,hk,r,rd=>⟨[],.nil,fun c hc=>by cases hc⟩
 | [],_ :: _,_,_,_,_,_,hk,_,_=>by cases hk
 | _ :: _,[],_,_,_,_,_,hk,_,_=>by cases hk
 | kv :: kvs,p :: ps,L,L',k,d,v,hk,r,rd=>by
  have hk':kv.1=p.1/\kvs.map (·.1)=ps.map (·.1):=by simpa using hk
  generalize hr:(kv :: kvs).map (·.2)=xs at r
  generalize hp:(p :: ps).map (·.2)=ys at r
  cases r with
  | nil=>cases hr
  | @cons _ _ L1 _ _ L1' a as =>
   cases hr
   cases hp
   obtain ⟨L2,h1,h2⟩:=ni (k:=k) hk'.2 as rd
   by_cases h:kv.1=k
   ·refine ⟨L' ++ L2,?_,fun c hc=>?_⟩
    ·simp only [An,if_pos h,if_pos (hk'.1.symm.trans h)]
     exact .cons rd h1
    ·rcases Ab.mp hc with z | z
     ·exact .inr z
     ·rcases h2 c z with y | y
      ·exact .inl (z7 _ y)
      ·exact .inr y
   ·refine ⟨L1 ++ L2,?_,fun c hc=>?_⟩
    ·simp only [An,if_neg h,if_neg (fun z=>h (hk'.1.trans z))]
     exact .cons a h1
    ·rcases Ab.mp hc with z | z
     ·exact .inl (z6 _ z)
     ·rcases h2 c z with y | y
      ·exact .inl (z7 _ y)
      ·exact .inr y
theorem uX {kvs:List (List Key × D)} {ps:List (List Key × V)} {k:List Key} (hk:kvs.map (·.1)=ps.map (·.1)):(kvs.any fun kv=>decide (kv.1=k))=ps.any fun kv=>decide (kv.1=k):=by
 have h1:(kvs.any fun kv=>decide (kv.1=k))=(kvs.map (·.1)).any fun x=>decide (x=k):=by rw [List.any_map];rfl
 have h2:(ps.any fun kv=>decide (kv.1=k))=(ps.map (·.1)).any fun x=>decide (x=k):=by rw [List.any_map];rfl
 rw [h1,h2,hk]
theorem nK {α:Type} {kvs:List (List Key × α)} {k:List Key} {d:α}:(kvs.map fun kv=>if kv.1=k then (kv.1,d) else kv).map (·.1)=kvs.map (·.1):=by
 rw [AJ]
 refine AK fun kv _=>?_
 show (if kv.1=k then (kv.1,d) else kv).1=kv.1
 split <;> rfl
theorem put1 {kvs:List (List Key × D)} (a:D):qb (.dt kvs) [a]=none:=by cases a <;> rfl
theorem put3' {kvs:List (List Key × D)} (a:D) {b c:D} {r:List D}:qb (.dt kvs) (a :: b :: c :: r)=none:=by cases a <;> rfl
set_option tactic.hygienic true in
theorem wG:MutD K (j6 p5) qb:=fun a d L0 as H Q p r m na ra nA e q=>by
 cases d with
 | dt kvs =>
  obtain ⟨_,ps,_,e1,e2,ha,hk,rs⟩:=r.view
  cases e1
  cases e2
  match as,e,ra,nA with
  | [],e,_,_=>exact nsE e
  | [y],e,_,_=>exact nsE ((put1 y.d).symm.trans e)
  | y :: _ :: _ :: _,e,_,_=>exact nsE ((put3' y.d).symm.trans e)
  | [k,y],e,ra,nA =>
   have rk:=ra k zY
   have ry:=ra y (zZ _ zY)
   have ny:=nA y (zZ _ zY)
   obtain ⟨kd,kv,kL,kf⟩:=k
   dsimp only at rk
   cases kd with
   | tup ks =>
    obtain ⟨pb,ws,rfl,hb,rs'⟩:=rk.view
    have e:(match eK ks with | some k=>if kvs.length < 16777216 then some (D.dt (dj kvs k y.d),D.non) else none | none=>none)=some p:=e
    cases h1:eK ks with
    | none=>rw [h1] at e;exact nsE e
    | some key =>
     rw [h1] at e
     dsimp only at e
     split at e
     ·rename_i hl
      cases e
      have hw:=gc rs' h1
      subst hw
      have hlen:kvs.length=ps.length:=by have:=congrArg List.length hk;simpa using this
      refine ⟨.ref pb,y.v,rfl,a,_,rfl,DPut.t ha hb (by rw [<- hlen,<- szl];exact hl),?_⟩
      have ma:MutAt H a:=.inr (.inr ⟨_,ha⟩)
      have ry':Rep K (upd H a (.dT (fm ps key y.v))) y.d y.v y.L:=ry.keep (M:=fun b=>b=a) (fun b o hb h=>by rw [aJ h];exact hb) (fun b e=>by rw [e];exact ma) fun b hb e=>ny (by rw [<- e];exact hb)
      have keeps:Reps (Rep K (upd H a (.dT (fm ps key y.v)))) (kvs.map (·.2)) (ps.map (·.2)) L0:=rs.keep (M:=fun b=>b=a) (fun b o hb h=>by rw [aJ h];exact hb) (fun b e=>by rw [e];exact ma) fun b hb e=>na (by rw [<- e];exact hb)
      have fin:∃ L1,Reps (Rep K (upd H a (.dT (fm ps key y.v)))) ((dj kvs key y.d).map (·.2)) ((fm ps key y.v).map (·.2)) L1/\(∀ c ∈ L1,c ∈ L0\/c ∈ y.L)/\(dj kvs key y.d).map (·.1)=(fm ps key y.v).map (·.1):=by
       generalize upd H a (HO.dT (fm ps key y.v))=H2 at keeps ry' ⊢
       unfold dj fm
       rw [uX hk]
       split
       ·obtain ⟨L2,g1,g2⟩:=ni (k:=key) hk keeps ry'
        exact ⟨L2,g1,g2,by rw [nK,nK];exact hk⟩
       ·refine ⟨L0 ++ (y.L ++ []),?_,fun c hc=>?_,by rw [List.map_append,List.map_append,hk];rfl⟩
        ·rw [List.map_append,List.map_append]
         exact keeps.append (.cons ry' .nil)
        ·rcases Ab.mp hc with z | z
         ·exact .inl z
         ·rw [List.append_nil] at z;exact .inr z
      obtain ⟨L1,g1,g2,g3⟩:=fin
      exact q (.dT (fm ps key y.v)) L1 ⟨.non,.non,[],.z⟩ (.dT bc g3 g1) rfl (fun c hc=>(g2 c hc).imp id fun h=>⟨y,zZ _ zY,h⟩) rfl rfl .non fun c hc=>by cases hc
     ·exact nsE e
   | _=>exact nsE e
 | _=>exact nsE e
noncomputable def za (f g:D->List D->Option (D × D)) (a:D) (b:List D):Option (D × D):=match f a b with
 | some p=>some p
 | none=>g a b
theorem MutD.or {r r':V->List V->Hp->VK->Prop} {f g:D->List D->Option (D × D)} (h:MutD K r f) (h':MutD K r' g):MutD K (fun x y H Q=>r x y H Q\/r' x y H Q) (za f g):=fun a d L0 as H Q p r m na ra nA e q=>by
 unfold za at e
 cases ef:f d (as.map (·.d)) with
 | some p'=>rw [ef] at e;cases e;exact .inl (h a d L0 as H Q _ r m na ra nA ef q)
 | none=>rw [ef] at e;exact .inr (h' a d L0 as H Q p r m na ra nA e q)
noncomputable abbrev kQ:=za vz qb
theorem iP:MutD K (j6 fun o i v H Q=>p4 o i v H Q\/p5 o i v H Q) kQ:=fun a d L0 as H Q p r m na ra nA e q=>by
 rcases MutD.or wF wG a d L0 as H Q p r m na ra nA e q with ⟨k,v,h1,h2⟩ | ⟨k,v,h1,h2⟩
 ·exact ⟨k,v,h1,.inl h2⟩
 ·exact ⟨k,v,h1,.inr h2⟩
theorem gm (hu:X.A.units+1 < cLine):u3 X (fun o i v H Q=>p4 o i v H Q\/p5 o i v H Q):=by
 intro pins s σ H o i v ov iv u Q I ro ri rv h
 rcases h with h | h
 ·exact sS pins s σ H o i v ov iv u Q I ro ri rv h
 ·exact sT hu pins s σ H o i v ov iv u Q I ro ri rv h
end
end L3
end
section
namespace L3
open PySem L2
section
open PySem.Spec PyProof.Rows HT
variable {prog:Program} {w:World} {A:Around} {E:Value->Shared->Prop} {s:Shared}
theorem gD {t sl:Addr} {items:Array Value} {vl vu:Value} {lo hi:Option Int} {Q:Value->Shared->Prop} (ht:IsTup s.heap t items) (hs:s.heap.IsSliceOf sl vl vu .none) (pl:IsPart vl lo) (pu:IsPart vu hi)
  (hw:sIx items.size 0 lo=0/\sIx items.size items.size hi=items.size) (h:Q (.ref t) s) (hsz:items.size<=sizeLine):wpAny (model prog w) A (getItem (.ref t) (.ref sl)) Q E s:=by
 obtain ⟨os,hos,hcs,hds⟩:=id hs
 have hTs:s.TypeIs (.ref sl) "slice":=⟨os,hos,hcs⟩
 unfold getItem
 try with_reducible refine zX ?_
 first | refine zV (zW ?_) | skip
 refine zV (wpAny_sequenceKey ht.typeIs (by decide) ?_)
 refine zV (wpAny_callSpecial?_slot (name:=Str.ofString "__getitem__") ht.typeIs PyProof.Rows.slot_tuple_getitem
  (wpAny_call_entry PyProof.Rows.slot_tuple_getitem ht.typeIs entry_tuple_getitem ?_ (args_tuple_getitem _ _)))
 show wpAny _ _ (Builtin.Tuple.tupleItemsOf (.ref t) >>= _) _ _ s
 refine zV (tupleItemsOf_ ht ?_)
 refine zV (wpAny_typeOf hTs ?_)
 rw [if_pos (by decide)]
 refine zV (eP hs pl pu ?_)
 show wpAny _ _ (if (((sIx items.size 0 lo:Nat):Int) == 0 && (1:Int) == 1 && (sIx items.size items.size hi - sIx items.size 0 lo) == items.size)=true then _ else _) _ _ s
 rw [if_pos (by simp [hw.1,hw.2])]
 refine zV ?_
 unfold Builtin.Tuple.tupleIsExact
 refine zV (wpAny_typeOf ht.typeIs ?_)
 refine zW ?_
 rw [if_pos (by decide)]
 exact zV (wpAny_rule (zW ⟨_,rfl,zW h⟩))
end
section
variable {K:FG} {G G0:Gm} {W W0:D->Sto->Prop} {H H':Hp} {σ:St} {ρ ρ':Sto} {T T':List It3} {g:Nat->Option It3} {x y z:It3} {α β:Type} {X:Cx} {L:List Addr}
noncomputable def tG (K:FG):V->Option Int->Option Int->Hp->VK->Prop:=fun x lo hi H Q=>∃ a xs,x=.ref a/\SqT K H a xs/\(HT.sIx xs.length 0 lo=0/\HT.sIx xs.length xs.length hi=xs.length)/\Q (.ref a) H
theorem vy:SlR X (tG X.K):=by
 intro pins s σ H x v vl vu lo hi sl Q I rx hs pl pu h
 obtain ⟨a,xs,rfl,hx,hw,q⟩:=h
 cases rx
 obtain ⟨its,r,ht,hz⟩:=I.tuple hx
 have hlen:its.toArray.size=xs.length:=by rw [Am];exact r.length.symm
 refine ⟨"tuple",_,PyProof.Rows.slot_tuple_getitem.lookup,ht.typeIs,?_⟩
 exact gD ht hs pl pu (by rw [hlen];exact hw) ⟨.ref a,H,I,rfl,q⟩ (by rw [hlen];exact hz)
noncomputable def asI:D->Option Int
 | .int i=>some i
 | _=>none
noncomputable def qd:M3 (Option Int):=bb none
noncomputable def nt (m:EM):M3 (Option Int):=ae m fun r=>ae (der r) fun d=>bh ((asI d).map some)
noncomputable def EndP (K:FG) (G:Gm) (W:D->Sto->Prop) (σ:St) (T:List It3) (ρ':Sto) (Q:Option Int->Hp->Prop):Except D (Option Int)->Prop
 | .ok b=>∀ H' g',Wf K G H' σ ρ' T g'->Q b H'
 | .error e=>W e ρ'
noncomputable def tP (K:FG) (G0:Gm) (W0:D->Sto->Prop) (m:M3 (Option Int)):TO:=fun σ H Q=>∃ G W,Le K G W G0 W0/\∃ ρ T g r ρ',Wf K G H σ ρ T g/\m ρ=some (r,ρ')/\EndP K G W σ T ρ' Q r
structure RP (X:Cx) (G0:Gm) (W0:D->Sto->Prop) (e:Option Expr) (m:M3 (Option Int)):Prop where
 h:PO X e (tP X.K G0 W0 m)
theorem PO.imp {e:Option Expr} {t t':TO} (h:PO X e t) (f:∀ σ H Q,t' σ H Q->t σ H Q):PO X e t':=fun pins s σ H Q I q=>h pins s σ H Q I (f σ H Q q)
theorem pW:RP X G0 W0 none qd:=⟨PO.imp wc fun σ H Q h=>by
 obtain ⟨G,W,le,ρ,T,g,r,ρ',w,e,q⟩:=h
 cases e
 exact q _ _ w⟩
theorem pV {e:Expr} {m:EM} (h:RE X G0 W0 e m):RP X G0 W0 (some e) (nt m):=⟨PO.imp (wb h.h) fun σ H Q h=>by
 obtain ⟨G,W,le,ρ,T,g,r,ρ',w,e,q⟩:=h
 have herr:∀ x,r=.error x->W x ρ':=fun x hx=>by subst hx;exact q
 refine tE.seq le w e herr fun ra ρ1 e1 v H1 ⟨Ts,g1,w1,a1⟩=>?_
 obtain ⟨d,d1,e2⟩:=aW e1
 obtain ⟨o,e3,rfl,rfl⟩:=bS e2
 obtain ⟨i,e4,e5⟩:=z5.mp e3
 subst e5
 obtain ⟨y,i1,f1,f2⟩:=a1.item w1 (fun x hx=>z6 _ hx) d1
 have rr:=(w1.itm i1).rep
 rw [f1] at rr
 have hd:d=.int i:=by cases d <;> cases e4;rfl
 rw [hd] at rr
 refine ⟨i,by rw [<- f2];exact rr.int_inv,q _ _ (w1.sub (Ag Ts T))⟩⟩
noncomputable def mSl (f:D->Option Int->Option Int->Option (D × Fl)) (ma:EM) (pl pu:M3 (Option Int)):EM:=ae ma fun ra=>ae pl fun lo=>ae pu fun hi=>ae (der ra) fun d=>bh ((f d lo hi).map fun p=>R3.val p.1 p.2)
noncomputable def SlD (K:FG) (r:V->Option Int->Option Int->Hp->VK->Prop) (f:D->Option Int->Option Int->Option (D × Fl)):Prop:=∀ (a:It3) (lo hi:Option Int) (H:Hp) (Q:VK) (p:D × Fl),Arg K H a->f a.d lo hi=some p ->
 (∀ w H',New K H H' (dz [a]) w->w.d=p.1->w.f=p.2->Q w.v H')->r a.v lo hi H Q
theorem tP.seq {ma:M3 (Option Int)} {k:Option Int->M3 β} {r:Except D β} {P:Option Int->Hp->Prop} (le:Le K G W G0 W0) (w:Wf K G H σ ρ T g) (e:ae ma k ρ=some (r,ρ')) (he:∀ x,r=.error x->W x ρ')
  (h:∀ b ρ1,k b ρ1=some (r,ρ')->∀ H1 g1,Wf K G H1 σ ρ1 T g1->P b H1):tP K G0 W0 ma σ H P:=by
 unfold ae at e
 cases q:ma ρ with
 | none=>rw [q] at e;exact nsE e
 | some p =>
  obtain ⟨o,ρ1⟩:=p
  rw [q] at e
  cases o with
  | error x=>cases e;exact ⟨G,W,le,ρ,T,g,.error x,ρ',w,q,he x rfl⟩
  | ok ra=>exact ⟨G,W,le,ρ,T,g,.ok ra,ρ1,w,q,h ra ρ1 e⟩
theorem tE_sl {r:V->Option Int->Option Int->Hp->VK->Prop} {f:D->Option Int->Option Int->Option (D × Fl)} {ma:EM} {pl pu:M3 (Option Int)} {Q:VK} (hd:SlD K r f) (h:tE K G0 W0 (mSl f ma pl pu) σ H Q):tSl r (tE K G0 W0 ma) (tP K G0 W0 pl) (tP K G0 W0 pu) σ H Q:=by
 refine h.use fun G W le ρ T g o ρ' w e q=>?_
 refine tE.seq le w e q.err fun ra ρ1 e1 va H1 ⟨Ts,g1,w1,a1⟩=>?_
 refine tP.seq le w1 e1 q.err fun lo ρ2 e2 H2 g2 w2=>?_
 refine tP.seq le w2 e2 q.err fun hi ρ3 e3 H3 g3 w3=>?_
 obtain ⟨d,d1,e4⟩:=aW e3
 obtain ⟨p,e5,rfl,rfl⟩:=bS e4
 obtain ⟨y,i1,f1,f2⟩:=a1.item w3 (fun x hx=>z6 _ hx) d1
 subst f1 f2
 cases ef:f y.d lo hi with
 | none=>rw [ef] at e5;exact nsE e5
 | some s =>
  rw [ef] at e5
  cases e5
  exact hd y lo hi H3 Q s (w3.itm i1).arg ef (og w3 (fun z hz=>by rw [Az.mp hz];exact i1) q)
theorem Reps.take:∀ {ds:List D} {vs:List V} {L:List Addr} (n:Nat),Reps (Rep K H) ds vs L->∃ L',Reps (Rep K H) (ds.take n) (vs.take n) L'/\∀ c ∈ L',c ∈ L
 | _,_,_,0,_=>⟨[],by simpa using Reps.nil,fun c hc=>by cases hc⟩
 | _,_,_,n+1,.nil=>⟨[],by simpa using Reps.nil,fun c hc=>by cases hc⟩
 | _,_,_,n+1,.cons (L:=L1) r rs=>by
  obtain ⟨L',h1,h2⟩:=Reps.take n rs
  exact ⟨L1 ++ L',by simpa using Reps.cons r h1,fun c hc=>by
   rcases Ab.mp hc with h | h
   ·exact z6 _ h
   ·exact z7 _ (h2 c h)⟩
theorem Reps.drop:∀ {ds:List D} {vs:List V} {L:List Addr} (n:Nat),Reps (Rep K H) ds vs L->∃ L',Reps (Rep K H) (ds.drop n) (vs.drop n) L'/\∀ c ∈ L',c ∈ L
 | _,_,L,0,r=>⟨L,by simpa using r,fun c hc=>hc⟩
 | _,_,_,n+1,.nil=>⟨[],by simpa using Reps.nil,fun c hc=>by cases hc⟩
 | _,_,_,n+1,.cons r rs=>by
  obtain ⟨L',h1,h2⟩:=Reps.drop n rs
  exact ⟨L',by simpa using h1,fun c hc=>z7 _ (h2 c hc)⟩
theorem Reps.cut {ds:List D} {vs:List V} (lo hi:Option Int) (r:Reps (Rep K H) ds vs L):∃ L',Reps (Rep K H) (mw ds lo hi) (ol vs lo hi) L'/\∀ c ∈ L',c ∈ L:=by
 unfold mw ol
 rw [<- r.len]
 obtain ⟨L1,h1,h2⟩:=r.drop (HT.sIx ds.length 0 lo)
 obtain ⟨L2,h3,h4⟩:=h1.take (HT.sIx ds.length ds.length hi - HT.sIx ds.length 0 lo)
 exact ⟨L2,h3,fun c hc=>h2 c (h4 c hc)⟩
noncomputable def slD:D->Option Int->Option Int->Option (D × Fl)
 | .lst xs,lo,hi=>some (.lst (mw xs lo hi),.u)
 | .fls xs,lo,hi=>some (.lst (mw xs lo hi),.u)
 | .tup xs,lo,hi=>some (.tup (mw xs lo hi),.z)
 | _,_,_=>none
theorem sd_sl:SlD K (fun x lo hi H Q=>yG K x lo hi H Q\/(yF K x lo hi H Q\/tG K x lo hi H Q)) slD:=fun a lo hi H Q p ra e q=>by
 obtain ⟨da,va,La,fa⟩:=a
 have ra0:=ra
 obtain ⟨ra,oa⟩:=ra
 dsimp only at ra e
 cases da with
 | lst xs =>
  obtain ⟨pa,vs,L0,rfl,rfl,ha,rs⟩:=ra.view
  cases e
  obtain ⟨L',h1,h2⟩:=rs.cut lo hi
  exact .inl ⟨pa,vs,rfl,SqL.of ha,fun p hp=>q ⟨_,.ref p,p :: L',.u⟩ _ (zm hp h1 fun c hc=>pv (y:=⟨.lst xs,.ref pa,pa :: L0,fa⟩) zY ra0 rfl rfl c (h2 c hc)) rfl rfl⟩
 | fls xs =>
  obtain ⟨pa,vs,rfl,ha,rs⟩:=ra.view
  cases e
  obtain ⟨L',h1,h2⟩:=rs.cut lo hi
  exact .inl ⟨pa,vs,rfl,ha.sq,fun p hp=>q ⟨_,.ref p,p :: L',.u⟩ _ (zm hp h1 fun c hc=>jr (y:=⟨.fls xs,.ref pa,La,fa⟩) zY ra0 rfl c (h2 c hc)) rfl rfl⟩
 | tup xs =>
  obtain ⟨pa,vs,rfl,ha,rs⟩:=ra.view
  cases e
  by_cases hw:HT.sIx vs.length 0 lo=0/\HT.sIx vs.length vs.length hi=vs.length
  ·have hc:mw xs lo hi=xs:=by
    unfold mw
    rw [rs.len,hw.1,hw.2,<- rs.len]
    simp
   rw [hc] at q
   exact .inr (.inr ⟨pa,vs,rfl,SqT.of ha,hw,q ⟨.tup xs,.ref pa,La,.z⟩ H (nC (.tup ha rs) (jr (y:=⟨.tup xs,.ref pa,La,fa⟩) zY ra0 rfl)) rfl rfl⟩)
  ·obtain ⟨L',h1,h2⟩:=rs.cut lo hi
   exact .inr (.inl ⟨pa,vs,rfl,SqT.of ha,hw,fun p hp=>q ⟨_,.ref p,L',.z⟩ _ (wB hp h1 fun c hc=>jr (y:=⟨.tup xs,.ref pa,La,fa⟩) zY ra0 rfl c (h2 c hc)) rfl rfl⟩)
 | _=>exact nsE e
theorem yt:SlR X (fun x lo hi H Q=>yG X.K x lo hi H Q\/(yF X.K x lo hi H Q\/tG X.K x lo hi H Q)):=sl_list.or (sl_tup.or vy)
theorem m8 {e:Expr} {lo hi:Option Expr} {p2 pos:Pos} {m:EM} {pl pu:M3 (Option Int)} (he:RE X G0 W0 e m) (hl:RP X G0 W0 lo pl) (hu:RP X G0 W0 hi pu):RE X G0 W0 (.Subscript e (.Slice lo hi none p2) pos) (mSl slD m pl pu):=⟨PE.imp (tV yt he.h hl.h hu.h) fun _ _ _ h=>tE_sl sd_sl h⟩
end
end L3
end
section
namespace L3
open PySem L2
mutual
noncomputable def pyD:D->Option PyData
 | .non=>some .none
 | .bl b=>some (.bool b)
 | .int i=>some (.int i)
 | .str x=>some (.str x)
 | .tup xs=>(nh xs).map .tuple
 | .lst xs=>(nh xs).map .list
 | .fls xs=>(nh xs).map .list
 | .dk _=>none
 | .dt _=>none
 | .exc _ _=>none
noncomputable def nh:List D->Option (List PyData)
 | []=>some []
 | d :: ds=>match pyD d,nh ds with
  | some p,some ps=>some (p :: ps)
  | _,_=>none
end
section
variable {K:FG} {H:Hp} {Ks:Addr->Prop} {d:D} {v:V} {L:List Addr} {X:Cx}
set_option tactic.hygienic true in
theorem Rep.dv (r:Rep K H d v L):∀ p,pyD d=some p->DV K H v p:=by
 refine Rep.rec (motive_1:=fun d v _ _=>∀ p,pyD d=some p->DV K H v p) (motive_2:=fun ds vs _ _=>∀ ps,nh ds=some ps->DVs K H vs ps) ?_ ?_ ?_ ?_ ?_ ?_ ?_ ?_ ?_ ?_ ?_ ?_ r
 ·intro p e;unfold pyD at e;cases e;exact .non
 ·intro _ p e;unfold pyD at e;cases e;exact .bl _
 ·intro _ p e;unfold pyD at e;cases e;exact .int _
 ·intro _ p e;unfold pyD at e;cases e;exact .str _
 ·intro xs a vs L h _ ih p e
  unfold pyD at e
  obtain ⟨ps,e1,rfl⟩:=z5.mp e
  exact .tup (SqT.of h) (ih ps e1)
 ·intro xs a vs L h _ ih p e
  unfold pyD at e
  obtain ⟨ps,e1,rfl⟩:=z5.mp e
  exact .lst (SqL.of h) (ih ps e1)
 ·intro xs a vs L h _ ih p e
  unfold pyD at e
  obtain ⟨ps,e1,rfl⟩:=z5.mp e
  exact .lst h.sq (ih ps e1)
 ·intro _ _ _ _ _ _ _ _ p e;unfold pyD at e;exact nsE e
 ·intro _ _ _ _ _ _ _ _ p e;unfold pyD at e;exact nsE e
 ·intros;rename_i e;unfold pyD at e;exact nsE e
 ·intro ps e;unfold nh at e;cases e;exact .nil
 ·intro d v L ds vs L' _ _ i1 i2 ps e
  unfold nh at e
  cases h1:pyD d with
  | none=>rw [h1] at e;exact nsE e
  | some p =>
   cases h2:nh ds with
   | none=>rw [h1,h2] at e;exact nsE e
   | some qs=>rw [h1,h2] at e;cases e;exact .cons (i1 p h1) (i2 qs h2)
noncomputable def eqP (a b:D):Option Bool:=match pyD a,pyD b with
 | some p,some q=>if p.canLay0 && q.canLay0 && decide (min p.depth q.depth<=30) then some (PyData.eqv p q) else none
 | _,_=>none
noncomputable def eqA (a b:D):Option Bool:=match eqS a b with
 | some k=>some k
 | none=>eqP a b
noncomputable abbrev eqX (a b:D):Option (D × Fl):=(eqA a b).map fun k=>(.bl k,.z)
noncomputable abbrev neX (a b:D):Option (D × Fl):=(eqA a b).map fun k=>(.bl (!k),.z)
noncomputable def rEqP:R2:=fun x y H Q=>∃ p q,DV X.K H x p/\DV X.K H y q/\p.canLay0=true/\q.canLay0=true/\min p.depth q.depth<=30/\Q (.bl (PyData.eqv p q)) H
noncomputable def rNeP:R2:=fun x y H Q=>∃ p q,DV X.K H x p/\DV X.K H y q/\p.canLay0=true/\q.canLay0=true/\min p.depth q.depth<=30/\Q (.bl (!PyData.eqv p q)) H
theorem cZ (hu:X.A.units+64 < cLine):OpR X (compareOp .Eq) (fun x y H Q=>rEq x y H Q\/rEqP (X:=X) x y H Q):=by
 intro pins s σ H x y v u Q I rx ry h
 rcases h with h | ⟨p,q,h1,h2,h3,h4,h5,hq⟩
 ·exact op_eq pins s σ H x y v u Q I rx ry h
 ·obtain ⟨as,ra⟩:=DV.reads I h1 rx
  obtain ⟨bs,rb⟩:=DV.reads I h2 ry
  exact PySem.SeqAt.compareEq_reads ra rb h3 h4 (by omega) ⟨.bl _,H,I,rfl,hq⟩
theorem zb (hu:X.A.units+64 < cLine):OpR X (compareOp .NotEq) (fun x y H Q=>rNe x y H Q\/rNeP (X:=X) x y H Q):=by
 intro pins s σ H x y v u Q I rx ry h
 rcases h with h | ⟨p,q,h1,h2,h3,h4,h5,hq⟩
 ·exact op_ne pins s σ H x y v u Q I rx ry h
 ·obtain ⟨as,ra⟩:=DV.reads I h1 rx
  obtain ⟨bs,rb⟩:=DV.reads I h2 ry
  exact PySem.SeqAt.compareNe_reads ra rb h3 h4 (by omega) ⟨.bl _,H,I,rfl,hq⟩
set_option tactic.hygienic true in
theorem qA {a b:D} {k:Bool} (e:eqP a b=some k):∃ p q,pyD a=some p/\pyD b=some q/\p.canLay0=true/\q.canLay0=true/\min p.depth q.depth<=30/\k=PyData.eqv p q:=by
 unfold eqP at e
 cases h1:pyD a with
 | none=>rw [h1] at e;exact nsE e
 | some p =>
  cases h2:pyD b with
  | none=>rw [h1,h2] at e;exact nsE e
  | some q =>
   rw [h1,h2] at e
   dsimp only at e
   split at e
   ·rename_i h
    cases e
    simp only [Bool.and_eq_true,decide_eq_true_eq] at h
    exact ⟨p,q,rfl,rfl,h.1.1,h.1.2,h.2,rfl⟩
   ·exact nsE e
theorem c3:OpD X.K (fun x y H Q=>rEq x y H Q\/rEqP (X:=X) x y H Q) eqX:=fun a b H Q p ra rb e q=>by
 obtain ⟨k,h1,h2⟩:=z5.mp e
 subst h2
 unfold eqA at h1
 cases hs:eqS a.d b.d with
 | some k' =>
  rw [hs] at h1
  cases h1
  obtain ⟨s,hk⟩:=uG ra.rep rb.rep hs
  exact .inl ⟨s,by rw [<- hk];exact q ⟨.bl k,.bl k,[],.z⟩ H (dH (.bl k)) rfl rfl⟩
 | none =>
  rw [hs] at h1
  obtain ⟨p,p',e1,e2,e3,e4,e5,rfl⟩:=qA h1
  exact .inr ⟨p,p',ra.rep.dv p e1,rb.rep.dv p' e2,e3,e4,e5,q ⟨.bl _,.bl _,[],.z⟩ H (dH (.bl _)) rfl rfl⟩
theorem zg:OpD X.K (fun x y H Q=>rNe x y H Q\/rNeP (X:=X) x y H Q) neX:=fun a b H Q p ra rb e q=>by
 obtain ⟨k,h1,h2⟩:=z5.mp e
 subst h2
 unfold eqA at h1
 cases hs:eqS a.d b.d with
 | some k' =>
  rw [hs] at h1
  cases h1
  obtain ⟨s,hk⟩:=uG ra.rep rb.rep hs
  exact .inl ⟨s,by rw [<- hk];exact q ⟨.bl (!k),.bl (!k),[],.z⟩ H (dH (.bl _)) rfl rfl⟩
 | none =>
  rw [hs] at h1
  obtain ⟨p,p',e1,e2,e3,e4,e5,rfl⟩:=qA h1
  exact .inr ⟨p,p',ra.rep.dv p e1,rb.rep.dv p' e2,e3,e4,e5,q ⟨.bl _,.bl _,[],.z⟩ H (dH (.bl _)) rfl rfl⟩
end
end L3
end
section
namespace L3
open PySem L2
set_option tactic.hygienic true in
theorem zG {P:Program} {w:World} {K:FG} {mg:Str->Option Value} {base:Heap} {x:Str} {st:Stmt} {k:Nat} {N ps:List Str} {mask:List Bool} {m:SM} {nn:Nat} {f:Addr} {fd:FuncData} (F:Fun K x x st f fd) (S:FnScope N ps (ai st)) (hml:mask.length=ps.length) (hnn:N.length=nn)
  (body:∀ (cdv:Value) (A:Around) (outer:List Env) (s:Shared) (H:Hp) (E:XK) (f:Addr) (G:Gm),Room k (A.deeper (PyProof.Rows.envOfC x (ai st) s.heap.objs.size f cdv))->G.pr=prM mask->RSs (oj CX0 P w K mg base N x (ai st) f cdv A outer s H E).nox G noX (aU st) m) :
  FnOk P w K mg base CX0 (k+1) f fd ps (qV K (fnM mask nn m)):=by
 refine F.ok S (fun vs H Q E h=>?_) fun cdv A outer s H vs Q E hr h=>?_
 ·obtain ⟨ps',p,fs,rfl,_,_,hF,_⟩:=h
  unfold fnM at hF
  rw [Ad] at hF ⊢
  split at hF
  ·rename_i e;rw [e,hml]
  ·exact nsE hF
 ·have hle:mask.length<=nn:=by
   rw [hml,<- hnn]
   have:=congrArg List.length S.pre
   rw [Aw] at this
   omega
  obtain ⟨G,hG,ht⟩:=qz hle h
  subst hnn
  exact ⟨_,(body cdv A outer s H E f G hr hG).h,ht⟩
noncomputable def sR (K:FG):Sp:=fun vs H Q _=>∃ (a:Addr) (ns:List Int),vs=[.ref a]/\SqL K H a (ns.map V.int)/\xq H/\ns.length<=63/\∀ H',Q (.bl true) H'
theorem ls {K:FG} {H:Hp}:∀ ns:List Int,Reps (Rep K H) (ns.map D.int) (ns.map V.int) []
 | []=>.nil
 | n :: ns=>.cons (L:=[]) (.int n) (ls ns)
theorem wS {K:FG} {F:Fn} (hF:∀ ns:List Int,ns.length<=63->∃ fs,F [(.fls (ns.map .int),.z)]=some (.ok (.bl true,.z),fs)) {vs:List V} {H:Hp} {Q:VK} {E:XK} (h:sR K vs H Q E):qV K F vs H Q E:=by
 obtain ⟨a,ns,rfl,hS,hO,hn,q⟩:=h
 obtain ⟨fs,e⟩:=hF ns hn
 have fz:FzL K H a (ns.map V.int):=by
  rcases hS with (h | h) | h
  ·rcases hO a with z | ⟨o,xs,z⟩
   ·rw [h] at z;cases z
   ·rw [h] at z;cases z
  ·exact .inl h
  ·exact .inr h
 refine ⟨[⟨.fls (ns.map .int),.ref a,[],.z⟩],(.bl true,.z),fs,rfl,fun p hp=>?_,.cons (fun _ h=>by cases h) .nil,e,fun x qs H' B x1 x2 _=>?_⟩
 ·rw [Az.mp hp]
  exact ⟨.lstF fz (ls ns),fun h=>absurd rfl h⟩
 ·have r:=B.rep
  rw [x1] at r
  have inv:∀ {v:V} {L:List Addr},Rep K H' (.bl true) v L->v=.bl true:=fun r=>by cases r;rfl
  rw [inv r]
  exact q H'
end L3
end
section
namespace L3
open PySem L2
section
variable {K:FG} {G G0:Gm} {W W0:D->Sto->Prop} {H H':Hp} {σ:St} {ρ ρ':Sto} {T T':List It3} {g:Nat->Option It3} {x y z:It3} {α β:Type} {X:Cx} {v:V} {d:D} {L:List Addr}
noncomputable def cj:List D->Option (List Int)
 | []=>some []
 | .int i :: ds=>(cj ds).map (i :: ·)
 | _=>none
set_option tactic.hygienic true in
theorem gw:∀ {ds:List D} {ns:List Int},cj ds=some ns->ds=ns.map D.int
 | [],ns,e=>by cases e;rfl
 | d :: ds,ns,e=>by
  cases d <;> try (exact nsE e)
  rename_i b
  obtain ⟨r,h1,h2⟩:=z5.mp (show (cj ds).map (b :: ·)=some ns from e)
  subst h2
  rw [gw h1];rfl
theorem Reps.ints:∀ {ns:List Int} {vs:List V} {L:List Addr},Reps (Rep K H) (ns.map D.int) vs L->vs=ns.map V.int
 | [],_,_,.nil=>rfl
 | b :: bs,_,_,.cons r rs=>by
  rw [Reps.ints rs]
  cases r;rfl
noncomputable def pq:List Int->Option Int
 | []=>none
 | x :: xs=>some (xs.foldl (fun a b=>if b < a then b else a) x)
noncomputable def ig:List Int->Option Int
 | []=>none
 | x :: xs=>some (xs.foldl (fun a b=>if a < b then b else a) x)
theorem gh:∀ (xs:List Int) (x:Int),(xs.foldl (fun a b=>if b < a then b else a) x) ∈ x :: xs/\∀ n ∈ x :: xs,(xs.foldl (fun a b=>if b < a then b else a) x)<=n
 | [],x=>⟨zY,fun n h=>by simp at h;subst h;exact Int.le_refl _⟩
 | y :: xs,x=>by
  obtain ⟨h1,h2⟩:=gh xs (if y < x then y else x)
  rw [List.foldl_cons]
  refine ⟨?_,fun n hn=>?_⟩
  ·rcases z8.mp h1 with h | h
   ·rw [h];split <;> simp
   ·exact zZ _ (zZ _ h)
  ·have h3:=h2 _ zY
   have h4:(if y < x then y else x)<=x/\(if y < x then y else x)<=y:=by split <;> omega
   rcases z8.mp hn with h | hn
   ·subst h;exact Int.le_trans h3 h4.1
   ·rcases z8.mp hn with h | hn
    ·subst h;exact Int.le_trans h3 h4.2
    ·exact h2 n (zZ _ hn)
theorem fy:∀ (xs:List Int) (x:Int),(xs.foldl (fun a b=>if a < b then b else a) x) ∈ x :: xs/\∀ n ∈ x :: xs,n<=(xs.foldl (fun a b=>if a < b then b else a) x)
 | [],x=>⟨zY,fun n h=>by simp at h;subst h;exact Int.le_refl _⟩
 | y :: xs,x=>by
  obtain ⟨h1,h2⟩:=fy xs (if x < y then y else x)
  rw [List.foldl_cons]
  refine ⟨?_,fun n hn=>?_⟩
  ·rcases z8.mp h1 with h | h
   ·rw [h];split <;> simp
   ·exact zZ _ (zZ _ h)
  ·have h3:=h2 _ zY
   have h4:x<=(if x < y then y else x)/\y<=(if x < y then y else x):=by split <;> omega
   rcases z8.mp hn with h | hn
   ·subst h;exact Int.le_trans h4.1 h3
   ·rcases z8.mp hn with h | hn
    ·subst h;exact Int.le_trans h4.2 h3
    ·exact h2 n (zZ _ hn)
theorem rQ {ns:List Int} {m:Int} (h:pq ns=some m):ns ≠ []/\∀ k,k ∈ ns->(∀ n ∈ ns,k<=n)->k=m:=by
 cases ns with
 | nil=>exact nsE h
 | cons x xs =>
  cases h
  obtain ⟨h1,h2⟩:=gh xs x
  refine ⟨by simp,fun k hk hm=>?_⟩
  have a:=hm _ h1
  have b:=h2 k hk
  omega
theorem nD {ns:List Int} {m:Int} (h:ig ns=some m):ns ≠ []/\∀ k,k ∈ ns->(∀ n ∈ ns,n<=k)->k=m:=by
 cases ns with
 | nil=>exact nsE h
 | cons x xs =>
  cases h
  obtain ⟨h1,h2⟩:=fy xs x
  refine ⟨by simp,fun k hk hm=>?_⟩
  have a:=hm _ h1
  have b:=h2 k hk
  omega
noncomputable def redQ (g:List Int->Option Int):D->Option (D × Fl)
 | .lst xs=>(cj xs).bind fun ns=>(g ns).map fun m=>(.int m,.z)
 | .tup xs=>(cj xs).bind fun ns=>(g ns).map fun m=>(.int m,.z)
 | _=>none
noncomputable abbrev ql:=c1 (redQ pq)
noncomputable def yH (K:FG) (P:List Int->Int->Prop):List V->Hp->VK->Prop:=fun xs H Q=>(∃ (l:Addr) (ns:List Int),xs=[.ref l]/\SqL K H l (ns.map V.int)/\ns ≠ []/\∀ m,m ∈ ns->P ns m->Q (.int m) H)\/(∃ (l:Addr) (ns:List Int),xs=[.ref l]/\SqT K H l (ns.map V.int)/\ns ≠ []/\∀ m,m ∈ ns->P ns m->Q (.int m) H)
set_option tactic.hygienic true in
theorem zN {g:List Int->Option Int} {P:List Int->Int->Prop} (hg:∀ ns m,g ns=some m->ns ≠ []/\∀ k,k ∈ ns->P ns k->k=m):ff K (yH K P) (c1 (redQ g)):=fun ys H Q p ra e q=>by
 obtain ⟨y,rfl,e2⟩:=i5 e
 clear e
 have e:=e2
 clear e2
 have rr:=(ra y zY).rep
 obtain ⟨da,va,La,fa⟩:=y
 dsimp only at rr e
 have key:∀ {xs:List D} {vs:List V} {L:List Addr},Reps (Rep K H) xs vs L->((cj xs).bind fun ns=>(g ns).map fun m=>((.int m,.z):D × Fl))=some p->∃ ns m,vs=ns.map V.int/\g ns=some m/\p=(.int m,.z):=fun {xs vs L} rs e=>by
  obtain ⟨ns,h1,h2⟩:=Ay.mp e
  obtain ⟨m,h3,h4⟩:=z5.mp h2
  have:=gw h1
  subst this
  exact ⟨ns,m,rs.ints,h3,h4.symm⟩
 cases da <;> try (exact nsE e)
 ·rename_i xs
  obtain ⟨pa,vs,rfl,ha,rs⟩:=rr.view
  obtain ⟨ns,m,rfl,h1,rfl⟩:=key rs e
  obtain ⟨h2,h3⟩:=hg ns m h1
  exact .inr ⟨pa,ns,rfl,SqT.of ha,h2,fun k hk hp=>by rw [h3 k hk hp];exact q ⟨_,_,[],.z⟩ H (dH (.int _)) rfl rfl⟩
 ·rename_i xs
  obtain ⟨pa,vs,La,rfl,rfl,ha,rs⟩:=rr.view
  obtain ⟨ns,m,rfl,h1,rfl⟩:=key rs e
  obtain ⟨h2,h3⟩:=hg ns m h1
  exact .inl ⟨pa,ns,rfl,SqL.of ha,h2,fun k hk hp=>by rw [h3 k hk hp];exact q ⟨_,_,[],.z⟩ H (dH (.int _)) rfl rfl⟩
theorem xc:ff K (yH K fun ns m=>∀ n ∈ ns,m<=n) ql:=zN (P:=fun ns m=>∀ n ∈ ns,m<=n) fun _ _=>rQ
theorem sj (hc:X.calm=true):CallR X (.builtin "min") (yH X.K fun ns m=>∀ n ∈ ns,m<=n):=(si hc).or (sg hc)
end
end L3
end
section
namespace L3
open PySem L2
end L3
end
section
namespace L3
open PySem L2
section
variable {K:FG} {G G0:Gm} {W W0:D->Sto->Prop} {H H':Hp} {σ:St} {ρ ρ':Sto} {T T':List It3} {g:Nat->Option It3} {x y z:It3} {α β:Type} {X:Cx} {v:V} {d:D} {L:List Addr}
noncomputable def xB (g:List Int->Option Int):D->D->Option (D × Fl)
 | .lst xs,.non=>(cj xs).map fun ns=>match g ns with
  | some m=>(.int m,.z)
  | none=>(.non,.z)
 | .lst xs,.int k=>(cj xs).map fun ns=>match g ns with
  | some m=>(.int m,.z)
  | none=>(.int k,.z)
 | _,_=>none
noncomputable abbrev rG:=xB ig
theorem ww {g:List Int->Option Int} {P:List Int->Int->Prop} (hg:∀ ns m,g ns=some m->ns ≠ []/\∀ k,k ∈ ns->P ns k->k=m) (h0:∀ ns,g ns=none->ns=[]):OpD K (fun x d H Q=>p6 K P x d H Q) (xB g):=fun a b H Q p ra rb e q=>by
 obtain ⟨da,va,La,fa⟩:=a
 obtain ⟨db,vb,Lb,fb⟩:=b
 obtain ⟨ra,oa⟩:=ra
 obtain ⟨rb,ob⟩:=rb
 dsimp only at ra rb e
 cases da with
 | lst xs =>
  obtain ⟨pa,vs,La,rfl,rfl,ha,rs⟩:=ra.view
  have key:∀ (dd:D) (dv:V),Rep K H dd dv []->((cj xs).map fun ns=>match g ns with | some m=>((.int m,.z):D × Fl) | none=>(dd,.z))=some p->p6 K P (.ref pa) dv H Q:=fun dd dv rd e=>by
   obtain ⟨ns,h1,h2⟩:=z5.mp e
   have:=gw h1
   subst this
   have:=rs.ints
   subst this
   refine ⟨pa,ns,rfl,SqL.of ha,fun hn=>?_,fun m hm hp=>?_⟩
   ·cases hgn:g ns with
    | some m=>exact absurd hn (hg ns m hgn).1
    | none =>
     rw [hgn] at h2
     subst h2
     exact q ⟨dd,dv,[],.z⟩ H (dH rd) rfl rfl
   ·cases hgn:g ns with
    | none=>rw [h0 ns hgn] at hm;cases hm
    | some m' =>
     rw [hgn] at h2
     subst h2
     rw [(hg ns m' hgn).2 m hm hp]
     exact q ⟨.int m',.int m',[],.z⟩ H (dH (.int _)) rfl rfl
  cases db with
  | non =>
   obtain ⟨rfl,rfl⟩:=rb.view
   exact key .non .non .non e
  | int k =>
   obtain ⟨rfl,rfl⟩:=rb.view
   exact key (.int k) (.int k) (.int k) e
  | _=>exact nsE e
 | _=>first | exact nsE e | (cases db <;> exact nsE e)
theorem qh:OpD K (fun x d H Q=>p6 K (fun ns m=>∀ n ∈ ns,n<=m) x d H Q) rG:=ww (fun _ _=>nD) fun ns h=>by cases ns with | nil=>rfl | cons=>cases h
theorem tD {id:String} {nm:Str} {e d:Expr} {ma mb:EM} {p pos kpos:Pos} {r:V->V->Hp->VK->Prop} {f:D->D->Option (D × Fl)} (hrun:∀ {pins:List (Addr × Obj)} {s:Shared} {σ:St} {H:Hp} {x d:V} {u ud:Value} {Q:VK},Inv X pins σ H s->RelV x u->RelV d ud->r x d H Q->wpAny (model X.prog X.w) X.A (call (.builtin id) [u] [("default",ud)]) (EP X pins σ Q) X.xe s) (ho:OpD X.K (fun x d H Q=>r x d H Q) f)
  (hg:Gl X nm) (hm:X.mg nm=none) (hv:bootBuiltins nm=some (.builtin id)) (he:RE X G0 W0 e ma) (hd:RE X G0 W0 d mb) (hn:nm ≠ "__name__") (hdb:(nm == ("__debug__":Str))=false)
  (hs:backTo pos (starEach [e] X.env)=(false,eval e X.env) :: backTo pos (starEach [] X.env)) (hs0:backTo pos (starEach [] X.env)=[]) (hplain:(backTo pos (starEach [e] X.env)).any (·.1)=false)
  (hall:(backToKw pos (keywordEach [⟨some "default",d,kpos⟩] X.env)).all (·.1.isSome)=true) (hkw:(backToKw pos (keywordEach [⟨some "default",d,kpos⟩] X.env)).any (·.1.isNone)=false) (hks:(backToKw pos (keywordEach [⟨some "default",d,kpos⟩] X.env)).filterMap (·.1)=(["default"]:List Str)) :
  RE X G0 W0 (.Call (.Name nm p) [e] [⟨some "default",d,kpos⟩] pos) (ah f ma mb):=⟨PE.imp (y6 hrun hg hm hv he.h hd.h hn hdb hs hs0 hplain hall hkw hks) fun _ _ _ h=>jM ho h⟩
theorem Reps.rep {ds:List D} {vs:List V} {L:List Addr} (r:Reps (Rep K H) ds vs L):∀ n:Nat,∃ L',Reps (Rep K H) (List.replicate n ds).flatten (List.replicate n vs).flatten L'/\∀ c ∈ L',c ∈ L
 | 0=>⟨[],.nil,fun _ h=>by cases h⟩
 | n+1=>by
  obtain ⟨L',h1,h2⟩:=Reps.rep r n
  refine ⟨L ++ L',?_,fun c hc=>?_⟩
  ·rw [List.replicate_succ,List.replicate_succ,List.flatten_cons,List.flatten_cons];exact r.append h1
  ·rcases Ab.mp hc with h | h
   ·exact h
   ·exact h2 c h
noncomputable def u6 (i j:Int):Prop:=0 < j/\j < 1267650600228229401496703205376
theorem t3:OpR X (binaryOp .FloorDiv) (rI u6 fun i j=>.int (i / j)):=opI fun i j _ _ _ _ _ hc q=>by
 have h1:(0:Int) < j:=hc.1
 have h2:j < 1267650600228229401496703205376:=hc.2
 refine PyProof.Rows.floordiv_int (by omega) (by rw [Int.fdiv_eq_ediv_of_nonneg i (by omega)];exact q) (.inl (PyProof.noPylong_of_log2 ?_))
 have h3:j.natAbs < 2 ^ 100:=by omega
 exact Nat.lt_trans ((Nat.log2_lt (by omega)).mpr h3) (by decide)
noncomputable abbrev zL:=eL (fun _ j=>decide (0 < j/\j < 1267650600228229401496703205376)) fun i j=>.int (i / j)
theorem wz:OpD K (rI u6 fun i j=>.int (i / j)) zL:=iu (fun i j h=>by simpa [u6] using h) fun i j _=>.int _
end
end L3
end
section
namespace L3
open PySem L2
section
variable {K:FG} {G G0:Gm} {W W0:D->Sto->Prop} {H H':Hp} {σ:St} {ρ ρ':Sto} {T T':List It3} {g:Nat->Option It3} {x y z:It3} {α β:Type} {X:Cx} {v:V} {d:D} {L:List Addr}
noncomputable def sV (i j:Nat) (ms:M3 (List R3)):SM:=ae ms fun rs=>ae (gives rs) fun ds=>fun ρ=>match ds with
 | [a,b]=>if i < ρ.length/\j < ρ.length then some (.ok .nx,(ρ.set i (some (a,.z))).set j (some (b,.z))) else none
 | _=>none
theorem Wf.again {y:It3} (w:Wf K G H σ ρ T g) (hy:Itm T g y) (hz:y.f=.z):Wf K G H σ ρ (y :: T) g :=
 w.push (Ks:=dz [y]) ⟨Same.refl _,(w.itm hy).rep,fun c hc=>.inr ⟨y,zY,hc,fun h=>absurd hz h⟩,fun h=>absurd hz h⟩ fun c h=>w.kids (fun u hu=>by rw [Az.mp hu];exact hy) h
set_option tactic.hygienic true in
theorem x6 {i j:Nat} {ms:M3 (List R3)} {E:Ends} (hi:G0.pr i=false) (hj:G0.pr j=false) (h:tS K G0 W0 (sV i j ms) E σ H):tPar i j (tA K G0 W0 ms) E σ H:=by
 refine h.use fun G W le ρ T g r ρ' w e q=>?_
 refine tA.seq le w e q.err fun rs ρ1 e1 vs H1 Ts g1 w1 a1=>?_
 obtain ⟨ds,ρ2,g2,e2,_,w2,_,ys,hy,f1,f2⟩:=a1.gives w1 e1
 match ds,e2,ys,f1,hy,f2 with
 | [],e2,_,_,_,_=>exact nsE e2
 | [_],e2,_,_,_,_=>exact nsE e2
 | _ :: _ :: _ :: _,e2,_,_,_,_=>exact nsE e2
 | [a,b],e2,[],f1,_,_=>cases f1
 | [a,b],e2,[_],f1,_,_=>cases f1
 | [a,b],e2,_ :: _ :: _ :: _,f1,_,_=>cases f1
 | [a,b],e2,[y1,y2],f1,hy,f2 =>
  have e2:(if i < ρ2.length/\j < ρ2.length then some (Except.ok Flw.nx,(ρ2.set i (some (a,Fl.z))).set j (some (b,Fl.z))) else none)=some (r,ρ'):=e2
  split at e2
  ·rename_i hl
   cases e2
   obtain ⟨i1,z1⟩:=hy y1 zY
   obtain ⟨i2,z2⟩:=hy y2 (zZ _ zY)
   have w3:=w2.again i2 z2
   have i1':Itm (y2 :: (Ts.map c5 ++ T)) g2 y1:=i1.imp id fun h=>zZ _ h
   have w4:=w3.again i1' z1
   have w5:=w4.store (f:=.z) hl.1 (by rw [le.pr];exact hi) (.inr rfl) (by intro h;cases h)
   have w6:=w5.store (f:=.z) (i:=j) (by rw [List.length_set];exact hl.2) (by rw [le.pr];exact hj) (.inr rfl) (by intro h;cases h)
   have w7:=w6.sub (Ag (Ts.map c5) T)
   have f1':y1.d=a/\y2.d=b:=by injection f1 with p q;injection q with q _;exact ⟨p,q⟩
   rw [f1'.1,f1'.2] at w7
   exact ⟨y1.v,y2.v,f2.symm,q _ _ _ w7⟩
  ·exact nsE e2
theorem yC (i j:Nat) {x y:Str} {a b:Expr} {ms:M3 (List R3)} {px py pt pos:Pos} {kt k2 pt2} (hc:X.calm=true) (hN:X.N.Nodup) (hi:X.N[i]?=some x) (hj:X.N[j]?=some y) (hij:i ≠ j)
  (hx:X.env.scope.names.lookup x=some .local) (hy:X.env.scope.names.lookup y=some .local) (ha:RA X G0 W0 [a,b] ms)
  (hw:swappedStores [.Tuple [.Name x px,.Name y py] kt pt] (.Tuple [a,b] k2 pt2) X.env=pure (some [x,y]))
  (hs:swapsWithSole [.Tuple [.Name x px,.Name y py] kt pt] (.Tuple [a,b] k2 pt2) pos.line X.env=pure false) (pi:G0.pr i=false) (pj:G0.pr j=false) :
  RS X G0 W0 (.Assign [.Tuple [.Name x px,.Name y py] kt pt] (.Tuple [a,b] k2 pt2) pos) (sV i j ms):=⟨PS.imp (yP hc hN hi hj hij hx hy ha.h hw hs) fun _ _ _ h=>x6 pi pj h⟩
end
end L3
end
section
namespace L3
open PySem L2
section
variable {K:FG} {G G0:Gm} {W W0:D->Sto->Prop} {H H':Hp} {σ:St} {ρ ρ':Sto} {T T':List It3} {g:Nat->Option It3} {x y z:It3} {α β:Type} {X:Cx}
noncomputable def hJ (hi:Int) (n:Nat):List D:=(List.range n).map fun (k:Nat)=>D.int (hi - (k:Int))
theorem qP {H1:Hp} {ys:List It3} {hi:Int} {n:Nat}:Walk K (Itd hi n) H1 ys (hJ hi n):=by
 refine ⟨[],fun x hx=>(by cases hx),fun M H' _ _ _=>⟨fun i d hd=>?_,?_⟩⟩
 ·unfold hJ at hd
  rw [Ai] at hd
  obtain ⟨k,a,b⟩:=z5.mp hd
  obtain ⟨hk,e⟩:=Ae.mp a
  rw [List.getElem_range] at e
  subst e
  rw [List.length_range] at hk
  refine ⟨hk,fun x H'' ⟨e1,e2⟩=>?_⟩
  subst e1
  exact ⟨⟨d,x,[],.z⟩,dH (by rw [<- b,e2];exact .int _),rfl,rfl,rfl⟩
 ·show n<=(hJ hi n).length
  unfold hJ
  simp
noncomputable def oX:List D->Option (List D)
 | [.int i,.int j,.int c]=>if cD i && cD j && (c == -1) then some (hJ i (i - j).toNat) else none
 | _=>none
set_option tactic.hygienic true in
theorem vi {ms:M3 (List R3)} {R:It->Hp->Prop} (h:tI K G0 W0 (aR oX ms) σ H R):xI (tA K G0 W0 ms) σ H R:=by
 obtain ⟨G,W,le,ρ,T,g,o,ρ',w,e,q⟩:=h
 have herr:∀ x,o=.error x->W x ρ':=fun x hx=>by subst hx;exact q
 refine tA.seq le w e herr fun rs ρ1 e1 vs H1 Ts g1 w1 a1=>?_
 obtain ⟨ds,d1,e2⟩:=c7 e1
 obtain ⟨p,e3,rfl,rfl⟩:=bS e2
 obtain ⟨xs,e4,e5⟩:=z5.mp e3
 subst e5
 obtain ⟨ys,i1,f1,f2⟩:=a1.items w1 (fun x hx=>z6 _ hx) d1
 subst f1 f2
 have inv:∀ {ds:List D},oX ds=some xs->∃ i j,ds=[.int i,.int j,.int (-1)]/\cD i=true/\cD j=true/\xs=hJ i (i - j).toNat:=fun {ds} h=>by
  unfold oX at h
  split at h
  ·rename_i i j c
   split at h
   ·rename_i hh
    cases h
    simp only [Bool.and_eq_true,beq_iff_eq] at hh
    obtain ⟨⟨h1,h2⟩,rfl⟩:=hh
    exact ⟨i,j,rfl,h1,h2,rfl⟩
   ·exact nsE h
  ·exact nsE h
 obtain ⟨i,j,eds,hi,hj,rfl⟩:=inv e4
 match ys,eds,i1,a1 with
 | [],eds,_,_=>cases eds
 | [y],eds,_,_=>exact absurd (congrArg List.length eds) (by simp)
 | [y,z],eds,_,_=>exact absurd (congrArg List.length eds) (by simp)
 | y :: z :: u :: v :: r,eds,_,_=>exact absurd (congrArg List.length eds) (by simp)
 | [y,z,u],eds,i1,a1 =>
  have r1:=(w1.itm (i1 y zY)).rep
  have r2:=(w1.itm (i1 z (zZ _ zY))).rep
  have r3:=(w1.itm (i1 u (zZ _ (zZ _ zY)))).rep
  have h1:y.d=.int i:=by injection eds
  have h2:z.d=.int j:=by injection eds with _ h;injection h
  have h3:u.d=.int (-1):=by injection eds with _ h;injection h with _ h;injection h
  rw [h1] at r1
  rw [h2] at r2
  rw [h3] at r3
  have hi:=of_decide_eq_true hi
  have hj:=of_decide_eq_true hj
  refine ⟨i,j,by show [y.v,z.v,u.v]=_;rw [r1.int_inv,r2.int_inv,r3.int_inv],⟨hi.1,hi.2,hj.1,hj.2⟩,?_⟩
  exact q _ H1 [] [] g1 [] (w1.sub (Ag Ts T)) .nil (fun _ h=>by cases h) qP
theorem vP {tg a b c:Expr} {p pos:Pos} {ms:M3 (List R3)} (hg:Gl X "range") (hm:X.mg "range"=none) (ha:RA X G0 W0 [a,b,c] ms) (hs:starEach [a,b,c] X.env=(false,eval a X.env) :: starEach [b,c] X.env) (hpl:(backTo pos (starEach [b,c] X.env)).any (·.1)=false):RI X G0 W0 tg (.Call (.Name "range" p) [a,b,c] [] pos) (aR oX ms):=⟨PI.imp (rj hg hm ha.h hs hpl) fun _ _ _ h=>vi h⟩
end
end L3
end
section
namespace L3
open PySem L2
section
variable {K:FG} {G G0:Gm} {W W0:D->Sto->Prop} {H H':Hp} {σ:St} {ρ ρ':Sto} {T T':List It3} {g:Nat->Option It3} {x y z:It3} {α β:Type} {X:Cx} {v:V} {d:D} {L:List Addr}
noncomputable def keyD:Key->D
 | .inl i=>.int i
 | .inr s=>.str s
noncomputable def nW (k:List Key):D:=.tup (k.map keyD)
noncomputable def keysD:D->Option (List D)
 | .dt kvs=>some (kvs.map fun kv=>nW kv.1)
 | _=>none
noncomputable def mm (m:EM):IM:=ae m fun r=>ae (der r) fun d=>bh ((keysD d).map fun ds=>([r],ds))
theorem jY:∀ k:List Key,Reps (Rep K H) (k.map keyD) (k.map kV) []
 | []=>.nil
 | .inl i :: k=>.cons (L:=[]) (.int i) (jY k)
 | .inr s :: k=>.cons (L:=[]) (.str s) (jY k)
theorem qQ {H1:Hp} {y:It3} {a:Addr} {kvs:List (List Key × D)} {ps:List (List Key × V)} (ha:H1 a=some (.dT ps)) (hk:kvs.map (·.1)=ps.map (·.1)) (hy:a ∈ y.L):Walk K (Itk a ps.length) H1 [y] (kvs.map fun kv=>nW kv.1):=by
 refine ⟨[],fun x hx=>(by cases hx),fun M H' hm hkp hM=>?_⟩
 have h':H' a=some (.dT ps):=hkp a _ ha (hM y zY a hy)
 have hl:kvs.length=ps.length:=by have:=congrArg List.length hk;simpa using this
 refine ⟨fun i d hd=>?_,⟨ps,.inl h',rfl,by rw [Ad,hl];exact Aj _⟩⟩
 rw [Ai] at hd
 obtain ⟨kv,h1,h2⟩:=z5.mp hd
 have hi:i < kvs.length:=(Ae.mp h1).1
 obtain ⟨p,hp,hpk⟩:∃ p,ps[i]?=some p/\p.1=kv.1:=by
  have e:=congrArg (fun l=>l[i]?) hk
  simp only [Ai,h1] at e
  obtain ⟨p,e1,e2⟩:=z5.mp e.symm
  exact ⟨p,e1,e2⟩
 refine ⟨⟨ps,.inl h',rfl,by omega⟩,fun x H'' ⟨e1,e2⟩=>?_⟩
 subst e1
 obtain ⟨b,rfl,hb⟩:=e2 ps p (.inl h') hp
 exact ⟨⟨d,.ref b,[],.z⟩,dH (by rw [<- h2,<- hpk];exact .tup hb (jY _)),rfl,rfl,rfl⟩
theorem vn {m:EM} {R:It->Hp->Prop} (h:tI K G0 W0 (mm m) σ H R):xL (tE K G0 W0 m) σ H R:=by
 obtain ⟨G,W,le,ρ,T,g,o,ρ',w,e,q⟩:=h
 have herr:∀ x,o=.error x->W x ρ':=fun x hx=>by subst hx;exact q
 refine tE.seq le w e herr fun ra ρ1 e1 v H1 ⟨Ts,g1,w1,a1⟩=>?_
 obtain ⟨d,d1,e2⟩:=aW e1
 obtain ⟨p,e3,rfl,rfl⟩:=bS e2
 obtain ⟨ds,e4,e5⟩:=z5.mp e3
 subst e5
 obtain ⟨y,y1,y2,y3⟩:=a1.item2 w1 d1
 have hy:Itm (Ts ++ T) g1 y:=by
  rcases y3 with ⟨i,_,ei⟩ | h
  ·exact .inl ⟨i,ei⟩
  ·exact .inr (z6 _ h)
 have ar:=(w1.itm hy).arg
 have qq:∀ J,Walk K J H1 [y] ds->R J H1:=fun J hw=>q J H1 [v] Ts g1 [y] w1 (by simpa using Ars.cons a1 .nil) (fun z hz=>by rw [Az.mp hz];exact y3) hw
 clear e1 e2 e3 q
 subst y1 y2
 obtain ⟨da,va,La,fa⟩:=y
 obtain ⟨rr,oo⟩:=ar
 dsimp only at rr e4
 cases da with
 | dt kvs =>
  obtain ⟨pa,ps,L0,rfl,rfl,ha,hk,rs⟩:=rr.view
  cases e4
  exact ⟨pa,ps,rfl,.inl ha,qq _ (qQ ha hk zY)⟩
 | _=>exact nsE e4
theorem vQ {tg l:Expr} {m:EM} (h:RE X G0 W0 l m):RI X G0 W0 tg l (mm m):=⟨PI.imp (we h.h) fun _ _ _ h=>vn h⟩
noncomputable def maxVQ:D->Option (D × Fl)
 | .dt kvs=>(cj (kvs.map (·.2))).bind fun ns=>(ig ns).map fun m=>(.int m,.z)
 | _=>none
noncomputable abbrev nI:=c1 maxVQ
noncomputable def rMV:List V->Hp->VK->Prop:=fun xs H Q=>∃ (a:Addr) (kvs:List (List Key × V)) (ns:List Int),xs=[.ref a]/\H a=some (.dT kvs)/\kvs.map (·.2)=ns.map V.int/\ns ≠ []/\∀ p,H p=none->∀ m,m ∈ ns->(∀ n ∈ ns,n<=m)->Q (.int m) (upd H p (kn p a))
theorem xg:ff K rMV nI:=fun ys H Q p ra e q=>by
 obtain ⟨y,rfl,e2⟩:=i5 e
 clear e
 have e:=e2
 clear e2
 have rr:=(ra y zY).rep
 obtain ⟨da,va,La,fa⟩:=y
 dsimp only at rr e
 cases da with
 | dt kvs =>
  obtain ⟨pa,ps,L0,rfl,rfl,ha,hk,rs⟩:=rr.view
  obtain ⟨ns,h1,h2⟩:=Ay.mp (show ((cj (kvs.map (·.2))).bind fun ns=>(ig ns).map fun m=>((.int m,.z):D × Fl))=some p from e)
  obtain ⟨m,h3,h4⟩:=z5.mp h2
  have e3:=gw h1
  rw [e3] at rs
  obtain ⟨n1,n2⟩:=nD h3
  subst h4
  refine ⟨pa,ps,ns,rfl,ha,rs.ints,n1,fun p hp k k1 k2=>?_⟩
  rw [n2 k k1 k2]
  exact q ⟨.int m,.int m,[],.z⟩ _ ⟨bK hp,.int _,fun _ h=>(by cases h),fun h=>absurd rfl h⟩ rfl rfl
 | _=>exact nsE e
theorem vp {m:EM} {Q:VK} (h:tE K G0 W0 (aB nI (ab m aj)) σ H Q) :
  tCB xE (mQ (tBM0 K "dict" (fun x vs H Q=>∃ a kvs,x=.ref a/\vs=[]/\Rd H a (.dT kvs)/\∀ p,H p=none->Q (.ref p) (upd H p (kn p a))) (tE K G0 W0 m)) vh) σ H Q:=by
 have h1:mQ (tE K G0 W0 m) (tA K G0 W0 aj) σ H (fun vs H1=>rMV vs H1 Q):=pR (jL xg h)
 refine pQ h1 fun x H1 h2=>?_
 obtain ⟨a,kvs,ns,e,ha,hv,hn,q⟩:=sP h2
 cases e
 refine ⟨.inr (.inr (.inl ⟨rfl,.inr ⟨kvs,ha⟩⟩)),a,kvs,rfl,rfl,.inl ha,fun p hp=>?_⟩
 have hpa:a ≠ p:=fun z=>by rw [z,hp] at ha;exact nsE ha
 exact ⟨p,a,kvs,ns,rfl,bc,.inl (by rw [aJ hpa];exact ha),hv,hn,q p hp⟩
theorem vR {o:Expr} {m:EM} {p apos cpos pos:Pos} (hc:X.calm=true) (hg:Gl X "max") (hm:X.mg "max"=none) (ho:RE X G0 W0 o m) (hbase:attributeBase o "values" X.env (eval o X.env)=eval o X.env) (hline:(apos.endLine == cpos.line)=true)
  (hs:starEach [.Call (.Attribute o "values" apos) [] [] cpos] X.env=(false,eval (.Call (.Attribute o "values" apos) [] [] cpos) X.env) :: starEach [] X.env) (hpl:(backTo pos (starEach [] X.env)).any (·.1)=false) :
  RE X G0 W0 (.Call (.Name "max" p) [.Call (.Attribute o "values" apos) [] [] cpos] [] pos) (aB nI (ab m aj)) :=
 ⟨PE.imp (j9 (so hc) hg hm jj (jB (y8 PySem.F.plainAttrs_dict PySem.F.slot_dict_values PySem.F.type_dict_values wD ho.h hbase hline) o6 hs) (by decide) (by decide) hs hpl) fun _ _ _ h=>vp h⟩
noncomputable def en:List D->Option (List (Int × Int))
 | []=>some []
 | .tup [.int a,.int b] :: ds=>(en ds).map ((a,b) :: ·)
 | _=>none
noncomputable def ie (n:Int × Int):D:=.tup [.int n.1,.int n.2]
set_option tactic.hygienic true in
theorem kb:∀ {ds:List D} {ns:List (Int × Int)},en ds=some ns->ds=ns.map ie
 | [],ns,h=>by cases h;rfl
 | d :: ds,ns,h=>by
  unfold en at h
  split at h
  ·rename_i h0;cases h0
  ·rename_i a b ds' h0
   cases h0
   obtain ⟨ms,h1,h2⟩:=z5.mp h
   rw [kb h1,<- h2];rfl
  ·exact nsE h
theorem ja:∀ ns:List (Int × Int),en (ns.map ie)=some ns
 | []=>rfl
 | n :: ns=>by
  show (en (ns.map ie)).map _=_
  rw [ja ns];rfl
noncomputable def iS:List (Int × Int)->Option (Int × Int)
 | []=>none
 | x :: xs=>some (xs.foldl (fun a b=>if ltP b a=true then b else a) x)
set_option tactic.hygienic true in
theorem wL {x y:Int × Int} (h1:ltP x y=false) (h2:ltP y x=false):x=y:=by
 unfold ltP at *
 simp at h1 h2
 have:x.1=y.1:=by omega
 have:x.2=y.2:=by omega
 exact Prod.ext ‹_› ‹_›
theorem uj {x y z:Int × Int} (h1:ltP x y=false) (h2:ltP y z=false):ltP x z=false:=by
 unfold ltP at *
 simp at *
 omega
theorem uk {x y:Int × Int} (h1:ltP x y=true):ltP y x=false:=by
 unfold ltP at *
 simp at *
 omega
theorem ui (x:Int × Int):ltP x x=false:=by unfold ltP;simp
theorem fA:∀ (xs:List (Int × Int)) (x:Int × Int),(xs.foldl (fun a b=>if ltP b a=true then b else a) x) ∈ x :: xs/\∀ n ∈ x :: xs,ltP n (xs.foldl (fun a b=>if ltP b a=true then b else a) x)=false
 | [],x=>⟨zY,fun n hn=>by rw [Az.mp hn];exact ui x⟩
 | b :: xs,x=>by
  rw [List.foldl_cons]
  by_cases h:ltP b x=true
  ·rw [if_pos h]
   obtain ⟨h1,h2⟩:=fA xs b
   refine ⟨zZ _ h1,fun n hn=>?_⟩
   rcases z8.mp hn with rfl | hn
   ·exact uj (uk h) (h2 b zY)
   ·exact h2 n hn
  ·rw [if_neg h]
   have h':ltP b x=false:=by simpa using h
   obtain ⟨h1,h2⟩:=fA xs x
   refine ⟨?_,fun n hn=>?_⟩
   ·rcases z8.mp h1 with e | e
    ·rw [e];exact zY
    ·exact zZ _ (zZ _ e)
   ·rcases z8.mp hn with rfl | hn
    ·exact h2 n zY
    ·rcases z8.mp hn with rfl | hn
     ·exact uj h' (h2 x zY)
     ·exact h2 n (zZ _ hn)
theorem lC {ns:List (Int × Int)} {m:Int × Int} (h:iS ns=some m):m ∈ ns/\∀ n ∈ ns,ltP n m=false:=by
 cases ns with
 | nil=>exact nsE h
 | cons x xs=>cases h;exact fA xs x
noncomputable def minPQ:D->Option (D × Fl)
 | .lst ds=>(en ds).bind fun ns=>(iS ns).map fun n=>(ie n,.z)
 | _=>none
noncomputable abbrev qk:=c1 minPQ
theorem jX:∀ {ns:List (Int × Int)} {vs:List V} {L:List Addr},Reps (Rep K H) (ns.map ie) vs L->∃ bs:List Addr,vs=bs.map V.ref/\ns.length=bs.length/\∀ (i:Nat) (b:Addr),bs[i]?=some b->∃ n,ns[i]?=some n/\H b=some (.tup [.int n.1,.int n.2])
 | [],_,_,.nil=>⟨[],rfl,rfl,fun i b h=>by simp at h⟩
 | n :: ns,_,_,.cons r rs=>by
  obtain ⟨bs,e1,e2,e3⟩:=jX rs
  subst e1
  cases r with
  | @tup xs a vs L ha hr =>
   refine ⟨a :: bs,rfl,by simp [e2],fun i b h=>?_⟩
   cases i with
   | zero =>
    simp only [List.getElem?_cons_zero,Option.some.injEq] at h
    subst h
    have hv:vs=[.int n.1,.int n.2]:=by
     have:=Reps.ints (ns:=[n.1,n.2]) hr
     exact this
    exact ⟨n,rfl,by rw [<- hv];exact ha⟩
   | succ i =>
    simp only [List.getElem?_cons_succ] at h
    exact e3 i b h
theorem xb:ff K (xD K) qk:=fun ys H Q p ra e q=>by
 obtain ⟨y,rfl,e2⟩:=i5 e
 clear e
 have e:=e2
 clear e2
 have rr:=(ra y zY).rep
 obtain ⟨da,va,La,fa⟩:=y
 dsimp only at rr e
 cases da with
 | lst xs =>
  obtain ⟨pa,vs,L0,rfl,rfl,ha,rs⟩:=rr.view
  obtain ⟨ns,h1,h2⟩:=Ay.mp (show ((en xs).bind fun ns=>(iS ns).map fun n=>((ie n,.z):D × Fl))=some p from e)
  obtain ⟨n0,h3,h4⟩:=z5.mp h2
  have e3:=kb h1
  subst e3 h4
  obtain ⟨bs,rfl,hl,hb⟩:=jX rs
  obtain ⟨m1,m2⟩:=lC h3
  refine ⟨pa,bs,ns,rfl,SqL.of ha,hb,fun z=>?_,fun m b hm hL=>?_⟩
  ·subst z
   have:ns=[]:=List.length_eq_zero_iff.mp hl
   subst this
   cases m1
  ·obtain ⟨n,e1,e2⟩:=hb m b hm
   have hn:n=n0:=by
    refine wL (m2 n (Af e1) |> id) ?_ |> id
    obtain ⟨i,hi,e4⟩:=List.getElem_of_mem m1
    exact hL.2 i (by omega) n0 n (by rw [z9 hi,e4]) e1
   subst hn
   exact q ⟨ie n,.ref b,[],.z⟩ H (dH (.tup e2 (.cons (L:=[]) (.int _) (.cons (L:=[]) (.int _) .nil)))) rfl rfl
 | _=>exact nsE e
end
end L3
theorem L2.Room.hu {A:PySem.Around} {k:Nat} (hr:L2.Room k A):A.units+1 < PySem.cLine:=L2.hu_of hr
end
section
namespace Bn
open PySem L2 L3
noncomputable abbrev Pd (p:Int × Int):L3.D:=.tup [.int p.1,.int p.2]
theorem a8 {bnd:L3.D->Sto->Option Sto} {b:SM} (P:Nat->Sto->Prop):∀ {ds:List L3.D} {ρ:Sto} {k:Nat},P k ρ->(∀ i d ρ,ds[i]?=some d->P (k+i) ρ->∃ ρ1 ρ2,bnd d ρ=some ρ1/\(b ρ1=some (.ok .nx,ρ2)\/b ρ1=some (.ok .ct,ρ2))/\P (k+i+1) ρ2)->∃ ρ',fw bnd b ds ρ=some (.ok .nx,ρ')/\P (k+ds.length) ρ'
 | [],ρ,k,h0,_=>⟨ρ,rfl,h0⟩
 | d :: ds,ρ,k,h0,hs=>by
  obtain ⟨ρ1,ρ2,e1,e2,h1⟩:=hs 0 d ρ rfl h0
  obtain ⟨ρ',e3,h3⟩:=a8 P (ds:=ds) (ρ:=ρ2) (k:=k+1) h1 fun i d ρ hd hp=>by
   have:=hs (i+1) d ρ (by simpa using hd) (by rwa [show k+(i+1)=k+1+i by omega])
   rwa [show k+(i+1)+1=k+1+i+1 by omega] at this
  refine ⟨ρ',?_,by rw [Av,show k+(ds.length+1)=k+1+ds.length by omega];exact h3⟩
  unfold fw
  simp only [e1]
  rcases e2 with e2 | e2 <;> simp only [ae,e2,e3]
theorem mr {bnd:L3.D->Sto->Option Sto} {b:SM} (P:Nat->Sto->Prop) (E:Nat->L3.D->Fl->Sto->Prop):∀ {ds:List L3.D} {ρ:Sto} {k:Nat},P k ρ ->
  (∀ i d ρ,ds[i]?=some d->P (k+i) ρ->∃ ρ1 ρ2,bnd d ρ=some ρ1/\(((b ρ1=some (.ok .nx,ρ2)\/b ρ1=some (.ok .ct,ρ2))/\P (k+i+1) ρ2)\/∃ r f,b ρ1=some (.ok (.rt r f),ρ2)/\E (k+i) r f ρ2)) ->
  ∃ ρ',(fw bnd b ds ρ=some (.ok .nx,ρ')/\P (k+ds.length) ρ')\/∃ i r f,i < ds.length/\fw bnd b ds ρ=some (.ok (.rt r f),ρ')/\E (k+i) r f ρ'
 | [],ρ,k,h0,_=>⟨ρ,.inl ⟨rfl,h0⟩⟩
 | d :: ds,ρ,k,h0,hs=>by
  obtain ⟨ρ1,ρ2,e1,h1⟩:=hs 0 d ρ rfl h0
  rcases h1 with ⟨e2,h1⟩ | ⟨r,f,e2,h1⟩
  ·obtain ⟨ρ',h3⟩:=mr P E (ds:=ds) (ρ:=ρ2) (k:=k+1) h1 fun i d ρ hd hp=>by
    have:=hs (i+1) d ρ (by simpa using hd) (by rwa [show k+(i+1)=k+1+i by omega])
    rwa [show k+(i+1)=k+1+i by omega] at this
   have e4:fw bnd b (d :: ds) ρ=fw bnd b ds ρ2:=by
    conv=>lhs;unfold fw
    simp only [e1]
    rcases e2 with e2 | e2 <;> simp only [ae,e2]
   rcases h3 with ⟨e3,h3⟩ | ⟨i,r,f,hi,e3,h3⟩
   ·exact ⟨ρ',.inl ⟨e4.trans e3,by rw [Av,show k+(ds.length+1)=k+1+ds.length by omega];exact h3⟩⟩
   ·exact ⟨ρ',.inr ⟨i+1,r,f,by simp;omega,e4.trans e3,by rw [show k+(i+1)=k+1+i by omega];exact h3⟩⟩
  ·refine ⟨ρ2,.inr ⟨0,r,f,by simp,?_,h1⟩⟩
   unfold fw
   simp only [e1,ae,e2,bb]
theorem bj {lo:Int} {n i:Nat} {d:L3.D} (h:(aO lo n)[i]?=some d):i < n/\d=.int (lo+i):=by
 unfold aO at h
 rw [Ai,z5] at h
 obtain ⟨j,h1,rfl⟩:=h
 have h2:=Ae.mp h1
 obtain ⟨h3,h4⟩:=h2
 simp at h3 h4
 subst h4
 exact ⟨h3,rfl⟩
theorem aV {lo:Int} {n:Nat}:(aO lo n).length=n:=by unfold aO;simp
theorem Small.sub {p q:Pt} (hp:Small p) (hq:Small q):(-18446744073709551616 < q.1 - p.1/\q.1 - p.1 < 18446744073709551616)/\(-18446744073709551616 < q.2 - p.2/\q.2 - p.2 < 18446744073709551616):=by
 obtain ⟨a1,a2,a3,a4⟩:=hp
 obtain ⟨b1,b2,b3,b4⟩:=hq
 exact ⟨⟨by omega,by omega⟩,⟨by omega,by omega⟩⟩
theorem lb {c:M3 Bool} {b:SM} (P:Nat->Sto->Prop) (Q:Sto->Prop) {n:Nat} {ρ:Sto} (h0:P n ρ)
  (hs:∀ n ρ,P n ρ->(∃ ρ1,c ρ=some (.ok false,ρ1)/\Q ρ1)\/∃ ρ1 ρ2 m,c ρ=some (.ok true,ρ1)/\(b ρ1=some (.ok .nx,ρ2)\/b ρ1=some (.ok .ct,ρ2))/\m < n/\P m ρ2):∃ ρ',eI c b ρ=some (.ok .nx,ρ')/\Q ρ':=by
 have main:∀ n ρ,P n ρ->∃ ρ',cf c b (n+1) ρ=some (.ok .nx,ρ')/\Q ρ':=by
  intro n
  induction n using Nat.strongRecOn with
  | _ n ih =>
   intro ρ hp
   rcases hs n ρ hp with ⟨ρ1,e1,hq⟩ | ⟨ρ1,ρ2,m,e1,e2,hm,hp2⟩
   ·refine ⟨ρ1,?_,hq⟩
    unfold cf
    simp [ae,e1,bb]
   ·obtain ⟨ρ',e3,hq⟩:=ih m hm ρ2 hp2
    refine ⟨ρ',?_,hq⟩
    have e4:=iE (show m+1<=n by omega) e3
    unfold cf
    rcases e2 with e2 | e2 <;> simp [ae,e1,e2,e4]
 obtain ⟨ρ',e,hq⟩:=main n ρ h0
 refine ⟨ρ',?_,hq⟩
 unfold eI
 have h:∃ n r,cf c b n ρ=some r:=⟨_,_,e⟩
 rw [dif_pos h]
 have e2:=Classical.choose_spec (Classical.choose_spec h)
 have e3:=iE (Nat.le_max_left (n+1) (Classical.choose h)) e
 have e4:=iE (Nat.le_max_right (n+1) (Classical.choose h)) e2
 rw [e3] at e4
 exact e4.symm
theorem al {a b:SM} {ρ ρ1:Sto} {r:Option (Except L3.D Flw × Sto)} (h1:a ρ=some (.ok .nx,ρ1)) (h2:b ρ1=r):aH a b ρ=r:=by
 simp only [aH,ae,h1]
 exact h2
theorem gi {bnd:L3.D->Sto->Option Sto} {c:M3 Bool} {elt:EM} (P:Sto->Prop) (g:L3.D->Bool) (f:L3.D->L3.D):∀ {ds:List L3.D} {τ:Sto},P τ ->
  (∀ d ∈ ds,∀ τ,P τ->∃ τ1 τ2,bnd d τ=some τ1/\c τ1=some (.ok (g d),τ2)/\(g d=false->P τ2)/\(g d=true->∃ r τ3 p τ4,elt τ2=some (.ok r,τ3)/\eO r τ3=some (.ok p,τ4)/\p.1=f d/\P τ4)) ->
  ∃ τ',bT bnd c elt ds τ=some (.ok ((ds.filter g).map f),τ')/\P τ'
 | [],τ,h0,_=>⟨τ,rfl,h0⟩
 | d :: ds,τ,h0,hs=>by
  obtain ⟨τ1,τ2,e1,e2,hf,ht⟩:=hs d zY τ h0
  cases hg:g d with
  | false =>
   obtain ⟨τ',e,hp⟩:=gi P g f (ds:=ds) (τ:=τ2) (hf hg) fun d hd=>hs d (zZ _ hd)
   refine ⟨τ',?_,hp⟩
   unfold bT
   rw [hg] at e2
   simp [e1,ae,e2,e,List.filter_cons,hg]
  | true =>
   obtain ⟨r,τ3,p,τ4,e3,e4,e5,hp4⟩:=ht hg
   obtain ⟨τ',e,hp⟩:=gi P g f (ds:=ds) (τ:=τ4) hp4 fun d hd=>hs d (zZ _ hd)
   refine ⟨τ',?_,hp⟩
   unfold bT
   rw [hg] at e2
   simp [e1,ae,e2,e3,e4,e,List.filter_cons,hg,bb,e5]
noncomputable abbrev Tri:=Nat × Nat × Nat
noncomputable def kU (i j m:Nat):List Tri:=(List.range m).map fun k=>(i,j,j+1+k)
noncomputable def iH (n i m:Nat):List Tri:=(List.range m).flatMap fun j=>kU i (i+1+j) (n - (i+1+j+1))
noncomputable def lV (n m:Nat):List Tri:=(List.range m).flatMap fun i=>iH n i (n - (i+1))
noncomputable def lP (n:Nat):List Tri:=lV n n
theorem m6 (i j m:Nat):(kU i j m).length=m:=by simp [kU]
theorem lq (n i m:Nat):iH n i (m+1)=iH n i m ++ kU i (i+1+m) (n - (i+1+m+1)):=by simp [iH,List.range_succ,List.flatMap_append]
theorem lr (n m:Nat):lV n (m+1)=lV n m ++ iH n m (n - (m+1)):=by simp [lV,List.range_succ,List.flatMap_append]
theorem uc {i j m:Nat} {t:Tri} (h:t ∈ kU i j m):t.1=i/\t.2.1=j/\j < t.2.2/\t.2.2 < j+1+m:=by
 obtain ⟨k,hk,rfl⟩:=Ah.mp h
 rw [List.mem_range] at hk
 exact ⟨rfl,rfl,by show j < j+1+k;omega,by show j+1+k < j+1+m;omega⟩
theorem nH {n:Nat} {t:Tri} (h:t ∈ lP n):t.1 < t.2.1/\t.2.1 < t.2.2/\t.2.2 < n:=by
 obtain ⟨i,hi,h⟩:=AI.mp h
 obtain ⟨j,hj,h⟩:=AI.mp h
 rw [List.mem_range] at hi hj
 obtain ⟨h1,h2,h3,h4⟩:=uc h
 exact ⟨by omega,by omega,by omega⟩
theorem pX (n i m:Nat):(iH n i m).length<=m * n:=by
 induction m with
 | zero=>simp [iH]
 | succ m ih=>rw [lq,Au,m6,Nat.succ_mul];omega
theorem vN (n m:Nat):(lV n m).length<=m * (n * n):=by
 induction m with
 | zero=>simp [lV]
 | succ m ih =>
  rw [lr,Au,Nat.succ_mul]
  have:=pX n m (n - (m+1))
  have h2:(n - (m+1)) * n<=n * n:=Nat.mul_le_mul (by omega) (Aj _)
  omega
theorem jW {n m:Nat} (hn:n<=25) (hm:m<=25):(lV n m).length<=15625:=by
 have h1:=vN n m
 have h2:n * n<=25 * 25:=Nat.mul_le_mul hn hn
 have h3:m * (n * n)<=25 * (25 * 25):=Nat.mul_le_mul hm h2
 omega
theorem oW {n i m:Nat} (hn:n<=25) (hm:m<=25):(iH n i m).length<=625:=by
 have h1:=pX n i m
 have h2:m * n<=25 * 25:=Nat.mul_le_mul hm hn
 omega
noncomputable abbrev Td (t:Tri):L3.D:=.tup [.int t.1,.int t.2.1,.int t.2.2]
noncomputable abbrev Shd (ps:List Pt):L3.D:=.tup (ps.map Pd)
theorem cp {im:IM} {bnd:L3.D->Sto->Option Sto} {c:M3 Bool} {elt:EM} {ix:List (Option Nat)} {ρ ρ1 ρ2 τ:Sto} {rs:List R3} {ds out:List L3.D} (h1:im ρ=some (.ok (rs,ds),ρ1)) (h2:bT bnd c elt ds (pD ix (aN dm (us ρ1 (pls rs)) ρ1))=some (.ok out,τ)) (h3:ds.length < 16777216) (h4:uncap ix τ (aN dm (us ρ1 (pls rs)) ρ1)=some ρ2) :
  cT im bnd c elt ix ρ=some (.ok (.val (.lst out) .u),aN gz (us ρ1 (pls rs)) ρ2):=by
 simp [cT,ae,h1,h2,h3,h4]
theorem oJ:∀ {ds:List L3.D},(∀ d ∈ ds,d=.bl true)->iC ds=some (List.replicate ds.length true)
 | [],_=>rfl
 | d :: ds,h=>by
  have h1:=h d zY
  subst h1
  have h2:=oJ fun d hd=>h d (zZ _ hd)
  simp [iC,h2,List.replicate_succ]
theorem lN {ds:List L3.D} (h:∀ d ∈ ds,d=.bl true):zS (.lst ds)=some (.bl true,.z):=by
 simp [zS,oJ h]
theorem qL {xs:List L3.D} {i:Nat} {d:L3.D} (h:xs[i]?=some d):L2.atI xs (i:Int)=some d:=by
 obtain ⟨h1,h2⟩:=Ae.mp h
 simp [L2.atI,ixN,h1,h2]
theorem pN {ps:List Pt} {i:Nat} {p:Pt} (h:ps[i]?=some p):L2.atI (ps.map Pd) (i:Int)=some (Pd p):=qL (by simp [h])
theorem uz {f:List L3.D->Option (List L3.D)} {ms:M3 (List R3)} {ρ ρ1 ρ2:Sto} {rs:List R3} {ds xs:List L3.D} (h1:ms ρ=some (.ok rs,ρ1)) (h2:fD rs ρ1=some (.ok ds,ρ2)) (h3:f ds=some xs):aR f ms ρ=some (.ok ([],xs),ρ2):=by
 simp [aR,ae,h1,h2,h3,bh]
theorem gr {a b:Int} (ha:-1000<=a/\a<=1000) (hb:-1000<=b/\b<=1000) {n:Nat} (hn:(b - a).toNat=n):eJ [.int a,.int b]=some (aO a n):=by
 have lm:cD a=true:=Ao (by omega)
 have lm2:cD b=true:=Ao (by omega)
 show (if (cD a && cD b)=true then some (aO a (b - a).toNat) else none)=_
 rw [lm,lm2,hn]
 exact if_pos rfl
theorem b5 {b:Int} (hb:-1000<=b/\b<=1000) {n:Nat} (hn:b.toNat=n):b6 [.int b]=some (aO 0 n):=by
 have lm2:cD b=true:=Ao (by omega)
 show (if (cD b)=true then some (aO 0 b.toNat) else none)=_
 rw [lm2,hn]
 exact if_pos rfl
end Bn
end
section
namespace Bn
open PySem L2 L3
section
variable {α:Type} {ρ ρ1 ρ2 ρ3:Sto} {ma mb mc m:EM} {ms:M3 (List R3)} {ra rb r:R3} {rs:List R3} {da db d:L3.D} {ds:List L3.D} {fl:Fl} {i n np:Nat} {sa sb:SM} {c cc:M3 Bool} {b b2:Bool} {x:Option (Except L3.D Flw × Sto)} {y:Option (Except L3.D R3 × Sto)}
theorem bx {p:L3.D × Fl} (h:(ρ[i]?).join=some p):ac i ρ=some (.ok (.pl i),ρ):=by simp [ac,h]
theorem i_c:mC d ρ=some (.ok (.val d .z),ρ):=rfl
theorem dA {f:L3.D->L3.D->Option (L3.D × Fl)} (h1:ma ρ=some (.ok ra,ρ1)) (h2:mb ρ1=some (.ok rb,ρ2)) (h3:der ra ρ2=some (.ok da,ρ2)) (h4:der rb ρ2=some (.ok db,ρ2)) (h5:f da db=some (d,fl)):ah f ma mb ρ=some (.ok (.val d fl),ρ2):=by
 simp only [ah,ae,h1,h2,h3,h4,bh,h5,Ax]
theorem i_un {f:L3.D->Option (L3.D × Fl)} (h1:ma ρ=some (.ok ra,ρ1)) (h3:der ra ρ1=some (.ok da,ρ1)) (h5:f da=some (d,fl)):mUn f ma ρ=some (.ok (.val d fl),ρ1):=by
 simp only [mUn,ae,h1,h3,bh,h5,Ax]
theorem iw {f:List L3.D->Option (L3.D × Fl)} (h1:ms ρ=some (.ok rs,ρ1)) (h3:fD rs ρ1=some (.ok ds,ρ1)) (h5:f ds=some (d,fl)):aB f ms ρ=some (.ok (.val d fl),ρ1):=by
 simp only [aB,ae,h1,h3,bh,h5,Ax]
theorem eY:aj ρ=some (.ok [],ρ):=rfl
theorem bJ (h1:m ρ=some (.ok r,ρ1)) (h2:ms ρ1=some (.ok rs,ρ2)):ab m ms ρ=some (.ok (r :: rs),ρ2):=by
 simp only [ab,ae,h1,h2,bb]
theorem pz {mk:List L3.D->L3.D} {f:Fl} (h1:ms ρ=some (.ok rs,ρ1)) (h2:gives rs ρ1=some (.ok ds,ρ2)) (h3:ds.length<=16777216):wK mk f ms ρ=some (.ok (.val (mk ds) f),ρ2):=by
 simp only [wK,ae,h1,h2,bh,h3,if_true,Ax]
theorem aq {F:Fn} {ps qs:List (L3.D × Fl)} (hF:F ps=some (.ok (d,fl),qs)) (h1:ms ρ=some (.ok rs,ρ1)) (h2:prs (frz (oh rs) ρ1) rs=some ps) (h3:qs.length=ps.length) (h4:back rs ps qs (frz (oh rs) ρ1) = ρ2):au F ms ρ=some (.ok (.val d fl),ρ2):=by
 simp only [au,ae,h1,h2,hF,h3,if_true,h4]
theorem nZ {p:L3.D × Fl} (h1:m ρ=some (.ok r,ρ1)) (h2:eO r ρ1=some (.ok p,ρ2)) (h3:i < ρ2.length) (h4:ρ2.set i (some p) = ρ3):a7 i m ρ=some (.ok .nx,ρ3):=by
 simp only [a7,ae,h1,h2,h3,if_true,h4]
theorem i_asg {bnd:L3.D->Sto->Option Sto} {p:L3.D × Fl} (h1:m ρ=some (.ok r,ρ1)) (h2:eO r ρ1=some (.ok p,ρ2)) (h3:bnd p.1 ρ2=some ρ3):sW bnd m ρ=some (.ok .nx,ρ3):=by
 simp only [sW,ae,h1,h2,h3,Ax]
theorem i_par {a b:L3.D} {j:Nat} (h1:ms ρ=some (.ok rs,ρ1)) (h2:gives rs ρ1=some (.ok [a,b],ρ2)) (hi:i < ρ2.length) (hj:j < ρ2.length) (h3:(ρ2.set i (some (a,.z))).set j (some (b,.z)) = ρ3):sV i j ms ρ=some (.ok .nx,ρ3):=by
 simp only [sV,ae,h1,h2,hi,hj,and_self,if_true,h3]
theorem zC (h1:m ρ=some (.ok r,ρ1)):fR m ρ=some (.ok .nx,ρ1):=by
 simp only [fR,ae,h1,bb]
noncomputable def retF (np:Nat) (r:R3):SM:=bq np (bb r)
theorem gf (h1:m ρ=some (.ok r,ρ1)) (h2:retF np r ρ1=x):bq np m ρ=x:=by
 rw [<- h2]
 unfold retF
 simp only [bq,ae,h1,bb]
theorem jP (h1:sa ρ=some (.ok (.rt d fl),ρ1)):aH sa sb ρ=some (.ok (.rt d fl),ρ1):=by
 simp only [aH,ae,h1,bb]
theorem uB (h1:m ρ=some (.ok r,ρ1)) (h2:der r ρ1=some (.ok (.bl b),ρ1)):cB m ρ=some (.ok b,ρ1):=by
 simp only [cB,ae,h1,h2,bh,asB,Ax]
theorem mn (h1:c ρ=some (.ok b,ρ1)):kH c ρ=some (.ok (!b),ρ1):=by
 simp only [kH,ae,h1,bb]
theorem jg (h1:c ρ=some (.ok b,ρ1)) (hb:b=true) (h2:sa ρ1=x):sIf c sa sb ρ=x:=by
 subst hb;simp only [sIf,ae,h1,if_true];exact h2
theorem eD (h1:c ρ=some (.ok b,ρ1)) (hb:b=false) (h2:sb ρ1=x):sIf c sa sb ρ=x:=by
 subst hb;simp only [sIf,ae,h1,AA,if_false];exact h2
theorem uA (h1:c ρ=some (.ok b,ρ1)) (hb:b=false) (h2:cc ρ1=some (.ok b2,ρ2)):cOr c cc ρ=some (.ok b2,ρ2):=by
 subst hb;simp only [cOr,ae,h1,AA,if_false];exact h2
theorem zD (h1:c ρ=some (.ok b,ρ1)) (hb:b=true) (h2:cc ρ1=some (.ok b2,ρ2)):pI c cc ρ=some (.ok b2,ρ2):=by
 subst hb;simp only [pI,ae,h1,if_true];exact h2
theorem zE (h1:c ρ=some (.ok b,ρ1)) (hb:b=false):pI c cc ρ=some (.ok false,ρ1):=by
 subst hb;simp only [pI,ae,h1,AA,if_false];rfl
theorem jD (h1:ma ρ=some (.ok r,ρ1)) (h2:der r ρ1=some (.ok (.bl b),ρ1)) (hb:b=true) (h3:mb ρ1=y):ip ma mb ρ=y:=by
 subst hb;simp only [ip,ae,h1,h2,bh,asB,Ax,if_true];exact h3
theorem qv (h1:ma ρ=some (.ok r,ρ1)) (h2:der r ρ1=some (.ok (.bl b),ρ1)) (hb:b=false):ip ma mb ρ=some (.ok (.val (.bl false) .z),ρ1):=by
 subst hb;simp only [ip,ae,h1,h2,bh,asB,Ax,AA,if_false];rfl
theorem zA (h1:c ρ=some (.ok b,ρ1)) (hb:b=true) (h2:ma ρ1=y):mIf c ma mb ρ=y:=by
 subst hb;simp only [mIf,ae,h1,if_true];exact h2
theorem zB (h1:c ρ=some (.ok b,ρ1)) (hb:b=false) (h2:mb ρ1=y):mIf c ma mb ρ=y:=by
 subst hb;simp only [mIf,ae,h1,AA,if_false];exact h2
theorem i_sl {f:L3.D->Option Int->Option Int->Option (L3.D × Fl)} {pl pu:M3 (Option Int)} {lo hi:Option Int} (h1:ma ρ=some (.ok ra,ρ1)) (h2:pl ρ1=some (.ok lo,ρ2)) (h3:pu ρ2=some (.ok hi,ρ3)) (h4:der ra ρ3=some (.ok da,ρ3)) (h5:f da lo hi=some (d,fl)):mSl f ma pl pu ρ=some (.ok (.val d fl),ρ3):=by
 simp only [mSl,ae,h1,h2,h3,h4,bh,h5,Ax]
theorem wV:qd ρ=some (.ok none,ρ):=rfl
theorem wU {k:Int} (h1:m ρ=some (.ok r,ρ1)) (h2:der r ρ1=some (.ok (.int k),ρ1)):nt m ρ=some (.ok (some k),ρ1):=by
 simp only [nt,ae,h1,h2,bh,asI,Ax]
theorem i_mut {ok:L3.D->Bool} {f:L3.D->List L3.D->Option (L3.D × L3.D)} {d2 d3 d4:L3.D} (h0:(ρ[i]?).join=some (d,fl)) (hk:ok d=true) (h1:ms ρ=some (.ok rs,ρ1)) (h2:gives rs ρ1=some (.ok ds,ρ2)) (h3:(ρ2[i]?).join=some (d2,.u)) (h4:f d2 ds=some (d3,d4)) (h5:ρ2.set i (some (d3,.u)) = ρ3):rK ok f i ms ρ=some (.ok (.val d4 .z),ρ3):=by
 simp only [rK,ae,bx h0,chk,h0,hk,if_true,h1,h2,h3,h4,h5]
theorem lF {f:L3.D->List L3.D->Option (L3.D × L3.D)} {d2 d3 d4:L3.D} (h1:mb ρ=some (.ok rb,ρ1)) (h0:(ρ1[i]?).join=some (d,fl)) (h2:ma ρ1=some (.ok ra,ρ2)) (h3:gives [ra,rb] ρ2=some (.ok ds,ρ3)) (h4:(ρ3[i]?).join=some (d2,.u)) (h5:f d2 ds=some (d3,d4)):kT f i ma mb ρ=some (.ok .nx,ρ3.set i (some (d3,.u))):=by
 simp only [kT,ae,h1,bx h0,h2,h3,h4,h5]
theorem aZ {mask:List Bool} {ps qs:List (L3.D × Fl)} (h1:ps.length=mask.length) (h0:jh n (List.zipWith rN mask ps) = ρ) (h2:sa ρ=some (.ok (.rt d fl),ρ1)) (h3:gE ρ1 0 (List.zipWith rN mask ps)=some qs):fnM mask n sa ps=some (.ok (d,fl),qs):=by
 subst h0;simp only [fnM,h1,if_true,fn0,h2,h3,Ax]
theorem zU {mask:List Bool} {ps qs:List (L3.D × Fl)} (h1:ps.length=mask.length) (h0:jh n (List.zipWith rN mask ps) = ρ) (h2:sa ρ=some (.ok .nx,ρ1)) (h3:gE ρ1 0 (List.zipWith rN mask ps)=some qs):fnM mask n sa ps=some (.ok (.non,.z),qs):=by
 subst h0;simp only [fnM,h1,if_true,fn0,h2,h3,Ax]
theorem fX {i j:Int} (h:-18446744073709551616 < i/\i < 18446744073709551616):fq (.int i) (.int j)=some (.int (i * j),.z):=by
 simp [eL,h]
theorem ub {i j:Int} (h:-18446744073709551616 < j/\j < 18446744073709551616):fq (.int i) (.int j)=some (.int (i * j),.z):=by
 simp [eL,h]
theorem dn {im:IM} {bnd:L3.D->Sto->Option Sto} {o:Except L3.D Flw} (h1:im ρ=some (.ok (rs,ds),ρ1)) (hp:us ρ1 (pls rs)=[]) (h2:fw bnd sb ds ρ1=some (o,ρ2)):di im bnd sb ρ=some (o,ρ2):=by
 have h4:∀ f ρ,aN f [] ρ = ρ:=fun _ _=>rfl
 simp only [di,ae,h1,hp,h4,h2,Ax]
theorem wW (h1:m ρ=some (.ok r,ρ1)) (h2:der r ρ1=some (.ok d,ρ1)) (h3:xz d=some ds):ge m ρ=some (.ok ([r],ds),ρ1):=by
 simp only [ge,ae,h1,h2,bh,h3,Ax]
theorem cq {f:List L3.D->Option (List L3.D)} {xs:List L3.D} (h1:ms ρ=some (.ok rs,ρ1)) (h2:fD rs ρ1=some (.ok ds,ρ1)) (h3:f ds=some xs):aR f ms ρ=some (.ok ([],xs),ρ1):=uz h1 h2 h3
end
theorem d6 {α:Type} {bnd:L3.D->Sto->Option Sto} {c:M3 Bool} {elt:EM} (P:Sto->Prop) (D:α->L3.D) (g:α->Bool) (f:α->L3.D):∀ {xs:List α} {τ:Sto},P τ ->
  (∀ x ∈ xs,∀ τ,P τ->∃ τ1 τ2,bnd (D x) τ=some τ1/\c τ1=some (.ok (g x),τ2)/\(g x=false->P τ2)/\(g x=true->∃ r τ3 p τ4,elt τ2=some (.ok r,τ3)/\eO r τ3=some (.ok p,τ4)/\p.1=f x/\P τ4)) ->
  ∃ τ',bT bnd c elt (xs.map D) τ=some (.ok ((xs.filter g).map f),τ')/\P τ'
 | [],τ,h0,_=>⟨τ,rfl,h0⟩
 | x :: xs,τ,h0,hs=>by
  obtain ⟨τ1,τ2,e1,e2,hf,ht⟩:=hs x zY τ h0
  cases hg:g x with
  | false =>
   obtain ⟨τ',e,hp⟩:=d6 P D g f (xs:=xs) (τ:=τ2) (hf hg) fun d hd=>hs d (zZ _ hd)
   refine ⟨τ',?_,hp⟩
   rw [An]
   unfold bT
   rw [hg] at e2
   simp [e1,ae,e2,e,List.filter_cons,hg]
  | true =>
   obtain ⟨r,τ3,p,τ4,e3,e4,e5,hp4⟩:=ht hg
   obtain ⟨τ',e,hp⟩:=d6 P D g f (xs:=xs) (τ:=τ4) hp4 fun d hd=>hs d (zZ _ hd)
   refine ⟨τ',?_,hp⟩
   rw [An]
   unfold bT
   rw [hg] at e2
   simp [e1,ae,e2,e3,e4,e,List.filter_cons,hg,bb,e5]
section
variable {α:Type} {P:List α->Prop} {us:List α}
theorem bnd0 (h:us.length=0) (f:P []):P us:=by
 cases us with
 | nil=>exact f
 | cons a us=>cases h
theorem zO {n:Nat} (h:us.length=n+1) (f:∀ a r,r.length=n->P (a :: r)):P us:=by
 cases us with
 | nil=>cases h
 | cons a us=>exact f a us (Nat.succ.inj h)
theorem bnd1 (h:us.length=1) (f:∀ a,P [a]):P us:=zO h fun a _ h=>bnd0 (P:=fun r=>P (a :: r)) h (f a)
theorem bnd2 (h:us.length=2) (f:∀ a b,P [a,b]):P us:=zO h fun a _ h=>bnd1 (P:=fun r=>P (a :: r)) h (f a)
theorem bnd3 (h:us.length=3) (f:∀ a b c,P [a,b,c]):P us:=zO h fun a _ h=>bnd2 (P:=fun r=>P (a :: r)) h (f a)
end
theorem hb1 {x:Str} {st:Stmt} {p0:Str} (f:∀ (kV doc pm:Value) (an:Option Addr) (cdv ct a0:Value),bindArgs (PySem.W.fnOf x x (bg st) (aU st) (ai st) .none kV doc pm an cdv ct) ⟨[a0],[]⟩=pure ([p0].zip [a0])) (kV doc pm:Value) (an:Option Addr) (cdv ct:Value) (us:List Value) (hl:us.length=[p0].length):bindArgs (PySem.W.fnOf x x (bg st) (aU st) (ai st) .none kV doc pm an cdv ct) ⟨us,[]⟩=pure ([p0].zip us) :=
 bnd1 (P:=fun us=>bindArgs (PySem.W.fnOf x x (bg st) (aU st) (ai st) .none kV doc pm an cdv ct) ⟨us,[]⟩=pure ([p0].zip us)) hl (f kV doc pm an cdv ct)
theorem hb2 {x:Str} {st:Stmt} {p0 p1:Str} (f:∀ (kV doc pm:Value) (an:Option Addr) (cdv ct a0 a1:Value),bindArgs (PySem.W.fnOf x x (bg st) (aU st) (ai st) .none kV doc pm an cdv ct) ⟨[a0,a1],[]⟩=pure ([p0,p1].zip [a0,a1])) (kV doc pm:Value) (an:Option Addr) (cdv ct:Value) (us:List Value) (hl:us.length=[p0,p1].length):bindArgs (PySem.W.fnOf x x (bg st) (aU st) (ai st) .none kV doc pm an cdv ct) ⟨us,[]⟩=pure ([p0,p1].zip us) :=
 bnd2 (P:=fun us=>bindArgs (PySem.W.fnOf x x (bg st) (aU st) (ai st) .none kV doc pm an cdv ct) ⟨us,[]⟩=pure ([p0,p1].zip us)) hl (f kV doc pm an cdv ct)
theorem hb3 {x:Str} {st:Stmt} {p0 p1 p2:Str} (f:∀ (kV doc pm:Value) (an:Option Addr) (cdv ct a0 a1 a2:Value),bindArgs (PySem.W.fnOf x x (bg st) (aU st) (ai st) .none kV doc pm an cdv ct) ⟨[a0,a1,a2],[]⟩=pure ([p0,p1,p2].zip [a0,a1,a2])) (kV doc pm:Value) (an:Option Addr) (cdv ct:Value) (us:List Value) (hl:us.length=[p0,p1,p2].length):bindArgs (PySem.W.fnOf x x (bg st) (aU st) (ai st) .none kV doc pm an cdv ct) ⟨us,[]⟩=pure ([p0,p1,p2].zip us) :=
 bnd3 (P:=fun us=>bindArgs (PySem.W.fnOf x x (bg st) (aU st) (ai st) .none kV doc pm an cdv ct) ⟨us,[]⟩=pure ([p0,p1,p2].zip us)) hl (f kV doc pm an cdv ct)
end Bn
end
section
namespace Bn
open PySem L2 L3
local macro_rules | `(tactic| infer_instance)=>`(tactic| first | with_reducible apply bx | with_reducible exact i_c | with_reducible apply dA | with_reducible apply i_un | with_reducible apply iw | with_reducible exact eY | with_reducible apply bJ | with_reducible apply pz | with_reducible apply nZ | with_reducible apply i_asg | with_reducible apply zC | with_reducible apply gf | with_reducible exact i_nilS | with_reducible apply uB | with_reducible apply mn | with_reducible apply i_mNot | with_reducible apply i_sl | with_reducible exact wV | with_reducible apply wU | with_reducible apply i_mut | with_reducible apply lF | with_reducible apply wW | with_reducible apply cq | with_reducible apply jD | with_reducible apply uA)
local macro_rules | `(tactic| eq_refl)=>`(tactic| first | exact rfl | exact Nat.le_of_ble_eq_true rfl)
section
variable {X:Cx} {G0:Gm} {W0:L3.D->Sto->Prop} {pos:Pos}
theorem rvl (i:Nat) {x:Str} (hN:X.N[i]?=some x:=by exact rfl) (hv:Vis X.env.scope x:=by exact Or.inl rfl) (hd:(x == ("__debug__":Str))=false:=by decide) (hc:(x == ("__classdict__":Str))=false:=by decide):RE X G0 W0 (.Name x pos) (ac i):=tz i hN hv hd hc
theorem rvc (i:Nat) {x:Str} (hN:X.N[i]?=some x:=by exact rfl) (hv:Vis X.env.scope x:=by exact Or.inr (Or.inl rfl)) (hd:(x == ("__debug__":Str))=false:=by decide) (hc:(x == ("__classdict__":Str))=false:=by decide):RE X G0 W0 (.Name x pos) (ac i):=tz i hN hv hd hc
end
section
variable {P:Program} {w:World} {K:FG} {mg:Str->Option Value} {base:Heap}
noncomputable def pg:SM:=(bq 1 (ip (mUn (rV "int") (ac 0)) (zr (mUn (rV "bool") (ac 0)))))
noncomputable def cA:Fn:=fnM [false] 1 pg
theorem mS:FnScope ["thing"] ["thing"] (ai fg):=⟨rfl,rfl,rfl,by decide +kernel,rfl,by decide +kernel,by decide +kernel⟩
theorem mB (B:Bl mg) (D:Def K mg "is_whole" fg):aL P w K mg base "is_whole" 1 ["thing"] cA :=
 aS (k:=0) D mS rfl rfl (hb1 fun _ _ _ _ _ _ _=>rfl) fun cdv A outer s H E f G hr hp =>
  (ak (aK 1 (fun i hi=>by rw [hp];exact aC (by simpa using hi)) (fV (j1 mz rfl B.isinstance (ic (v:=V.ty "int") rfl B.int b_int rfl (by decide) (by decide)) (rvl 0) rfl rfl rfl) (iJ (yE (j1 gH rfl B.isinstance (ic (v:=V.ty "bool") rfl B.bool uU rfl (by decide) (by decide)) (rvl 0) rfl rfl rfl))))))
noncomputable def po:SM:=(bq 1 (ip (mUn (rV "tuple") (ac 0)) (ip (ah eqX (aB d5 (ab (ac 0) aj)) (mC (.int 2))) (ip (au cA (ab (ah aD (ac 0) (mC (.int 0))) aj)) (au cA (ab (ah aD (ac 0) (mC (.int 1))) aj))))))
noncomputable def fG:Fn:=fnM [false] 1 po
theorem mU:FnScope ["thing"] ["thing"] (ai fi):=⟨rfl,rfl,rfl,by decide +kernel,rfl,by decide +kernel,by decide +kernel⟩
theorem mE (B:Bl mg) (D:Def K mg "is_point" fi) (C_is_whole:aL P w K mg base "is_whole" 1 ["thing"] cA):aL P w K mg base "is_point" 2 ["thing"] fG :=
 aS (k:=1) D mU rfl rfl (hb1 fun _ _ _ _ _ _ _=>rfl) fun cdv A outer s H E f G hr hp =>
  (ak (aK 1 (fun i hi=>by rw [hp];exact aC (by simpa using hi)) (fV (j1 gl rfl B.isinstance (ic (v:=V.ty "tuple") rfl B.tuple jF rfl (by decide) (by decide)) (rvl 0) rfl rfl rfl) (fV (fk (cZ hr.units) c3 (aA aE cn rfl B.len dB (aa (rvl 0) ad rfl) (by decide) (by decide) rfl rfl) af (ba _)) (fV (ao C_is_whole (hr.mono (by decide)) (aa (aF (aw hr.hu) av (rvl 0) af (fun _ _=>rfl)) ad rfl) rfl (by decide) rfl rfl) (iJ (ao C_is_whole (hr.mono (by decide)) (aa (aF (aw hr.hu) av (rvl 0) af (fun _ _=>rfl)) ad rfl) rfl (by decide) rfl rfl)))))))
noncomputable def kj:SM:=(sIf (cOr (kH (cB (au cA (ab (ac 0) aj)))) (kH (cB (gM leI leI (ac 1) (ac 0) (ac 2))))) oS fQ)
noncomputable def bY:Fn:=fnM [false,false,false] 3 kj
theorem jn:FnScope ["thing","least","most"] ["thing","least","most"] (ai cH):=⟨rfl,rfl,rfl,by decide +kernel,rfl,by decide +kernel,by decide +kernel⟩
theorem iZ (B:Bl mg) (D:Def K mg "check_number" cH) (C_is_whole:aL P w K mg base "is_whole" 1 ["thing"] cA):aL P w K mg base "check_number" 2 ["thing","least","most"] bY :=
 aS (k:=1) D jn rfl rfl (hb3 fun _ _ _ _ _ _ _ _ _=>rfl) fun cdv A outer s H E f G hr hp =>
  (ak (eQ (vK (sX (gK (fS (ao C_is_whole (hr.mono (by decide)) (aa (rvl 0) ad rfl) rfl (by decide) rfl rfl) (fun _=>rfl))) (oT (gK (tp lx qi lx qi (rvl 1) (rvl 0) (rvl 2) (by with_unfolding_all rfl)))))) (ak m5) bZ))
noncomputable def dy:EM:=(au fG (ab (ac 0) aj))
noncomputable def fH:EM:=(cT (ge (ac 0)) (ay 0) gP dy [none])
noncomputable def mf:SM:=(bq 1 (ip (gM leI leI (mC (.int 1)) (aB d5 (ab (ac 0) aj)) (mC (.int (24)))) (aB zT (ab fH aj))))
noncomputable def dP:Fn:=fnM [false] 1 mf
theorem kS:FnScope ["things"] ["things"] (ai dG):=⟨rfl,rfl,rfl,by decide +kernel,rfl,by decide +kernel,by decide +kernel⟩
theorem kG (B:Bl mg) (D:Def K mg "are_points" dG) (C_is_point:aL P w K mg base "is_point" 2 ["thing"] fG) {tk_MOST_POINTS:Tok} (Q_MOST_POINTS:mg "MOST_POINTS"=some (.int (24) tk_MOST_POINTS)):aL P w K mg base "are_points" 3 ["things"] dP :=
 aS (k:=2) D kS rfl rfl (hb1 fun _ _ _ _ _ _ _=>rfl) fun cdv A outer s H E f G hr hp =>
  (ak (aK 1 (fun i hi=>by rw [hp];exact aC (by simpa using hi)) (fV (tF lx qi lx qi af (aA aE cn rfl B.len dB (aa (rvl 0) ad rfl) (by decide) (by decide) rfl rfl) (cI rfl Q_MOST_POINTS (by decide)) (fun h1 h2 h3=>tY lx lx h1 h2 h3)) (iJ (aA (oB rfl) uP rfl B.all xR (aa (eh ["thing"] [none] rfl (iI (rvl 0)) (fun s H C fp=>eR) (fun s H C fp=>(ao C_is_point (hr.mono (by decide)) (aa (rvl 0) ad rfl) rfl (by decide) rfl rfl)) (by rfl) (eM (by decide)) (fun _=>rfl) ⟨_,bL rfl,fun s H C fp=>cv (i:=0) (show (["thing"]:List Str).Nodup by decide +kernel) rfl (Or.inl rfl) (Or.inr rfl)⟩) ad rfl) (by decide) (by decide) rfl rfl)))))
noncomputable def cR:EM:=(ah ltI (ah aD (ah aD (ac 1) (ac 0)) (mC (.int 0))) (ah aD (ah aD (ac 1) (ah bF (ac 0) (mC (.int 1)))) (mC (.int 0))))
noncomputable def eC:EM:=(cT (aR b6 (ab (ah fN (aB d5 (ab (ac 0) aj)) (mC (.int 1))) aj)) (ay 0) gP cR [none,some 0])
noncomputable def gb:SM:=(bq 1 (aB zT (ab eC aj)))
noncomputable def cW:Fn:=fnM [false] 1 gb
theorem jm:FnScope ["points"] ["points"] (ai cG):=⟨rfl,rfl,rfl,by decide +kernel,rfl,by decide +kernel,by decide +kernel⟩
theorem iY (B:Bl mg) (D:Def K mg "has_rising_x" cG):aL P w K mg base "has_rising_x" 1 ["points"] cW :=
 aS (k:=0) D jm rfl rfl (hb1 fun _ _ _ _ _ _ _=>rfl) fun cdv A outer s H E f G hr hp =>
  (ak (aK 1 (fun i hi=>by rw [hp];exact aC (by simpa using hi)) (aA (oB rfl) uP rfl B.all xR (aa (eh ["at","points"] [none,some 0] rfl (b7 rfl B.range (aa (am cg bA (aA aE cn rfl B.len dB (aa (rvc 0) ad rfl) (by decide) (by decide) rfl rfl) af) ad rfl) rfl) (fun s H C fp=>eR) (fun s H C fp=>(fk nv nz (aF (aw hr.hu) av (aF (aw hr.hu) av (rvc 1) (rvl 0) (fun _ _=>rfl)) af (fun _ _=>rfl)) (aF (aw hr.hu) av (aF (aw hr.hu) av (rvc 1) (am aI aT (rvl 0) af) (fun _ _=>rfl)) af (fun _ _=>rfl)) (ba _))) (by rfl) (eM (by decide)) (fun _=>rfl) ⟨_,bL rfl,fun s H C fp=>cv (i:=0) (show (["at","points"]:List Str).Nodup by decide +kernel) rfl (Or.inl rfl) (Or.inr rfl)⟩) ad rfl) (by decide) (by decide) rfl rfl)))
noncomputable def zq:SM:=(aH (a7 3 (ah fq (ah fN (ah aD (ac 1) (mC (.int 0))) (ah aD (ac 0) (mC (.int 0)))) (ah fN (ah aD (ac 2) (mC (.int 1))) (ah aD (ac 0) (mC (.int 1)))))) (bq 3 (ah fN (ac 3) (ah fq (ah fN (ah aD (ac 1) (mC (.int 1))) (ah aD (ac 0) (mC (.int 1)))) (ah fN (ah aD (ac 2) (mC (.int 0))) (ah aD (ac 0) (mC (.int 0))))))))
noncomputable def i7:Fn:=fnM [false,false,false] 4 zq
theorem sc_bend:FnScope ["first","second","third","run"] ["first","second","third"] (ai lU):=⟨rfl,rfl,rfl,by decide +kernel,rfl,by decide +kernel,by decide +kernel⟩
theorem uR (B:Bl mg) (D:Def K mg "bend" lU):aL P w K mg base "bend" 1 ["first","second","third"] i7 :=
 aS (k:=0) D sc_bend rfl rfl (hb3 fun _ _ _ _ _ _ _ _ _=>rfl) fun cdv A outer s H E f G hr hp =>
  (ag (aG 3 sc_bend.nd rfl (Or.inl rfl) (am ci bB (am cg bA (aF (aw hr.hu) av (rvl 1) af (fun _ _=>rfl)) (aF (aw hr.hu) av (rvl 0) af (fun _ _=>rfl))) (am cg bA (aF (aw hr.hu) av (rvl 2) af (fun _ _=>rfl)) (aF (aw hr.hu) av (rvl 0) af (fun _ _=>rfl)))) rfl (Or.inl rfl) (by rw [hp];rfl)) (ak (aK 3 (fun i hi=>by rw [hp];exact aC (by simpa using hi)) (am cg bA (rvl 3) (am ci bB (am cg bA (aF (aw hr.hu) av (rvl 1) af (fun _ _=>rfl)) (aF (aw hr.hu) av (rvl 0) af (fun _ _=>rfl))) (am cg bA (aF (aw hr.hu) av (rvl 2) af (fun _ _=>rfl)) (aF (aw hr.hu) av (rvl 0) af (fun _ _=>rfl))))))))
noncomputable def fZ:EM:=(bW (ab (ac 1) (ab (ac 2) (ab (ac 0) aj))))
noncomputable def jc:EM:=(cT (aR eJ (ab (ah bF (ac 3) (mC (.int 1))) (ab (ac 0) aj))) (ay 0) gP fZ [none,some 2,some 3])
noncomputable def f9:SM:=(fR (rK isL uF 1 (ab jc aj)))
noncomputable def jd:SM:=(di (aR eJ (ab (ah bF (ac 2) (mC (.int 1))) (ab (ac 0) aj))) (ay 3) f9)
noncomputable def ue:SM:=(aH (a7 1 (jq aj)) (aH (di (aR b6 (ab (ac 0) aj)) (ay 2) jd) (bq 1 (ac 1))))
noncomputable def fe:Fn:=fnM [false] 4 ue
theorem sc_threes:FnScope ["many","found","i","j"] ["many"] (ai gT):=⟨rfl,rfl,rfl,by decide +kernel,rfl,by decide +kernel,by decide +kernel⟩
theorem pE (B:Bl mg) (D:Def K mg "threes" gT):aL P w K mg base "threes" 1 ["many"] fe :=
 aS (k:=0) D sc_threes rfl rfl (hb1 fun _ _ _ _ _ _ _=>rfl) fun cdv A outer s H E f G hr hp =>
  (ag (aG 1 sc_threes.nd rfl (Or.inl rfl) (fU ad) rfl (Or.inl rfl) (by rw [hp];rfl)) (ag (bU PassesOwn.never rfl (b7 rfl B.range (aa (rvl 0) ad rfl) rfl) (aY 2 sc_threes.nd rfl (Or.inr rfl) (Or.inl rfl) (by rw [hp];rfl)) (ak (bU PassesOwn.never rfl (gu rfl B.range (aa (am aI aT (rvc 2) af) (aa (rvl 0) ad rfl) rfl) rfl rfl) (aY 3 sc_threes.nd rfl (Or.inr rfl) (Or.inl rfl) (by rw [hp];rfl)) (ak (fj (pZ (ok:=isL) PySem.F.plainAttrs_list PySem.F.slot_list_extend PySem.F.type_list_extend rB zo uy (fo (i:=1) rfl (Or.inl rfl) (by decide) (by decide)) (aa (eh ["k","i","j"] [none,some 2,some 3] rfl (gu rfl B.range (aa (am aI aT (rvc 3) af) (aa (rvl 0) ad rfl) rfl) rfl rfl) (fun s H C fp=>eR) (fun s H C fp=>(aQ (aa (rvc 1) (aa (rvc 2) (aa (rvl 0) ad rfl) rfl) rfl))) (by rfl) (eM (by decide)) (fun _=>rfl) ⟨_,bL rfl,fun s H C fp=>cv (i:=0) (show (["k","i","j"]:List Str).Nodup by decide +kernel) rfl (Or.inl rfl) (Or.inr rfl)⟩) ad rfl) rfl rfl rfl rfl rfl) rfl)) (fun _=>rfl))) (fun _=>rfl)) (ak (aK 1 (fun i hi=>by rw [hp];exact aC (by simpa using hi)) (rvl 1)))))
noncomputable def cz:EM:=(ah aD (ac 1) (ac 0))
noncomputable def dW:EM:=(cT (ge (ac 1)) (ay 0) gP cz [none,some 0])
noncomputable def bI:SM:=(aH (a7 2 (aB u9 (ab dW aj))) (sIf (cB (ah eqX (au i7 (ab (ah aD (ac 2) (mC (.int 0))) (ab (ah aD (ac 2) (mC (.int 1))) (ab (ah aD (ac 2) (mC (.int 2))) aj)))) (mC (.int 0)))) (bq 1 (ac 2)) fQ))
noncomputable def jp:SM:=(aH (di (ge (au fe (ab (aB d5 (ab (ac 0) aj)) aj))) (ay 1) bI) (bq 1 (mC .non)))
noncomputable def cw:Fn:=fnM [false] 3 jp
theorem sc_first_on_line:FnScope ["points","three","found"] ["points"] (ai cr):=⟨rfl,rfl,rfl,by decide +kernel,rfl,by decide +kernel,by decide +kernel⟩
theorem iB (B:Bl mg) (D:Def K mg "first_on_line" cr) (C_bend:aL P w K mg base "bend" 1 ["first","second","third"] i7) (C_threes:aL P w K mg base "threes" 1 ["many"] fe):aL P w K mg base "first_on_line" 2 ["points"] cw :=
 aS (k:=1) D sc_first_on_line rfl rfl (hb1 fun _ _ _ _ _ _ _=>rfl) fun cdv A outer s H E f G hr hp =>
  (ag (bU PassesOwn.never rfl (iI (ao C_threes (hr.mono (by decide)) (aa (aA aE cn rfl B.len dB (aa (rvc 0) ad rfl) (by decide) (by decide) rfl rfl) ad rfl) rfl (by decide) rfl rfl)) (aY 1 sc_first_on_line.nd rfl (Or.inl rfl) (Or.inl rfl) (by rw [hp];rfl)) (ag (aG 2 sc_first_on_line.nd rfl (Or.inl rfl) (lu gG uO rfl B.tuple jF (aa (eh ["place","points"] [none,some 0] rfl (iI (rvl 1)) (fun s H C fp=>eR) (fun s H C fp=>(aF (aw hr.hu) av (rvc 1) (rvl 0) (fun _ _=>rfl))) (by rfl) (eM (by decide)) (fun _=>rfl) ⟨_,bL rfl,fun s H C fp=>cv (i:=0) (show (["place","points"]:List Str).Nodup by decide +kernel) rfl (Or.inl rfl) (Or.inr rfl)⟩) ad rfl) (by decide) (by decide) rfl rfl) rfl (Or.inl rfl) (by rw [hp];rfl)) (ak (eQ (cy (cZ hr.units) c3 (ao C_bend (hr.mono (by decide)) (aa (aF (aw hr.hu) av (rvl 2) af (fun _ _=>rfl)) (aa (aF (aw hr.hu) av (rvl 2) af (fun _ _=>rfl)) (aa (aF (aw hr.hu) av (rvl 2) af (fun _ _=>rfl)) ad rfl) rfl) rfl) rfl (by decide) rfl rfl) af (ba _)) (ak (aK 1 (fun i hi=>by rw [hp];exact aC (by simpa using hi)) (rvl 2))) bZ))) (fun _=>rfl)) (ak (aK 1 (fun i hi=>by rw [hp];exact aC (by simpa using hi)) lX)))
noncomputable def ph:SM:=(aH (sIf (cOr (kH (cB (mUn (rV "tuple") (ac 0)))) (kH (cB (au dP (ab (ac 0) aj))))) (bq 1 (mC (.bl false))) fQ) (bq 1 (ip (au cW (ab (ac 0) aj)) (ah isN (au cw (ab (ac 0) aj)) (mC .non)))))
noncomputable def fF:Fn:=fnM [false] 1 ph
theorem mT:FnScope ["thing"] ["thing"] (ai fh):=⟨rfl,rfl,rfl,by decide +kernel,rfl,by decide +kernel,by decide +kernel⟩
theorem mD (B:Bl mg) (D:Def K mg "is_sheet" fh) (C_are_points:aL P w K mg base "are_points" 3 ["things"] dP) (C_first_on_line:aL P w K mg base "first_on_line" 2 ["points"] cw) (C_has_rising_x:aL P w K mg base "has_rising_x" 1 ["points"] cW):aL P w K mg base "is_sheet" 4 ["thing"] fF :=
 aS (k:=3) D mT rfl rfl (hb1 fun _ _ _ _ _ _ _=>rfl) fun cdv A outer s H E f G hr hp =>
  (ag (eQ (vK (sX (gK (fS (j1 gl rfl B.isinstance (ic (v:=V.ty "tuple") rfl B.tuple jF rfl (by decide) (by decide)) (rvl 0) rfl rfl rfl) (fun _=>rfl))) (oT (gK (fS (ao C_are_points (hr.mono (by decide)) (aa (rvl 0) ad rfl) rfl (by decide) rfl rfl) (fun _=>rfl)))))) (ak (aK 1 (fun i hi=>by rw [hp];exact aC (by simpa using hi)) j4)) bZ) (ak (aK 1 (fun i hi=>by rw [hp];exact aC (by simpa using hi)) (fV (ao C_has_rising_x (hr.mono (by decide)) (aa (rvl 0) ad rfl) rfl (by decide) rfl rfl) (iJ (fk zc zh (ao C_first_on_line (hr.mono (by decide)) (aa (rvl 0) ad rfl) rfl (by decide) rfl rfl) lX (ba _)))))))
noncomputable def kZ:SM:=(sIf (kH (cB (au fF (ab (ac 0) aj)))) oS fQ)
noncomputable def bM:Fn:=fnM [false] 1 kZ
theorem jS:FnScope ["thing"] ["thing"] (ai df):=⟨rfl,rfl,rfl,by decide +kernel,rfl,by decide +kernel,by decide +kernel⟩
theorem jx (B:Bl mg) (D:Def K mg "check_sheet" df) (C_is_sheet:aL P w K mg base "is_sheet" 4 ["thing"] fF):aL P w K mg base "check_sheet" 5 ["thing"] bM :=
 aS (k:=4) D jS rfl rfl (hb1 fun _ _ _ _ _ _ _=>rfl) fun cdv A outer s H E f G hr hp =>
  (ak (eQ (gK (fS (ao C_is_sheet (hr.mono (by decide)) (aa (rvl 0) ad rfl) rfl (by decide) rfl rfl) (fun _=>rfl))) (ak m5) bZ))
noncomputable def rJ:SM:=(bq 2 (mIf (cB (ah gtI (au i7 (ab (ah aD (ac 0) (ah aD (ac 1) (mC (.int 0)))) (ab (ah aD (ac 0) (ah aD (ac 1) (mC (.int 1)))) (ab (ah aD (ac 0) (ah aD (ac 1) (mC (.int 2)))) aj)))) (mC (.int 0)))) (mC (.int 1)) (mUn rA (mC (.int 1)))))
noncomputable def dR:Fn:=fnM [false,false] 2 rJ
theorem oR:FnScope ["sheet","three"] ["sheet","three"] (ai gp):=⟨rfl,rfl,rfl,by decide +kernel,rfl,by decide +kernel,by decide +kernel⟩
theorem oC (B:Bl mg) (D:Def K mg "turn_at" gp) (C_bend:aL P w K mg base "bend" 1 ["first","second","third"] i7):aL P w K mg base "turn_at" 2 ["sheet","three"] dR :=
 aS (k:=1) D oR rfl rfl (hb2 fun _ _ _ _ _ _ _ _=>rfl) fun cdv A outer s H E f G hr hp =>
  (ak (aK 2 (fun i hi=>by rw [hp];exact aC (by simpa using hi)) (re_if (cy xF xG (ao C_bend (hr.mono (by decide)) (aa (aF (aw hr.hu) av (rvl 0) (aF (aw hr.hu) av (rvl 1) af (fun _ _=>rfl)) (fun _ _=>rfl)) (aa (aF (aw hr.hu) av (rvl 0) (aF (aw hr.hu) av (rvl 1) af (fun _ _=>rfl)) (fun _ _=>rfl)) (aa (aF (aw hr.hu) av (rvl 0) (aF (aw hr.hu) av (rvl 1) af (fun _ _=>rfl)) (fun _ _=>rfl)) ad rfl) rfl) rfl) rfl (by decide) rfl rfl) af (ba _)) af (m7 jJ jK af))))
noncomputable def cS:SM:=(kT kQ 1 (ac 2) (au dR (ab (ac 0) (ab (ac 2) aj))))
noncomputable def nU:SM:=(aH (fR (au bM (ab (ac 0) aj))) (aH (a7 1 km) (aH (di (ge (au fe (ab (aB d5 (ab (ac 0) aj)) aj))) (ay 2) cS) (bq 1 (ac 1)))))
noncomputable def bG:Fn:=fnM [false] 3 nU
theorem sc_all_turns:FnScope ["sheet","turns","three"] ["sheet"] (ai eg):=⟨rfl,rfl,rfl,by decide +kernel,rfl,by decide +kernel,by decide +kernel⟩
theorem la (B:Bl mg) (D:Def K mg "all_turns" eg) (C_check_sheet:aL P w K mg base "check_sheet" 5 ["thing"] bM) (C_threes:aL P w K mg base "threes" 1 ["many"] fe) (C_turn_at:aL P w K mg base "turn_at" 2 ["sheet","three"] dR):aL P w K mg base "all_turns" 6 ["sheet"] bG :=
 aS (k:=5) D sc_all_turns rfl rfl (hb1 fun _ _ _ _ _ _ _=>rfl) fun cdv A outer s H E f G hr hp =>
  (ag (fj (ao C_check_sheet (hr.mono (by decide)) (aa (rvl 0) ad rfl) rfl (by decide) rfl rfl) rfl) (ag (aG 1 sc_all_turns.nd rfl (Or.inl rfl) ib rfl (Or.inl rfl) (by rw [hp];rfl)) (ag (bU PassesOwn.never rfl (iI (ao C_threes (hr.mono (by decide)) (aa (aA aE cn rfl B.len dB (aa (rvl 0) ad rfl) (by decide) (by decide) rfl rfl) ad rfl) rfl (by decide) rfl rfl)) (aY 2 sc_all_turns.nd rfl (Or.inl rfl) (Or.inl rfl) (by rw [hp];rfl)) (ak (iG (i:=1) (gm hr.hu) iP (fo rfl (Or.inl rfl) (by decide) (by decide)) (rvl 2) (ao C_turn_at (hr.mono (by decide)) (aa (rvl 0) (aa (rvl 2) ad rfl) rfl) rfl (by decide) rfl rfl) (fun _=>rfl) rfl rfl rfl)) (fun _=>rfl)) (ak (aK 1 (fun i hi=>by rw [hp];exact aC (by simpa using hi)) (rvl 1))))))
noncomputable def cK:M3 Bool:=(cB (ah eqX (ah aD (ac 4) (bW (ab (ac 0) (ab (ac 2) (ab (ac 5) aj))))) (ac 3)))
noncomputable def cJ:EM:=(ah aD (ac 1) (bW (ab (ac 0) (ab (ac 2) aj))))
noncomputable def dS:EM:=(cT (aR b6 (ab (ac 4) aj)) (ay 0) cK cJ [none,some 3,some 4,some 1,some 2,some 5])
noncomputable def cM:SM:=(kT kQ 3 (bW (ab (ac 4) (ab (ac 5) aj))) (ah bF (mC (.int 1)) (ah rG dS (mC (.int 1)))))
noncomputable def cL:SM:=(di (aR eJ (ab (ah bF (ac 4) (mC (.int 1))) (ab (aB d5 (ab (ac 0) aj)) aj))) (ay 5) cM)
noncomputable def nM:SM:=(aH (a7 2 (au bG (ab (ac 0) aj))) (aH (a7 3 km) (aH (di (aR b6 (ab (aB d5 (ab (ac 0) aj)) aj)) (ay 4) cL) (bq 2 (ac 3)))))
noncomputable def cE:Fn:=fnM [false,false] 6 nM
theorem sc_row_table:FnScope ["sheet","way","turns","most","i","j"] ["sheet","way"] (ai d7):=⟨rfl,rfl,rfl,by decide +kernel,rfl,by decide +kernel,by decide +kernel⟩
theorem k6 (B:Bl mg) (D:Def K mg "row_table" d7) (C_all_turns:aL P w K mg base "all_turns" 6 ["sheet"] bG):aL P w K mg base "row_table" 7 ["sheet","way"] cE :=
 aS (k:=6) D sc_row_table rfl rfl (hb2 fun _ _ _ _ _ _ _ _=>rfl) fun cdv A outer s H E f G hr hp =>
  (ag (aG 2 sc_row_table.nd rfl (Or.inr rfl) (ao C_all_turns (hr.mono (by decide)) (aa (rvl 0) ad rfl) rfl (by decide) rfl rfl) rfl (Or.inl rfl) (by rw [hp];rfl)) (ag (aG 3 sc_row_table.nd rfl (Or.inr rfl) ib rfl (Or.inl rfl) (by rw [hp];rfl)) (ag (bU PassesOwn.never rfl (b7 rfl B.range (aa (aA aE cn rfl B.len dB (aa (rvl 0) ad rfl) (by decide) (by decide) rfl rfl) ad rfl) rfl) (aY 4 sc_row_table.nd rfl (Or.inr rfl) (Or.inl rfl) (by rw [hp];rfl)) (ak (bU PassesOwn.never rfl (gu rfl B.range (aa (am aI aT (rvc 4) af) (aa (aA aE cn rfl B.len dB (aa (rvl 0) ad rfl) (by decide) (by decide) rfl rfl) ad rfl) rfl) rfl rfl) (aY 5 sc_row_table.nd rfl (Or.inr rfl) (Or.inl rfl) (by rw [hp];rfl)) (ak (iG (i:=3) (gm hr.hu) iP (fo rfl (Or.inr (Or.inl rfl)) (by decide) (by decide)) (aQ (aa (rvc 4) (aa (rvc 5) ad rfl) rfl)) (am aI aT af (tD (mW rfl) qh rfl B.max jj (eh ["h","most","i","way","turns","j"] [none,some 3,some 4,some 1,some 2,some 5] rfl (b7 rfl B.range (aa (rvc 4) ad rfl) rfl) (fun s H C fp=>(gZ (cy (cZ hr.units) c3 (aF (aw hr.hu) av (rvc 4) (aQ (aa (rvl 0) (aa (rvc 2) (aa (rvc 5) ad rfl) rfl) rfl)) (fun _ _=>rfl)) (rvc 3) (ba _)))) (fun s H C fp=>(aF (aw hr.hu) av (rvc 1) (aQ (aa (rvl 0) (aa (rvc 2) ad rfl) rfl)) (fun _ _=>rfl))) (by rfl) (eM (by decide)) (fun _=>rfl) ⟨_,bL rfl,fun s H C fp=>cv (i:=0) (show (["h","most","i","way","turns","j"]:List Str).Nodup by decide +kernel) rfl (Or.inl rfl) (Or.inr rfl)⟩) af (by decide) (by decide) rfl rfl rfl rfl rfl rfl)) (fun _=>rfl) rfl rfl rfl)) (fun _=>rfl))) (fun _=>rfl)) (ak (aK 2 (fun i hi=>by rw [hp];exact aC (by simpa using hi)) (rvc 3))))))
noncomputable def nQ:SM:=(bq 1 (au cE (ab (ac 0) (ab (mC (.int (1))) aj))))
noncomputable def eF:Fn:=fnM [false] 1 nQ
theorem lS:FnScope ["sheet"] ["sheet"] (ai d9):=⟨rfl,rfl,rfl,by decide +kernel,rfl,by decide +kernel,by decide +kernel⟩
theorem k8 (B:Bl mg) (D:Def K mg "cup_table" d9) (C_row_table:aL P w K mg base "row_table" 7 ["sheet","way"] cE) {tk_UP:Tok} (Q_UP:mg "UP"=some (.int (1) tk_UP)):aL P w K mg base "cup_table" 8 ["sheet"] eF :=
 aS (k:=7) D lS rfl rfl (hb1 fun _ _ _ _ _ _ _=>rfl) fun cdv A outer s H E f G hr hp =>
  (ak (aK 1 (fun i hi=>by rw [hp];exact aC (by simpa using hi)) (ao C_row_table (hr.mono (by decide)) (aa (rvl 0) (aa (cI rfl Q_UP (by decide)) ad rfl) rfl) rfl (by decide) rfl rfl)))
noncomputable def nR:SM:=(bq 1 (au cE (ab (ac 0) (ab (mC (.int (-1))) aj))))
noncomputable def eG:Fn:=fnM [false] 1 nR
theorem lT:FnScope ["sheet"] ["sheet"] (ai ee):=⟨rfl,rfl,rfl,by decide +kernel,rfl,by decide +kernel,by decide +kernel⟩
theorem k9 (B:Bl mg) (D:Def K mg "cap_table" ee) (C_row_table:aL P w K mg base "row_table" 7 ["sheet","way"] cE) {tk_DOWN:Tok} (Q_DOWN:mg "DOWN"=some (.int (-1) tk_DOWN)):aL P w K mg base "cap_table" 8 ["sheet"] eG :=
 aS (k:=7) D lT rfl rfl (hb1 fun _ _ _ _ _ _ _=>rfl) fun cdv A outer s H E f G hr hp =>
  (ak (aK 1 (fun i hi=>by rw [hp];exact aC (by simpa using hi)) (ao C_row_table (hr.mono (by decide)) (aa (rvl 0) (aa (cI rfl Q_DOWN (by decide)) ad rfl) rfl) rfl (by decide) rfl rfl)))
noncomputable def bP:M3 Bool:=(cB (ah eqX (ah aD (ac 4) (bW (ab (ac 5) (ab (ac 2) (ab (ac 0) aj))))) (ac 3)))
noncomputable def bO:EM:=(ah aD (ac 1) (bW (ab (ac 2) (ab (ac 0) aj))))
noncomputable def cN:EM:=(cT (aR eJ (ab (ah bF (ac 5) (mC (.int 1))) (ab (ac 1) aj))) (ay 0) bP bO [none,some 3,some 5,some 2,some 0,some 4])
noncomputable def bR:SM:=(kT kQ 3 (bW (ab (ac 4) (ab (ac 5) aj))) (ah bF (mC (.int 1)) (ah rG cN (mC (.int 1)))))
noncomputable def bQ:SM:=(di (aR eJ (ab (ah bF (ac 4) (mC (.int 1))) (ab (ac 1) aj))) (ay 5) bR)
noncomputable def ki:SM:=(aH (a7 3 km) (aH (di (aR oX (ab (ah fN (ac 1) (mC (.int 2))) (ab (mUn rA (mC (.int 1))) (ab (mUn rA (mC (.int 1))) aj)))) (ay 4) bQ) (bq 3 (ac 3))))
noncomputable def cV:Fn:=fnM [false,false,false] 6 ki
theorem sc_onward_table:FnScope ["turns","many","way","most","i","j"] ["turns","many","way"] (ai cF):=⟨rfl,rfl,rfl,by decide +kernel,rfl,by decide +kernel,by decide +kernel⟩
theorem iX (B:Bl mg) (D:Def K mg "onward_table" cF):aL P w K mg base "onward_table" 1 ["turns","many","way"] cV :=
 aS (k:=0) D sc_onward_table rfl rfl (hb3 fun _ _ _ _ _ _ _ _ _=>rfl) fun cdv A outer s H E f G hr hp =>
  (ag (aG 3 sc_onward_table.nd rfl (Or.inr rfl) ib rfl (Or.inl rfl) (by rw [hp];rfl)) (ag (bU PassesOwn.never rfl (vP rfl B.range (aa (am cg bA (rvl 1) af) (aa (m7 jJ jK af) (aa (m7 jJ jK af) ad rfl) rfl) rfl) rfl rfl) (aY 4 sc_onward_table.nd rfl (Or.inr rfl) (Or.inl rfl) (by rw [hp];rfl)) (ak (bU PassesOwn.never rfl (gu rfl B.range (aa (am aI aT (rvc 4) af) (aa (rvl 1) ad rfl) rfl) rfl rfl) (aY 5 sc_onward_table.nd rfl (Or.inr rfl) (Or.inl rfl) (by rw [hp];rfl)) (ak (iG (i:=3) (gm hr.hu) iP (fo rfl (Or.inr (Or.inl rfl)) (by decide) (by decide)) (aQ (aa (rvc 4) (aa (rvc 5) ad rfl) rfl)) (am aI aT af (tD (mW rfl) qh rfl B.max jj (eh ["k","most","j","way","turns","i"] [none,some 3,some 5,some 2,some 0,some 4] rfl (gu rfl B.range (aa (am aI aT (rvc 5) af) (aa (rvl 1) ad rfl) rfl) rfl rfl) (fun s H C fp=>(gZ (cy (cZ hr.units) c3 (aF (aw hr.hu) av (rvc 4) (aQ (aa (rvc 5) (aa (rvc 2) (aa (rvl 0) ad rfl) rfl) rfl)) (fun _ _=>rfl)) (rvc 3) (ba _)))) (fun s H C fp=>(aF (aw hr.hu) av (rvc 1) (aQ (aa (rvc 2) (aa (rvl 0) ad rfl) rfl)) (fun _ _=>rfl))) (by rfl) (eM (by decide)) (fun _=>rfl) ⟨_,bL rfl,fun s H C fp=>cv (i:=0) (show (["k","most","j","way","turns","i"]:List Str).Nodup by decide +kernel) rfl (Or.inl rfl) (Or.inr rfl)⟩) af (by decide) (by decide) rfl rfl rfl rfl rfl rfl)) (fun _=>rfl) rfl rfl rfl)) (fun _=>rfl))) (fun _=>rfl)) (ak (aK 3 (fun i hi=>by rw [hp];exact aC (by simpa using hi)) (rvc 3)))))
noncomputable def b9:M3 Bool:=(cB (ah eqX (ah aD (ac 2) (ac 0)) (ac 1)))
noncomputable def eW:EM:=(ac 0)
noncomputable def c4:EM:=(cT (mm (ac 3)) (ay 0) b9 eW [none,some 4,some 3])
noncomputable def b8:M3 Bool:=(pI (cB (ah eqX (ah aD (ac 3) (bW (ab (ac 5) (ab (ac 6) (ab (ac 0) aj))))) (ac 1))) (cB (ah eqX (ah aD (ac 4) (bW (ab (ac 6) (ab (ac 0) aj)))) (ac 2))))
noncomputable def eV:EM:=(ac 0)
noncomputable def eU:EM:=(cT (aR eJ (ab (ah bF (ac 7) (mC (.int 1))) (ab (ac 1) aj))) (ay 0) b8 eV [none,some 2,some 8,some 0,some 3,some 6,some 7])
noncomputable def bD:M3 Bool:=(cB (ah ltI (aB d5 (ab (ac 5) aj)) (ac 4)))
noncomputable def cb:SM:=(aH (a7 6 (ah aD (ac 5) (mUn rA (mC (.int 2))))) (aH (a7 7 (ah aD (ac 5) (mUn rA (mC (.int 1))))) (aH (a7 8 (ah bF (ah fN (ac 4) (aB d5 (ab (ac 5) aj))) (mC (.int 1)))) (a7 5 (ah bF (ac 5) (bW (ab (aB ql (ab eU aj)) aj)))))))
noncomputable def kW:SM:=(aH (sIf (cB (ah eqX (ac 1) (mC (.int 1)))) (bq 3 (mC .non)) fQ) (aH (a7 3 (au cV (ab (ac 0) (ab (ac 1) (ab (ac 2) aj))))) (aH (a7 4 (aB nI (ab (ac 3) aj))) (aH (a7 5 (aB qk (ab c4 aj))) (aH (eI bD cb) (bq 3 (ac 5)))))))
noncomputable def bu:Fn:=fnM [false,false,false] 9 kW
theorem sc_longest_row:FnScope ["turns","many","way","onward","length","row","i","j","left"] ["turns","many","way"] (ai c8):=⟨rfl,rfl,rfl,by decide +kernel,rfl,by decide +kernel,by decide +kernel⟩
theorem ju (B:Bl mg) (D:Def K mg "longest_row" c8) (C_onward_table:aL P w K mg base "onward_table" 1 ["turns","many","way"] cV):aL P w K mg base "longest_row" 2 ["turns","many","way"] bu :=
 aS (k:=1) D sc_longest_row rfl rfl (hb3 fun _ _ _ _ _ _ _ _ _=>rfl) fun cdv A outer s H E f G hr hp =>
  (ag (eQ (cy (cZ hr.units) c3 (rvl 1) af (ba _)) (ak (aK 3 (fun i hi=>by rw [hp];exact aC (by simpa using hi)) lX)) bZ) (ag (aG 3 sc_longest_row.nd rfl (Or.inr rfl) (ao C_onward_table (hr.mono (by decide)) (aa (rvc 0) (aa (rvl 1) (aa (rvc 2) ad rfl) rfl) rfl) rfl (by decide) rfl rfl) rfl (Or.inl rfl) (by rw [hp];rfl)) (ag (aG 4 sc_longest_row.nd rfl (Or.inr rfl) (vR rfl rfl B.max (rvc 3) rfl rfl rfl rfl) rfl (Or.inl rfl) (by rw [hp];rfl)) (ag (aG 5 sc_longest_row.nd rfl (Or.inl rfl) (aA (sh rfl hr.hu) xb rfl B.min kI (aa (eh ["pair","length","onward"] [none,some 4,some 3] rfl (vQ (rvc 3)) (fun s H C fp=>(gZ (cy (cZ hr.units) c3 (aF (aw hr.hu) av (rvc 2) (rvl 0) (fun _ _=>rfl)) (rvc 1) (ba _)))) (fun s H C fp=>(rvl 0)) (by rfl) (eM (by decide)) (fun _=>rfl) ⟨_,bL rfl,fun s H C fp=>cv (i:=0) (show (["pair","length","onward"]:List Str).Nodup by decide +kernel) rfl (Or.inl rfl) (Or.inr rfl)⟩) ad rfl) (by decide) (by decide) rfl rfl) rfl (Or.inl rfl) (by rw [hp];rfl)) (ag (m4 PassesOwn.never (cy nv nz (aA aE cn rfl B.len dB (aa (rvl 5) ad rfl) (by decide) (by decide) rfl rfl) (rvc 4) (ba _)) (ag (aG 6 sc_longest_row.nd rfl (Or.inr rfl) (aF (aw hr.hu) av (rvl 5) (m7 jJ jK af) (fun _ _=>rfl)) rfl (Or.inl rfl) (by rw [hp];rfl)) (ag (aG 7 sc_longest_row.nd rfl (Or.inr rfl) (aF (aw hr.hu) av (rvl 5) (m7 jJ jK af) (fun _ _=>rfl)) rfl (Or.inl rfl) (by rw [hp];rfl)) (ag (aG 8 sc_longest_row.nd rfl (Or.inr rfl) (am aI aT (am cg bA (rvc 4) (aA aE cn rfl B.len dB (aa (rvl 5) ad rfl) (by decide) (by decide) rfl rfl)) af) rfl (Or.inl rfl) (by rw [hp];rfl)) (ak (aG 5 sc_longest_row.nd rfl (Or.inl rfl) (am aI aT (rvl 5) (aQ (aa (aA (sj rfl) xc rfl B.min kI (aa (eh ["k","way","left","turns","onward","i","j"] [none,some 2,some 8,some 0,some 3,some 6,some 7] rfl (gu rfl B.range (aa (am aI aT (rvc 7) af) (aa (rvl 1) ad rfl) rfl) rfl rfl) (fun s H C fp=>(gZ (vK (yy (cy (cZ hr.units) c3 (aF (aw hr.hu) av (rvc 3) (aQ (aa (rvc 5) (aa (rvc 6) (aa (rvl 0) ad rfl) rfl) rfl)) (fun _ _=>rfl)) (rvc 1) (ba _)) (vC (cy (cZ hr.units) c3 (aF (aw hr.hu) av (rvc 4) (aQ (aa (rvc 6) (aa (rvl 0) ad rfl) rfl)) (fun _ _=>rfl)) (rvc 2) (ba _))))))) (fun s H C fp=>(rvl 0)) (by rfl) (eM (by decide)) (fun _=>rfl) ⟨_,bL rfl,fun s H C fp=>cv (i:=0) (show (["k","way","left","turns","onward","i","j"]:List Str).Nodup by decide +kernel) rfl (Or.inl rfl) (Or.inr rfl)⟩) ad rfl) (by decide) (by decide) rfl rfl) ad rfl))) rfl (Or.inl rfl) (by rw [hp];rfl))))))) (ak (aK 3 (fun i hi=>by rw [hp];exact aC (by simpa using hi)) (rvl 5))))))))
noncomputable def kX:SM:=(bq 1 (au bu (ab (au bG (ab (ac 0) aj)) (ab (aB d5 (ab (ac 0) aj)) (ab (mC (.int (1))) aj)))))
noncomputable def dg:Fn:=fnM [false] 1 kX
theorem jQ:FnScope ["sheet"] ["sheet"] (ai c9):=⟨rfl,rfl,rfl,by decide +kernel,rfl,by decide +kernel,by decide +kernel⟩
theorem jv (B:Bl mg) (D:Def K mg "longest_cup" c9) (C_all_turns:aL P w K mg base "all_turns" 6 ["sheet"] bG) (C_longest_row:aL P w K mg base "longest_row" 2 ["turns","many","way"] bu) {tk_UP:Tok} (Q_UP:mg "UP"=some (.int (1) tk_UP)):aL P w K mg base "longest_cup" 7 ["sheet"] dg :=
 aS (k:=6) D jQ rfl rfl (hb1 fun _ _ _ _ _ _ _=>rfl) fun cdv A outer s H E f G hr hp =>
  (ak (aK 1 (fun i hi=>by rw [hp];exact aC (by simpa using hi)) (ao C_longest_row (hr.mono (by decide)) (aa (ao C_all_turns (hr.mono (by decide)) (aa (rvl 0) ad rfl) rfl (by decide) rfl rfl) (aa (aA aE cn rfl B.len dB (aa (rvl 0) ad rfl) (by decide) (by decide) rfl rfl) (aa (cI rfl Q_UP (by decide)) ad rfl) rfl) rfl) rfl (by decide) rfl rfl)))
noncomputable def kY:SM:=(bq 1 (au bu (ab (au bG (ab (ac 0) aj)) (ab (aB d5 (ab (ac 0) aj)) (ab (mC (.int (-1))) aj)))))
noncomputable def dh:Fn:=fnM [false] 1 kY
theorem jR:FnScope ["sheet"] ["sheet"] (ai de):=⟨rfl,rfl,rfl,by decide +kernel,rfl,by decide +kernel,by decide +kernel⟩
theorem jw (B:Bl mg) (D:Def K mg "longest_cap" de) (C_all_turns:aL P w K mg base "all_turns" 6 ["sheet"] bG) (C_longest_row:aL P w K mg base "longest_row" 2 ["turns","many","way"] bu) {tk_DOWN:Tok} (Q_DOWN:mg "DOWN"=some (.int (-1) tk_DOWN)):aL P w K mg base "longest_cap" 7 ["sheet"] dh :=
 aS (k:=6) D jR rfl rfl (hb1 fun _ _ _ _ _ _ _=>rfl) fun cdv A outer s H E f G hr hp =>
  (ak (aK 1 (fun i hi=>by rw [hp];exact aC (by simpa using hi)) (ao C_longest_row (hr.mono (by decide)) (aa (ao C_all_turns (hr.mono (by decide)) (aa (rvl 0) ad rfl) rfl (by decide) rfl rfl) (aa (aA aE cn rfl B.len dB (aa (rvl 0) ad rfl) (by decide) (by decide) rfl rfl) (aa (cI rfl Q_DOWN (by decide)) ad rfl) rfl) rfl) rfl (by decide) rfl rfl)))
noncomputable def gB:SM:=(aH (fR (au bY (ab (ac 0) (ab (mC (.int (2))) (ab (mC (.int (9))) aj))))) (fR (au bY (ab (ac 1) (ab (mC (.int (2))) (ab (mC (.int (9))) aj))))))
noncomputable def bC:Fn:=fnM [false,false] 2 gB
theorem fO:FnScope ["k","l"] ["k","l"] (ai bz):=⟨rfl,rfl,rfl,by decide +kernel,rfl,by decide +kernel,by decide +kernel⟩
theorem fJ (B:Bl mg) (D:Def K mg "check_two_numbers" bz) (C_check_number:aL P w K mg base "check_number" 2 ["thing","least","most"] bY) {tk_LEAST_PLACES:Tok} (Q_LEAST_PLACES:mg "LEAST_PLACES"=some (.int (2) tk_LEAST_PLACES)) {tk_MOST_PLACES:Tok} (Q_MOST_PLACES:mg "MOST_PLACES"=some (.int (9) tk_MOST_PLACES)):aL P w K mg base "check_two_numbers" 3 ["k","l"] bC :=
 aS (k:=2) D fO rfl rfl (hb2 fun _ _ _ _ _ _ _ _=>rfl) fun cdv A outer s H E f G hr hp =>
  (ag (fj (ao C_check_number (hr.mono (by decide)) (aa (rvl 0) (aa (cI rfl Q_LEAST_PLACES (by decide)) (aa (cI rfl Q_MOST_PLACES (by decide)) ad rfl) rfl) rfl) rfl (by decide) rfl rfl) rfl) (ak (fj (ao C_check_number (hr.mono (by decide)) (aa (rvl 1) (aa (cI rfl Q_LEAST_PLACES (by decide)) (aa (cI rfl Q_MOST_PLACES (by decide)) ad rfl) rfl) rfl) rfl (by decide) rfl rfl) rfl)))
noncomputable def md:SM:=(bq 2 (ip (ah zi (ac 0) (mC .non)) (ah geI (aB d5 (ab (ac 0) aj)) (ac 1))))
noncomputable def cX:Fn:=fnM [false,false] 2 md
theorem kR:FnScope ["row","many"] ["row","many"] (ai dE):=⟨rfl,rfl,rfl,by decide +kernel,rfl,by decide +kernel,by decide +kernel⟩
theorem kE (B:Bl mg) (D:Def K mg "has_places" dE):aL P w K mg base "has_places" 1 ["row","many"] cX :=
 aS (k:=0) D kR rfl rfl (hb2 fun _ _ _ _ _ _ _ _=>rfl) fun cdv A outer s H E f G hr hp =>
  (ak (aK 2 (fun i hi=>by rw [hp];exact aC (by simpa using hi)) (fV (fk wq wx (rvl 0) lX (ba _)) (iJ (fk op_ge od_ge (aA aE cn rfl B.len dB (aa (rvl 0) ad rfl) (by decide) (by decide) rfl rfl) (rvl 1) (ba _))))))
noncomputable def me:SM:=(aH (fR (au bM (ab (ac 0) aj))) (aH (fR (au bC (ab (ac 1) (ab (ac 2) aj)))) (aH (a7 3 (au dg (ab (ac 0) aj))) (aH (sIf (cB (au cX (ab (ac 3) (ab (ac 1) aj)))) (bq 3 (bW (ab (mC (.str "cup")) (ab (mSl slD (ac 3) qd (nt (ac 1))) aj)))) fQ) (aH (a7 4 (au dh (ab (ac 0) aj))) (aH (sIf (cB (au cX (ab (ac 4) (ab (ac 2) aj)))) (bq 3 (bW (ab (mC (.str "cap")) (ab (mSl slD (ac 4) qd (nt (ac 2))) aj)))) fQ) (bq 3 (bW (ab (mC (.str "none")) (ab (bW (ab (au eF (ab (ac 0) aj)) (ab (au eG (ab (ac 0) aj)) aj))) aj))))))))))
noncomputable def dO:Fn:=fnM [false,false,false] 5 me
theorem sc_cup_or_cap:FnScope ["sheet","k","l","cup","cap"] ["sheet","k","l"] (ai dF):=⟨rfl,rfl,rfl,by decide +kernel,rfl,by decide +kernel,by decide +kernel⟩
theorem kF (B:Bl mg) (D:Def K mg "cup_or_cap" dF) (C_cap_table:aL P w K mg base "cap_table" 8 ["sheet"] eG) (C_check_sheet:aL P w K mg base "check_sheet" 5 ["thing"] bM) (C_check_two_numbers:aL P w K mg base "check_two_numbers" 3 ["k","l"] bC) (C_cup_table:aL P w K mg base "cup_table" 8 ["sheet"] eF) (C_has_places:aL P w K mg base "has_places" 1 ["row","many"] cX) (C_longest_cap:aL P w K mg base "longest_cap" 7 ["sheet"] dh) (C_longest_cup:aL P w K mg base "longest_cup" 7 ["sheet"] dg):aL P w K mg base "cup_or_cap" 9 ["sheet","k","l"] dO :=
 aS (k:=8) D sc_cup_or_cap rfl rfl (hb3 fun _ _ _ _ _ _ _ _ _=>rfl) fun cdv A outer s H E f G hr hp =>
  (ag (fj (ao C_check_sheet (hr.mono (by decide)) (aa (rvl 0) ad rfl) rfl (by decide) rfl rfl) rfl) (ag (fj (ao C_check_two_numbers (hr.mono (by decide)) (aa (rvl 1) (aa (rvl 2) ad rfl) rfl) rfl (by decide) rfl rfl) rfl) (ag (aG 3 sc_cup_or_cap.nd rfl (Or.inl rfl) (ao C_longest_cup (hr.mono (by decide)) (aa (rvl 0) ad rfl) rfl (by decide) rfl rfl) rfl (Or.inl rfl) (by rw [hp];rfl)) (ag (eQ (fS (ao C_has_places (hr.mono (by decide)) (aa (rvl 3) (aa (rvl 1) ad rfl) rfl) rfl (by decide) rfl rfl) (fun _=>rfl)) (ak (aK 3 (fun i hi=>by rw [hp];exact aC (by simpa using hi)) (aQ (aa lW (aa (m8 (rvl 3) pW (pV (rvl 1))) ad rfl) rfl)))) bZ) (ag (aG 4 sc_cup_or_cap.nd rfl (Or.inl rfl) (ao C_longest_cap (hr.mono (by decide)) (aa (rvl 0) ad rfl) rfl (by decide) rfl rfl) rfl (Or.inl rfl) (by rw [hp];rfl)) (ag (eQ (fS (ao C_has_places (hr.mono (by decide)) (aa (rvl 4) (aa (rvl 2) ad rfl) rfl) rfl (by decide) rfl rfl) (fun _=>rfl)) (ak (aK 3 (fun i hi=>by rw [hp];exact aC (by simpa using hi)) (aQ (aa lW (aa (m8 (rvl 4) pW (pV (rvl 2))) ad rfl) rfl)))) bZ) (ak (aK 3 (fun i hi=>by rw [hp];exact aC (by simpa using hi)) (aQ (aa lW (aa (aQ (aa (ao C_cup_table (hr.mono (by decide)) (aa (rvl 0) ad rfl) rfl (by decide) rfl rfl) (aa (ao C_cap_table (hr.mono (by decide)) (aa (rvl 0) ad rfl) rfl (by decide) rfl rfl) ad rfl) rfl)) ad rfl) rfl))))))))))
noncomputable def wI:SM:=(bq 3 (ah eqX (ah aD (au dO (ab (ac 0) (ab (ac 1) (ab (ac 2) aj)))) (mC (.int 0))) (mC (.str "none"))))
noncomputable def jG:Fn:=fnM [false,false,false] 3 wI
theorem sU:FnScope ["sheet","k","l"] ["sheet","k","l"] (ai jy):=⟨rfl,rfl,rfl,by decide +kernel,rfl,by decide +kernel,by decide +kernel⟩
theorem su (B:Bl mg) (D:Def K mg "lacks" jy) (C_cup_or_cap:aL P w K mg base "cup_or_cap" 9 ["sheet","k","l"] dO):aL P w K mg base "lacks" 10 ["sheet","k","l"] jG :=
 aS (k:=9) D sU rfl rfl (hb3 fun _ _ _ _ _ _ _ _ _=>rfl) fun cdv A outer s H E f G hr hp =>
  (ak (aK 3 (fun i hi=>by rw [hp];exact aC (by simpa using hi)) (fk (cZ hr.units) c3 (aF (aw hr.hu) av (ao C_cup_or_cap (hr.mono (by decide)) (aa (rvl 0) (aa (rvl 1) (aa (rvl 2) ad rfl) rfl) rfl) rfl (by decide) rfl rfl) af (fun _ _=>rfl)) lW (ba _))))
noncomputable def fv:SM:=(aH (a7 5 (ah nE (ah bF (ah bF (ah fq (ah nE (ac 2) (mC (.int 2147483647))) (mC (.int 48271))) (ah fq (mC (.int 7919)) (ac 4))) (mC (.int 1))) (mC (.int 2147483647)))) (aH (a7 5 (ah nE (ah fq (ac 5) (ac 5)) (mC (.int 2147483629)))) (a7 3 (ah bF (ah fq (ac 3) (mC (.int 2147483647))) (ah nE (ah fq (ac 5) (ah bF (ac 5) (mC (.int 13)))) (mC (.int 2147483647)))))))
noncomputable def wJ:SM:=(aH (a7 2 (ah bF (ah fq (mC (.int 7919)) (ac 1)) (mC (.int 13)))) (aH (sIf (cB (ah ltI (ac 1) (aB d5 (ab (ac 0) aj)))) (a7 2 (ah aD (ac 0) (ac 1))) fQ) (aH (sIf (cB (ah eqX (ah nE (ac 2) (mC (.int 2))) (mC (.int 0)))) (bq 2 (jq (ab (ah zL (ac 2) (mC (.int 2))) aj))) fQ) (aH (a7 3 (mC (.int 0))) (aH (di (aR b6 (ab (mC (.int 16)) aj)) (ay 4) fv) (bq 2 (jq (ab (ac 3) aj))))))))
noncomputable def jH:Fn:=fnM [false,false] 6 wJ
theorem sc_l_box:FnScope ["_law_script","_law_k","_law_here","_law_number","_law_j","_law_part"] ["_law_script","_law_k"] (ai jz):=⟨rfl,rfl,rfl,by decide +kernel,rfl,by decide +kernel,by decide +kernel⟩
theorem sy (B:Bl mg) (D:Def K mg "_law_box" jz):aL P w K mg base "_law_box" 1 ["_law_script","_law_k"] jH :=
 aS (k:=0) D sc_l_box rfl rfl (hb2 fun _ _ _ _ _ _ _ _=>rfl) fun cdv A outer s H E f G hr hp =>
  (ag (aG 2 sc_l_box.nd rfl (Or.inl rfl) (am aI aT (am ci bB af (rvl 1)) af) rfl (Or.inl rfl) (by rw [hp];rfl)) (ag (eQ (cy nv nz (rvl 1) (aA aE cn rfl B.len dB (aa (rvl 0) ad rfl) (by decide) (by decide) rfl rfl) (ba _)) (ak (aG 2 sc_l_box.nd rfl (Or.inl rfl) (aF (aw hr.hu) av (rvl 0) (rvl 1) (fun _ _=>rfl)) rfl (Or.inl rfl) (by rw [hp];rfl))) bZ) (ag (eQ (cy (cZ hr.units) c3 (am iK gv (rvl 2) af) af (ba _)) (ak (aK 2 (fun i hi=>by rw [hp];exact aC (by simpa using hi)) (fU (aa (am t3 wz (rvl 2) af) ad rfl)))) bZ) (ag (aG 3 sc_l_box.nd rfl (Or.inl rfl) af rfl (Or.inl rfl) (by rw [hp];rfl)) (ag (bU PassesOwn.never rfl (b7 rfl B.range (aa af ad rfl) rfl) (aY 4 sc_l_box.nd rfl (Or.inl rfl) (Or.inl rfl) (by rw [hp];rfl)) (ag (aG 5 sc_l_box.nd rfl (Or.inl rfl) (am iK gv (am aI aT (am aI aT (am ci bB (am iK gv (rvl 2) af) af) (am ci bB af (rvl 4))) af) af) rfl (Or.inl rfl) (by rw [hp];rfl)) (ag (aG 5 sc_l_box.nd rfl (Or.inl rfl) (am iK gv (am ci bB (rvl 5) (rvl 5)) af) rfl (Or.inl rfl) (by rw [hp];rfl)) (ak (aG 3 sc_l_box.nd rfl (Or.inl rfl) (am aI aT (am ci bB (rvl 3) af) (am iK gv (am ci bB (rvl 5) (am aI aT (rvl 5) af)) af)) rfl (Or.inl rfl) (by rw [hp];rfl))))) (fun _=>rfl)) (ak (aK 2 (fun i hi=>by rw [hp];exact aC (by simpa using hi)) (fU (aa (rvl 3) ad rfl)))))))))
noncomputable def ug:SM:=(aH (sW (pL 2 (fI (ay 2) (fI (ay 3) pM))) (aB uI (ab (ah aD (ac 0) (mC (.int 0))) (ab (ac 1) aj)))) (aH (kT kQ 0 (mC (.int 0)) (ac 2)) (bq 2 (ac 3))))
noncomputable def bp:Fn:=fnM [false,false] 4 ug
theorem sc_l_take:FnScope ["_law_box_here","_law_many","_law_left","_law_digit"] ["_law_box_here","_law_many"] (ai gU):=⟨rfl,rfl,rfl,by decide +kernel,rfl,by decide +kernel,by decide +kernel⟩
theorem pF (B:Bl mg) (D:Def K mg "_law_take" gU):aL P w K mg base "_law_take" 1 ["_law_box_here","_law_many"] bp :=
 aS (k:=0) D sc_l_take rfl rfl (hb2 fun _ _ _ _ _ _ _ _=>rfl) fun cdv A outer s H E f G hr hp =>
  (ag (yD (tw rfl (hU (aY 2 sc_l_take.nd rfl (Or.inl rfl) (Or.inl rfl) (by rw [hp];rfl)) (hU (aY 3 sc_l_take.nd rfl (Or.inl rfl) (Or.inl rfl) (by rw [hp];rfl)) pY rfl) rfl) rfl rfl) (aA oA se rfl B.divmod uT (aa (aF (aw hr.hu) av (rvl 0) af (fun _ _=>rfl)) (aa (rvl 1) ad rfl) rfl) (by decide) (by decide) rfl rfl) rfl rfl rfl) (ag (iG (i:=0) (gm hr.hu) iP (fo rfl (Or.inl rfl) (by decide) (by decide)) af (rvl 2) (fun _=>rfl) rfl rfl rfl) (ak (aK 2 (fun i hi=>by rw [hp];exact aC (by simpa using hi)) (rvl 3)))))
noncomputable def uh:SM:=(aH (a7 3 (ah fq (ah fN (ah aD (ac 1) (mC (.int 0))) (ah aD (ac 0) (mC (.int 0)))) (ah fN (ah aD (ac 2) (mC (.int 1))) (ah aD (ac 0) (mC (.int 1)))))) (bq 3 (ah fN (ac 3) (ah fq (ah fN (ah aD (ac 1) (mC (.int 1))) (ah aD (ac 0) (mC (.int 1)))) (ah fN (ah aD (ac 2) (mC (.int 0))) (ah aD (ac 0) (mC (.int 0))))))))
noncomputable def dw:Fn:=fnM [false,false,false] 4 uh
theorem sc_l_bend:FnScope ["_law_one","_law_two","_law_three","_law_across"] ["_law_one","_law_two","_law_three"] (ai gX):=⟨rfl,rfl,rfl,by decide +kernel,rfl,by decide +kernel,by decide +kernel⟩
theorem pH (B:Bl mg) (D:Def K mg "_law_bend" gX):aL P w K mg base "_law_bend" 1 ["_law_one","_law_two","_law_three"] dw :=
 aS (k:=0) D sc_l_bend rfl rfl (hb3 fun _ _ _ _ _ _ _ _ _=>rfl) fun cdv A outer s H E f G hr hp =>
  (ag (aG 3 sc_l_bend.nd rfl (Or.inl rfl) (am ci bB (am cg bA (aF (aw hr.hu) av (rvl 1) af (fun _ _=>rfl)) (aF (aw hr.hu) av (rvl 0) af (fun _ _=>rfl))) (am cg bA (aF (aw hr.hu) av (rvl 2) af (fun _ _=>rfl)) (aF (aw hr.hu) av (rvl 0) af (fun _ _=>rfl)))) rfl (Or.inl rfl) (by rw [hp];rfl)) (ak (aK 3 (fun i hi=>by rw [hp];exact aC (by simpa using hi)) (am cg bA (rvl 3) (am ci bB (am cg bA (aF (aw hr.hu) av (rvl 1) af (fun _ _=>rfl)) (aF (aw hr.hu) av (rvl 0) af (fun _ _=>rfl))) (am cg bA (aF (aw hr.hu) av (rvl 2) af (fun _ _=>rfl)) (aF (aw hr.hu) av (rvl 0) af (fun _ _=>rfl))))))))
noncomputable def eB:SM:=(sIf (cB (ah eqX (au dw (ab (ah aD (ac 0) (ac 3)) (ab (ah aD (ac 0) (ac 2)) (ab (ac 1) aj)))) (mC (.int 0)))) (bq 2 (mC (.bl false))) fQ)
noncomputable def bV:SM:=(di (aR b6 (ab (ac 2) aj)) (ay 3) eB)
noncomputable def nP:SM:=(aH (di (aR b6 (ab (aB d5 (ab (ac 0) aj)) aj)) (ay 2) bV) (bq 2 (mC (.bl true))))
noncomputable def iD:Fn:=fnM [false,false] 4 nP
theorem sc_l_free:FnScope ["_law_found","_law_point","_law_k","_law_j"] ["_law_found","_law_point"] (ai gW):=⟨rfl,rfl,rfl,by decide +kernel,rfl,by decide +kernel,by decide +kernel⟩
theorem pG (B:Bl mg) (D:Def K mg "_law_free" gW) (C__law_bend:aL P w K mg base "_law_bend" 1 ["_law_one","_law_two","_law_three"] dw):aL P w K mg base "_law_free" 2 ["_law_found","_law_point"] iD :=
 aS (k:=1) D sc_l_free rfl rfl (hb2 fun _ _ _ _ _ _ _ _=>rfl) fun cdv A outer s H E f G hr hp =>
  (ag (bU PassesOwn.never rfl (b7 rfl B.range (aa (aA aE cn rfl B.len dB (aa (rvl 0) ad rfl) (by decide) (by decide) rfl rfl) ad rfl) rfl) (aY 2 sc_l_free.nd rfl (Or.inl rfl) (Or.inl rfl) (by rw [hp];rfl)) (ak (bU PassesOwn.never rfl (b7 rfl B.range (aa (rvl 2) ad rfl) rfl) (aY 3 sc_l_free.nd rfl (Or.inl rfl) (Or.inl rfl) (by rw [hp];rfl)) (ak (eQ (cy (cZ hr.units) c3 (ao C__law_bend (hr.mono (by decide)) (aa (aF (aw hr.hu) av (rvl 0) (rvl 3) (fun _ _=>rfl)) (aa (aF (aw hr.hu) av (rvl 0) (rvl 2) (fun _ _=>rfl)) (aa (rvl 1) ad rfl) rfl) rfl) rfl (by decide) rfl rfl) af (ba _)) (ak (aK 2 (fun i hi=>by rw [hp];exact aC (by simpa using hi)) j4)) bZ)) (fun _=>rfl))) (fun _=>rfl)) (ak (aK 2 (fun i hi=>by rw [hp];exact aC (by simpa using hi)) j4)))
noncomputable def cO:M3 Bool:=(kH (cB (au iD (ab (ac 5) (ab (bW (ab (ac 4) (ab (ac 8) aj))) aj)))))
noncomputable def dL:SM:=(a7 8 (ah bF (ac 8) (mC (.int 1))))
noncomputable def dJ:SM:=(aH (a7 4 (ah bF (ah bF (ac 4) (mC (.int 1))) (au bp (ab (ac 0) (ab (mC (.int 3)) aj))))) (aH (a7 7 (ah aD (jq (ab (ah fq (ac 4) (ac 4)) (ab (ah fN (mC (.int 0)) (ah fq (ac 4) (ac 4))) aj))) (ah nE (ac 6) (mC (.int 2))))) (aH (a7 8 (ah aD (jq (ab (au bp (ab (ac 0) (ab (mC (.int 40)) aj))) (ab (ah fq (ac 4) (ac 4)) (ab (ah fN (mC (.int 9)) (ah fq (ac 4) (ac 4))) (ab (ac 7) (ab (au bp (ab (ac 0) (ab (mC (.int 6)) aj))) aj)))))) (ac 3))) (aH (eI cO dL) (fR (rK isL xo 5 (ab (bW (ab (ac 4) (ab (ac 8) aj))) aj)))))))
noncomputable def fu:EM:=(bW (ab (ah fq (ac 0) (ah tQ (mC (.int 10)) (mC (.int 12)))) (ab (ah bF (ah fq (ac 1) (ah tQ (mC (.int 10)) (mC (.int 15)))) (mC (.int 7))) aj)))
noncomputable def dI:EM:=(cT (ge (ac 5)) (pL 2 (fI (ay 0) (fI (ay 1) pM))) gP fu [none,none])
noncomputable def lA:SM:=(aH (a7 2 (ah bF (mC (.int 1)) (au bp (ab (ac 0) (ab (ac 1) aj))))) (aH (a7 3 (au bp (ab (ac 0) (ab (mC (.int 5)) aj)))) (aH (a7 4 (ah fN (mC (.int 0)) (au bp (ab (ac 0) (ab (mC (.int 9)) aj))))) (aH (a7 5 (jq aj)) (aH (di (aR b6 (ab (ac 2) aj)) (ay 6) dJ) (aH (sIf (cB (ah eqX (au bp (ab (ac 0) (ab (mC (.int 6)) aj))) (mC (.int 5)))) (a7 5 dI) fQ) (bq 2 (aB u9 (ab (ac 5) aj)))))))))
noncomputable def gx:Fn:=fnM [false,false] 9 lA
theorem sc_l_sheet:FnScope ["_law_box_here","_law_most","_law_many","_law_kind","_law_x","_law_found","_law_k","_law_bent","_law_y"] ["_law_box_here","_law_most"] (ai gq):=⟨rfl,rfl,rfl,by decide +kernel,rfl,by decide +kernel,by decide +kernel⟩
theorem oD (B:Bl mg) (D:Def K mg "_law_sheet" gq) (C__law_free:aL P w K mg base "_law_free" 2 ["_law_found","_law_point"] iD) (C__law_take:aL P w K mg base "_law_take" 1 ["_law_box_here","_law_many"] bp):aL P w K mg base "_law_sheet" 3 ["_law_box_here","_law_most"] gx :=
 aS (k:=2) D sc_l_sheet rfl rfl (hb2 fun _ _ _ _ _ _ _ _=>rfl) fun cdv A outer s H E f G hr hp =>
  (ag (aG 2 sc_l_sheet.nd rfl (Or.inl rfl) (am aI aT af (ao C__law_take (hr.mono (by decide)) (aa (rvl 0) (aa (rvl 1) ad rfl) rfl) rfl (by decide) rfl rfl)) rfl (Or.inl rfl) (by rw [hp];rfl)) (ag (aG 3 sc_l_sheet.nd rfl (Or.inl rfl) (ao C__law_take (hr.mono (by decide)) (aa (rvl 0) (aa af ad rfl) rfl) rfl (by decide) rfl rfl) rfl (Or.inl rfl) (by rw [hp];rfl)) (ag (aG 4 sc_l_sheet.nd rfl (Or.inl rfl) (am cg bA af (ao C__law_take (hr.mono (by decide)) (aa (rvl 0) (aa af ad rfl) rfl) rfl (by decide) rfl rfl)) rfl (Or.inl rfl) (by rw [hp];rfl)) (ag (aG 5 sc_l_sheet.nd rfl (Or.inl rfl) (fU ad) rfl (Or.inl rfl) (by rw [hp];rfl)) (ag (bU PassesOwn.never rfl (b7 rfl B.range (aa (rvl 2) ad rfl) rfl) (aY 6 sc_l_sheet.nd rfl (Or.inl rfl) (Or.inl rfl) (by rw [hp];rfl)) (ag (aG 4 sc_l_sheet.nd rfl (Or.inl rfl) (am aI aT (am aI aT (rvl 4) af) (ao C__law_take (hr.mono (by decide)) (aa (rvl 0) (aa af ad rfl) rfl) rfl (by decide) rfl rfl)) rfl (Or.inl rfl) (by rw [hp];rfl)) (ag (aG 7 sc_l_sheet.nd rfl (Or.inl rfl) (aF (aw hr.hu) av (fU (aa (am ci bB (rvl 4) (rvl 4)) (aa (am cg bA af (am ci bB (rvl 4) (rvl 4))) ad rfl) rfl)) (am iK gv (rvl 6) af) (fun _ _=>rfl)) rfl (Or.inl rfl) (by rw [hp];rfl)) (ag (aG 8 sc_l_sheet.nd rfl (Or.inl rfl) (aF (aw hr.hu) av (fU (aa (ao C__law_take (hr.mono (by decide)) (aa (rvl 0) (aa af ad rfl) rfl) rfl (by decide) rfl rfl) (aa (am ci bB (rvl 4) (rvl 4)) (aa (am cg bA af (am ci bB (rvl 4) (rvl 4))) (aa (rvl 7) (aa (ao C__law_take (hr.mono (by decide)) (aa (rvl 0) (aa af ad rfl) rfl) rfl (by decide) rfl rfl) ad rfl) rfl) rfl) rfl) rfl)) (rvl 3) (fun _ _=>rfl)) rfl (Or.inl rfl) (by rw [hp];rfl)) (ag (m4 PassesOwn.never (gK (fS (ao C__law_free (hr.mono (by decide)) (aa (rvl 5) (aa (aQ (aa (rvl 4) (aa (rvl 8) ad rfl) rfl)) ad rfl) rfl) rfl (by decide) rfl rfl) (fun _=>rfl))) (ak (aG 8 sc_l_sheet.nd rfl (Or.inl rfl) (am aI aT (rvl 8) af) rfl (Or.inl rfl) (by rw [hp];rfl)))) (ak (fj (pZ (ok:=isL) PySem.F.plainAttrs_list PySem.F.slot_list_append PySem.F.type_list_append rC zp uy (fo (i:=5) rfl (Or.inl rfl) (by decide) (by decide)) (aa (aQ (aa (rvl 4) (aa (rvl 8) ad rfl) rfl)) ad rfl) rfl rfl rfl rfl rfl) rfl)))))) (fun _=>rfl)) (ag (eQ (cy (cZ hr.units) c3 (ao C__law_take (hr.mono (by decide)) (aa (rvl 0) (aa af ad rfl) rfl) rfl (by decide) rfl rfl) af (ba _)) (ak (jV (i:=5) sc_l_sheet.nd rfl (Or.inl rfl) ["_law_x","_law_y"] [none,none] rfl (iI (rvl 5)) (fun s H C fp=>eR) (fun s H C fp=>(aQ (aa (am ci bB (rvl 0) (am t0 qg af af)) (aa (am aI aT (am ci bB (rvl 1) (am t0 qg af af)) af) ad rfl) rfl))) (by rfl) (eM (by decide)) rfl (Or.inl rfl) (fun _=>rfl) (by rw [hp];rfl) ⟨_,qJ (i6 (bL rfl) (i6 (bL rfl) oF)),fun s H C fp=>tU (n:=2) rfl (j8 (cv (i:=0) (show (["_law_x","_law_y"]:List Str).Nodup by decide +kernel) rfl (Or.inl rfl) (Or.inr rfl)) (j8 (cv (i:=1) (show (["_law_x","_law_y"]:List Str).Nodup by decide +kernel) rfl (Or.inl rfl) (Or.inr rfl)) qc rfl) rfl) rfl rfl⟩)) bZ) (ak (aK 2 (fun i hi=>by rw [hp];exact aC (by simpa using hi)) (lu gG uO rfl B.tuple jF (aa (rvl 5) ad rfl) (by decide) (by decide) rfl rfl)))))))))
noncomputable def dU:SM:=(sIf (cB (ah eqX (ah gtI (au dw (ab (ah aD (ac 0) (ac 6)) (ab (ah aD (ac 0) (ac 5)) (ab (ah aD (ac 0) (ac 4)) aj)))) (mC (.int 0))) (ac 1))) (kT kQ 2 (bW (ab (ac 5) (ab (ac 4) aj))) (aB kg (ab (ah aD (ac 2) (bW (ab (ac 5) (ab (ac 4) aj)))) (ab (ah bF (ah aD (ac 2) (bW (ab (ac 6) (ab (ac 5) aj)))) (mC (.int 1))) aj)))) fQ)
noncomputable def cQ:SM:=(aH (kT kQ 2 (bW (ab (ac 5) (ab (ac 4) aj))) (mC (.int 2))) (aH (di (aR b6 (ab (ac 5) aj)) (ay 6) dU) (a7 3 (aB kg (ab (ac 3) (ab (ah aD (ac 2) (bW (ab (ac 5) (ab (ac 4) aj)))) aj))))))
noncomputable def cP:SM:=(di (aR b6 (ab (ac 4) aj)) (ay 5) cQ)
noncomputable def nO:SM:=(aH (a7 2 km) (aH (a7 3 (mC (.int 1))) (aH (di (aR b6 (ab (aB d5 (ab (ac 0) aj)) aj)) (ay 4) cP) (bq 2 (ac 3)))))
noncomputable def du:Fn:=fnM [false,false] 7 nO
theorem sc_l_longest:FnScope ["_law_sheet_here","_law_up","_law_told","_law_best","_law_j","_law_i","_law_h"] ["_law_sheet_here","_law_up"] (ai d8):=⟨rfl,rfl,rfl,by decide +kernel,rfl,by decide +kernel,by decide +kernel⟩
theorem k7 (B:Bl mg) (D:Def K mg "_law_longest" d8) (C__law_bend:aL P w K mg base "_law_bend" 1 ["_law_one","_law_two","_law_three"] dw):aL P w K mg base "_law_longest" 2 ["_law_sheet_here","_law_up"] du :=
 aS (k:=1) D sc_l_longest rfl rfl (hb2 fun _ _ _ _ _ _ _ _=>rfl) fun cdv A outer s H E f G hr hp =>
  (ag (aG 2 sc_l_longest.nd rfl (Or.inl rfl) ib rfl (Or.inl rfl) (by rw [hp];rfl)) (ag (aG 3 sc_l_longest.nd rfl (Or.inl rfl) af rfl (Or.inl rfl) (by rw [hp];rfl)) (ag (bU PassesOwn.never rfl (b7 rfl B.range (aa (aA aE cn rfl B.len dB (aa (rvl 0) ad rfl) (by decide) (by decide) rfl rfl) ad rfl) rfl) (aY 4 sc_l_longest.nd rfl (Or.inl rfl) (Or.inl rfl) (by rw [hp];rfl)) (ak (bU PassesOwn.never rfl (b7 rfl B.range (aa (rvl 4) ad rfl) rfl) (aY 5 sc_l_longest.nd rfl (Or.inl rfl) (Or.inl rfl) (by rw [hp];rfl)) (ag (iG (i:=2) (gm hr.hu) iP (fo rfl (Or.inl rfl) (by decide) (by decide)) (aQ (aa (rvl 5) (aa (rvl 4) ad rfl) rfl)) af (fun _=>rfl) rfl rfl rfl) (ag (bU PassesOwn.never rfl (b7 rfl B.range (aa (rvl 5) ad rfl) rfl) (aY 6 sc_l_longest.nd rfl (Or.inl rfl) (Or.inl rfl) (by rw [hp];rfl)) (ak (eQ (cy (cZ hr.units) c3 (fk xF xG (ao C__law_bend (hr.mono (by decide)) (aa (aF (aw hr.hu) av (rvl 0) (rvl 6) (fun _ _=>rfl)) (aa (aF (aw hr.hu) av (rvl 0) (rvl 5) (fun _ _=>rfl)) (aa (aF (aw hr.hu) av (rvl 0) (rvl 4) (fun _ _=>rfl)) ad rfl) rfl) rfl) rfl (by decide) rfl rfl) af (ba _)) (rvl 1) (ba _)) (ak (iG (i:=2) (gm hr.hu) iP (fo rfl (Or.inl rfl) (by decide) (by decide)) (aQ (aa (rvl 5) (aa (rvl 4) ad rfl) rfl)) (aA (fc rfl) iA rfl B.max jj (aa (aF (aw hr.hu) av (rvl 2) (aQ (aa (rvl 5) (aa (rvl 4) ad rfl) rfl)) (fun _ _=>rfl)) (aa (am aI aT (aF (aw hr.hu) av (rvl 2) (aQ (aa (rvl 6) (aa (rvl 5) ad rfl) rfl)) (fun _ _=>rfl)) af) ad rfl) rfl) (by decide) (by decide) rfl rfl) (fun _=>rfl) rfl rfl rfl)) bZ)) (fun _=>rfl)) (ak (aG 3 sc_l_longest.nd rfl (Or.inl rfl) (aA (fc rfl) iA rfl B.max jj (aa (rvl 3) (aa (aF (aw hr.hu) av (rvl 2) (aQ (aa (rvl 5) (aa (rvl 4) ad rfl) rfl)) (fun _ _=>rfl)) ad rfl) rfl) (by decide) (by decide) rfl rfl) rfl (Or.inl rfl) (by rw [hp];rfl))))) (fun _=>rfl))) (fun _=>rfl)) (ak (aK 2 (fun i hi=>by rw [hp];exact aC (by simpa using hi)) (rvl 3))))))
noncomputable def ik:EM:=(bW (ab (ah bF (mC (.int 2)) (au bp (ab (ac 1) (ab (mC (.int 8)) aj)))) (ab (ah bF (mC (.int 2)) (au bp (ab (ac 1) (ab (mC (.int 8)) aj)))) aj)))
noncomputable def nN:EM:=(cT (aR b6 (ab (mC (.int 3)) aj)) (ay 0) gP ik [none,some 2])
noncomputable def io:SM:=(aH (a7 9 (au jG (ab (ac 3) (ab (ac 7) (ab (ac 8) aj))))) (sIf (cOr (kH (cB (mUn (rV "bool") (ac 9)))) (cB (ah neX (ac 9) (ip (ah ltI (ac 4) (ac 7)) (ah ltI (ac 5) (ac 8)))))) (bq 1 (mC (.bl false))) fQ))
noncomputable def il:SM:=(aH (a7 2 (au jH (ab (ac 0) (ab (ac 1) aj)))) (aH (a7 3 (au gx (ab (ac 2) (ab (mC (.int 10)) aj)))) (aH (sV 4 5 (ab (au du (ab (ac 3) (ab (mC (.bl true)) aj))) (ab (au du (ab (ac 3) (ab (mC (.bl false)) aj))) aj))) (aH (a7 6 nN) (aH (a7 6 (ah bF (ac 6) (jq (ab (bW (ab (mC (.int 2)) (ab (mC (.int 2)) aj))) (ab (bW (ab (mC (.int 3)) (ab (mC (.int 3)) aj))) (ab (bW (ab (mC (.int 9)) (ab (mC (.int 9)) aj))) (ab (bW (ab (aB ly (ab (mC (.int 9)) (ab (ah bF (ac 4) (mC (.int 1))) aj))) (ab (aB ly (ab (mC (.int 9)) (ab (ah bF (ac 5) (mC (.int 1))) aj))) aj))) aj))))))) (di (ge (ah bF (ac 6) (jq (ab (bW (ab (aB ly (ab (mC (.int 9)) (ab (aB kg (ab (mC (.int 2)) (ab (ac 4) aj))) aj))) (ab (mC (.int 9)) aj))) (ab (bW (ab (mC (.int 9)) (ab (aB ly (ab (mC (.int 9)) (ab (aB kg (ab (mC (.int 2)) (ab (ac 5) aj))) aj))) aj))) aj))))) (pL 2 (fI (ay 7) (fI (ay 8) pM))) io))))))
noncomputable def m_law:SM:=(aH (di (aR b6 (ab (aB kg (ab (mC (.int 1)) (ab (aB ly (ab (aB d5 (ab (ac 0) aj)) (ab (mC (.int 4)) aj))) aj))) aj)) (ay 1) il) (bq 1 (mC (.bl true))))
noncomputable def xS:Fn:=fnM [false] 10 m_law
theorem sc_law:FnScope ["_law_script","_law_k","_law_box_here","_law_sheet_here","_law_up","_law_down","_law_chance","_law_one","_law_other","_law_found"] ["_law_script"] (ai fP):=⟨rfl,rfl,rfl,by decide +kernel,rfl,by decide +kernel,by decide +kernel⟩
theorem wZ {f:Addr} {fd:FuncData} (B:Bl mg) (D:Fun K "law" "law" fP f fd) (C__law_box:aL P w K mg base "_law_box" 1 ["_law_script","_law_k"] jH) (C__law_longest:aL P w K mg base "_law_longest" 2 ["_law_sheet_here","_law_up"] du) (C__law_sheet:aL P w K mg base "_law_sheet" 3 ["_law_box_here","_law_most"] gx) (C__law_take:aL P w K mg base "_law_take" 1 ["_law_box_here","_law_many"] bp) (C_lacks:aL P w K mg base "lacks" 10 ["sheet","k","l"] jG):FnOk P w K mg base CX0 11 f fd ["_law_script"] (qV K xS) :=
 zG (k:=10) D sc_law rfl rfl fun cdv A outer s H E f G hr hp =>
  (ag (bU PassesOwn.never rfl (b7 rfl B.range (aa (aA (fc rfl) iA rfl B.max jj (aa af (aa (aA (eZ rfl) iz rfl B.min kI (aa (aA aE cn rfl B.len dB (aa (rvl 0) ad rfl) (by decide) (by decide) rfl rfl) (aa af ad rfl) rfl) (by decide) (by decide) rfl rfl) ad rfl) rfl) (by decide) (by decide) rfl rfl) ad rfl) rfl) (aY 1 sc_law.nd rfl (Or.inl rfl) (Or.inl rfl) (by rw [hp];rfl)) (ag (aG 2 sc_law.nd rfl (Or.inr rfl) (ao C__law_box (hr.mono (by decide)) (aa (rvl 0) (aa (rvl 1) ad rfl) rfl) rfl (by decide) rfl rfl) rfl (Or.inl rfl) (by rw [hp];rfl)) (ag (aG 3 sc_law.nd rfl (Or.inl rfl) (ao C__law_sheet (hr.mono (by decide)) (aa (rvc 2) (aa af ad rfl) rfl) rfl (by decide) rfl rfl) rfl (Or.inl rfl) (by rw [hp];rfl)) (ag (yC 4 5 rfl sc_law.nd rfl rfl (by decide) rfl rfl (aa (ao C__law_longest (hr.mono (by decide)) (aa (rvl 3) (aa j4 ad rfl) rfl) rfl (by decide) rfl rfl) (aa (ao C__law_longest (hr.mono (by decide)) (aa (rvl 3) (aa j4 ad rfl) rfl) rfl (by decide) rfl rfl) ad rfl) rfl) rfl rfl (by rw [hp];rfl) (by rw [hp];rfl)) (ag (jV (i:=6) sc_law.nd rfl (Or.inl rfl) ["_law_lap","_law_box_here"] [none,some 2] rfl (b7 rfl B.range (aa af ad rfl) rfl) (fun s H C fp=>eR) (fun s H C fp=>(aQ (aa (am aI aT af (ao C__law_take (hr.mono (by decide)) (aa (rvc 1) (aa af ad rfl) rfl) rfl (by decide) rfl rfl)) (aa (am aI aT af (ao C__law_take (hr.mono (by decide)) (aa (rvc 1) (aa af ad rfl) rfl) rfl (by decide) rfl rfl)) ad rfl) rfl))) (by rfl) (eM (by decide)) rfl (Or.inl rfl) (fun _=>rfl) (by rw [hp];rfl) ⟨_,bL rfl,fun s H C fp=>cv (i:=0) (show (["_law_lap","_law_box_here"]:List Str).Nodup by decide +kernel) rfl (Or.inl rfl) (Or.inr rfl)⟩) (ag (aG 6 sc_law.nd rfl (Or.inl rfl) (am aI aT (rvl 6) (fU (aa (aQ (aa af (aa af ad rfl) rfl)) (aa (aQ (aa af (aa af ad rfl) rfl)) (aa (aQ (aa af (aa af ad rfl) rfl)) (aa (aQ (aa (aA (eZ rfl) iz rfl B.min kI (aa af (aa (am aI aT (rvl 4) af) ad rfl) rfl) (by decide) (by decide) rfl rfl) (aa (aA (eZ rfl) iz rfl B.min kI (aa af (aa (am aI aT (rvl 5) af) ad rfl) rfl) (by decide) (by decide) rfl rfl) ad rfl) rfl)) ad rfl) rfl) rfl) rfl))) rfl (Or.inl rfl) (by rw [hp];rfl)) (ak (bU PassesOwn.never rfl (iI (am aI aT (rvl 6) (fU (aa (aQ (aa (aA (eZ rfl) iz rfl B.min kI (aa af (aa (aA (fc rfl) iA rfl B.max jj (aa af (aa (rvl 4) ad rfl) rfl) (by decide) (by decide) rfl rfl) ad rfl) rfl) (by decide) (by decide) rfl rfl) (aa af ad rfl) rfl)) (aa (aQ (aa af (aa (aA (eZ rfl) iz rfl B.min kI (aa af (aa (aA (fc rfl) iA rfl B.max jj (aa af (aa (rvl 5) ad rfl) rfl) (by decide) (by decide) rfl rfl) ad rfl) rfl) (by decide) (by decide) rfl rfl) ad rfl) rfl)) ad rfl) rfl)))) (tw rfl (hU (aY 7 sc_law.nd rfl (Or.inl rfl) (Or.inl rfl) (by rw [hp];rfl)) (hU (aY 8 sc_law.nd rfl (Or.inl rfl) (Or.inl rfl) (by rw [hp];rfl)) pY rfl) rfl) rfl rfl) (ag (aG 9 sc_law.nd rfl (Or.inl rfl) (ao C_lacks (hr.mono (by decide)) (aa (rvl 3) (aa (rvl 7) (aa (rvl 8) ad rfl) rfl) rfl) rfl (by decide) rfl rfl) rfl (Or.inl rfl) (by rw [hp];rfl)) (ak (eQ (vK (sX (gK (fS (j1 gH rfl B.isinstance (ic (v:=V.ty "bool") rfl B.bool uU rfl (by decide) (by decide)) (rvl 9) rfl rfl rfl) (fun _=>rfl))) (oT (cy (zb hr.units) zg (rvl 9) (fV (fk nv nz (rvl 4) (rvl 7) (ba _)) (iJ (fk nv nz (rvl 5) (rvl 8) (ba _)))) (ba _))))) (ak (aK 1 (fun i hi=>by rw [hp];exact aC (by simpa using hi)) j4)) bZ))) (fun _=>rfl)))))))) (fun _=>rfl)) (ak (aK 1 (fun i hi=>by rw [hp];exact aC (by simpa using hi)) j4)))
end
set_option tactic.hygienic true in
theorem ll (i:Int):cA [(.int i,.z)]=some (.ok (.bl true,.z),[(.int i,.z)]):=by
 apply aZ (ρ:=[some (.int i,.z)]) rfl rfl
 ·(repeat' (first | infer_instance | eq_refl))
 ·rfl
set_option tactic.hygienic true in
theorem q9 (p:Pt):fG [(Pd p,.z)]=some (.ok (.bl true,.z),[(Pd p,.z)]):=by
 apply aZ (ρ:=[some (Pd p,.z)]) rfl rfl
 ·(repeat' (first | infer_instance | with_reducible apply aq (ll _) | eq_refl))
 ·rfl
theorem qw {f f':L3.D->L3.D->Option (L3.D × Fl)} {ma mb mc:EM} {ra rb rc:R3} {ρ ρ1 ρ2 ρ3:Sto} {da db db2 dc d:L3.D} {fl fl2:Fl} (h1:ma ρ=some (.ok ra,ρ1)) (h2:mb ρ1=some (.ok rb,ρ2)) (h3:der ra ρ2=some (.ok da,ρ2)) (h4:der rb ρ2=some (.ok db,ρ2)) (h5:f da db=some (.bl true,fl)) (h6:mc ρ2=some (.ok rc,ρ3)) (h7:der rb ρ3=some (.ok db2,ρ3)) (h8:der rc ρ3=some (.ok dc,ρ3)) (h9:f' db2 dc=some (d,fl2)):gM f f' ma mb mc ρ=some (.ok (.val d fl2),ρ3):=by
 simp only [gM,ae,h1,h2,h3,h4,h5,bh,Option.bind_some,asB,Ax,if_true,h6,h7,h8,h9]
set_option tactic.hygienic true in
theorem tj (ps:List Pt) (h0:0 < ps.length) (h1:ps.length<=24):dP [(Shd ps,.z)]=some (.ok (.bl true,.z),[(Shd ps,.z)]):=by
 obtain ⟨τ',e,a,rfl⟩:=gi (bnd:=ay 0) (c:=gP) (elt:=dy) (fun τ=>∃ a,τ=[a]) (fun _=>true) (fun _=>.bl true) (ds:=ps.map Pd) (τ:=[none]) ⟨none,rfl⟩ (by
  rintro d hd τ ⟨a,rfl⟩
  obtain ⟨p,hp,rfl⟩:=Ah.mp hd
  exact ⟨[some (Pd p,.z)],_,rfl,rfl,(fun h=>by cases h),fun _=>⟨.val (.bl true) .z,[some (Pd p,.z)],(.bl true,.z),[some (Pd p,.z)],by unfold dy;(repeat' (first | infer_instance | with_reducible apply aq (q9 _) | eq_refl)),rfl,rfl,_,rfl⟩⟩)
 have e3:=lN (ds:=((ps.map Pd).filter fun _=>true).map fun _=>.bl true) (fun d hd=>by obtain ⟨_,_,rfl⟩:=Ah.mp hd;rfl)
 generalize ((ps.map Pd).filter fun _=>true).map (fun _=>L3.D.bl true)=out at *
 have e2:fH [some (Shd ps,.z)]=some (.ok (.val (.lst out) .u),[some (Shd ps,.z)]):=cp (im:=ge (ac 0)) (ix:=[none]) (ρ1:=[some (Shd ps,.z)]) (ρ2:=[some (Shd ps,.z)]) (ds:=ps.map Pd) (rs:=[.pl 0]) rfl e (by simp;omega) rfl
 have l1:leI (.int 1) (.int ((ps.map Pd).length:Int))=some (.bl true,.z):=by simp [eL];omega
 have l2:leI (.int ((ps.map Pd).length:Int)) (.int 24)=some (.bl true,.z):=by simp [eL];omega
 apply aZ (ρ:=[some (Shd ps,.z)]) rfl rfl
 ·apply gf
  ·apply jD
   ·apply qw
    ·exact i_c
    ·(repeat' (first | infer_instance | eq_refl))
    ·rfl
    ·rfl
    ·exact l1
    ·exact i_c
    ·rfl
    ·rfl
    ·exact l2
   ·rfl
   ·rfl
   ·(repeat' (first | with_reducible exact e2 | infer_instance | exact e3 | eq_refl))
  ·rfl
 ·rfl
theorem fM {xs:List L3.D} {k:Int} {d:L3.D} (h:L2.atI xs k=some d):aD (.tup xs) (.int k)=some (d,.z):=by
 show orD ixD n6 (.tup xs) (.int k)=_
 simp [orD,ixD,h]
theorem vt {xs:List L3.D} {k:Int} {d:L3.D} (h:L2.atI xs k=some d):aD (.lst xs) (.int k)=some (d,.z):=by
 show orD ixD n6 (.lst xs) (.int k)=_
 simp [orD,ixD,h]
set_option tactic.hygienic true in
theorem s0 (ps:List Pt) (h0:0 < ps.length) (h1:ps.length<=24) (R:Rising ps):cW [(Shd ps,.z)]=some (.ok (.bl true,.z),[(Shd ps,.z)]):=by
 obtain ⟨τ',e,a,rfl⟩:=gi (bnd:=ay 0) (c:=gP) (elt:=cR) (fun τ=>∃ a,τ=[a,some (Shd ps,.z)]) (fun _=>true) (fun _=>.bl true) (ds:=aO 0 (ps.length - 1)) (τ:=[none,some (Shd ps,.z)]) ⟨none,rfl⟩ (by
  rintro d hd τ ⟨a,rfl⟩
  obtain ⟨i,hi⟩:=List.getElem?_of_mem hd
  obtain ⟨hi,rfl⟩:=bj hi
  have q1:ps[i]?=some ps[i]:=z9 _
  have q2:ps[i+1]?=some ps[i+1]:=z9 _
  have hlt:=R i (i+1) _ _ (by omega) q1 q2
  have a1:aD (Shd ps) (.int (0+(i:Int)))=some (Pd ps[i],.z):=fM (by rw [Int.zero_add];exact pN q1)
  have a2:aD (Shd ps) (.int (0+(i:Int)+1))=some (Pd ps[i+1],.z):=fM (by rw [Int.zero_add];exact pN q2)
  have hl:ltI (.int ps[i].1) (.int ps[i+1].1)=some (.bl true,.z):=by simp [eL,hlt]
  generalize (0+(i:Int))=j at *
  refine ⟨[some (.int j,.z),some (Shd ps,.z)],_,rfl,rfl,(fun h=>by cases h),fun _=>⟨.val (.bl true) .z,[some (.int j,.z),some (Shd ps,.z)],(.bl true,.z),[some (.int j,.z),some (Shd ps,.z)],?_,rfl,rfl,_,rfl⟩⟩
  unfold cR
  (repeat' (first | infer_instance | exact a1 | exact a2 | exact hl | eq_refl)))
 have tn:((ps.length:Int) - 1).toNat=ps.length - 1:=by omega
 have hr:b6 [.int (((ps.map Pd).length:Int) - 1)]=some (aO 0 (ps.length - 1)):=b5 (by simp;omega) (by simp)
 have e3:=lN (ds:=((aO 0 (ps.length - 1)).filter fun _=>true).map fun _=>.bl true) (fun d hd=>by obtain ⟨_,_,rfl⟩:=Ah.mp hd;rfl)
 generalize ((aO 0 (ps.length - 1)).filter fun _=>true).map (fun _=>L3.D.bl true)=out at *
 have e2:eC [some (Shd ps,.z)]=some (.ok (.val (.lst out) .u),[some (Shd ps,.z)]):=cp (ρ1:=[some (Shd ps,.z)]) (rs:=[]) (by (repeat' (first | with_reducible apply cq (h3:=hr) | infer_instance | eq_refl))) e (by rw [aV];omega) rfl
 apply aZ (ρ:=[some (Shd ps,.z)]) rfl rfl
 ·unfold gb;(repeat' (first | with_reducible exact e2 | infer_instance | exact e3 | eq_refl))
 ·rfl
set_option tactic.hygienic true in
theorem lp (p q r:Int × Int) (h1:-18446744073709551616 < q.1 - p.1/\q.1 - p.1 < 18446744073709551616) (h2:-18446744073709551616 < q.2 - p.2/\q.2 - p.2 < 18446744073709551616):i7 [(Pd p,.z),(Pd q,.z),(Pd r,.z)]=some (.ok (.int (bE p q r),.z),[(Pd p,.z),(Pd q,.z),(Pd r,.z)]):=by
 apply aZ (ρ:=[some (Pd p,.z),some (Pd q,.z),some (Pd r,.z),none]) rfl rfl
 ·apply al
  ·(repeat' (first | infer_instance | exact fX h1 | eq_refl))
  ·(repeat' (first | infer_instance | exact fX h2 | eq_refl))
 ·rfl
set_option tactic.hygienic true in
theorem sK {n i j:Nat} (xs:List L3.D) (hn:n<=25) (hj:j < n) (elt:EM) (he:∀ (a b c:L3.D),elt [some (c,.z),some (a,.z),some (b,.z)]=some (.ok (.val (.tup [a,b,c]) .z),[some (c,.z),some (a,.z),some (b,.z)])) :
  cT (aR eJ (ab (ah bF (ac 3) (mC (.int 1))) (ab (ac 0) aj))) (ay 0) gP elt [none,some 2,some 3] [some (.int n,.z),some (.lst xs,.u),some (.int i,.z),some (.int j,.z)]=some (.ok (.val (.lst ((kU i j (n - (j+1))).map Td)) .u),[some (.int n,.z),some (.lst xs,.u),some (.int i,.z),some (.int j,.z)]):=by
 obtain ⟨τ',e,a,rfl⟩:=gi (bnd:=ay 0) (c:=gP) (elt:=elt) (fun τ=>∃ a,τ=[a,some (.int i,.z),some (.int j,.z)]) (fun _=>true) (fun d=>.tup [.int i,.int j,d]) (ds:=aO ((j:Int)+1) (n - (j+1))) (τ:=[none,some (.int i,.z),some (.int j,.z)]) ⟨none,rfl⟩ (by
  rintro d hd τ ⟨a,rfl⟩
  exact ⟨[some (d,.z),some (.int i,.z),some (.int j,.z)],_,rfl,rfl,(fun h=>by cases h),fun _=>⟨_,_,(.tup [.int i,.int j,d],.z),_,he _ _ _,rfl,rfl,_,rfl⟩⟩)
 have e4:((aO ((j:Int)+1) (n - (j+1))).filter fun _=>true).map (fun d=>L3.D.tup [.int i,.int j,d])=(kU i j (n - (j+1))).map Td:=by
  rw [AH.mpr (fun _ _=>rfl)]
  simp [aO,kU,Function.comp_def]
 rw [e4] at e
 have hr:eJ [.int ((j:Int)+1),.int n]=some (aO ((j:Int)+1) (n - (j+1))):=gr (by omega) (by omega) (by omega)
 exact cp (rs:=[]) (by (repeat' (first | with_reducible apply cq (h3:=hr) | infer_instance | eq_refl))) e (by rw [aV];omega) rfl
theorem zI {A B:List L3.D} (h:A.length+B.length<=16777216):uF (.lst A) [.lst B]=some (.lst (A ++ B),.non):=by simp [uF,h]
theorem zQ {A:List L3.D} {d:L3.D} (h:A.length < 16777216):xo (.lst A) [d]=some (.lst (A ++ [d]),.non):=by simp [xo,h]
theorem qI {A B:List L3.D} (h:A.length+B.length<=16777216):bF (.lst A) (.lst B)=some (.lst (A ++ B),.u):=by simp [orD,eL,xj,xi,xk,h]
theorem xh {A B:List L3.D} (h:A.length+B.length<=16777216):bF (.tup A) (.tup B)=some (.tup (A ++ B),.z):=by simp [orD,eL,xj,xi,xk,h]
set_option tactic.hygienic true in
theorem qT {n:Nat} (hn:n<=25) {b1 b2:SM} (h2:b2=di (aR eJ (ab (ah bF (ac 2) (mC (.int 1))) (ab (ac 0) aj))) (ay 3) b1)
  (h1:∀ (i j:Nat) (xs:List L3.D),j < n->xs.length<=20000->b1 [some (.int n,.z),some (.lst xs,.u),some (.int i,.z),some (.int j,.z)]=some (.ok .nx,[some (.int n,.z),some (.lst (xs ++ (kU i j (n - (j+1))).map Td),.u),some (.int i,.z),some (.int j,.z)])) :
  ∃ v2 v3,di (aR b6 (ab (ac 0) aj)) (ay 2) b2 [some (.int n,.z),some (.lst [],.u),none,none]=some (.ok .nx,[some (.int n,.z),some (.lst ((lP n).map Td),.u),v2,v3]):=by
 have inner:∀ (i:Nat) (xs:List Tri) (v3:Option (L3.D × Fl)),i < n->xs.length<=15625->∃ v3',b2 [some (.int n,.z),some (.lst (xs.map Td),.u),some (.int i,.z),v3]=some (.ok .nx,[some (.int n,.z),some (.lst ((xs ++ iH n i (n - (i+1))).map Td),.u),some (.int i,.z),v3']):=by
  intro i xs v3 hi hx
  obtain ⟨ρ',e,v3',rfl⟩:=a8 (bnd:=ay 3) (b:=b1) (fun m ρ=>∃ v3,ρ=[some (.int n,.z),some (.lst ((xs ++ iH n i m).map Td),.u),some (.int i,.z),v3]) (ds:=aO ((i:Int)+1) (n - (i+1))) (ρ:=[some (.int n,.z),some (.lst (xs.map Td),.u),some (.int i,.z),v3]) (k:=0) ⟨v3,by simp [iH]⟩ (by
   rintro m d ρ hd ⟨v3,rfl⟩
   obtain ⟨hm,rfl⟩:=bj hd
   have hx2:((xs ++ iH n i m).map Td).length<=20000:=by
    have:=oW (n:=n) (i:=i) (m:=m) hn (by omega)
    simp only [Ad,Au]
    omega
   have c:=h1 i (i+1+m) ((xs ++ iH n i m).map Td) (by omega) hx2
   rw [show ((i+1+m:Nat):Int)=(i:Int)+1+m by omega,<- List.map_append,List.append_assoc,<- lq] at c
   exact ⟨_,_,by rw [As];rfl,.inl c,_,by rw [As]⟩)
  refine ⟨v3',?_⟩
  rw [aV,As] at e
  have hr:eJ [.int ((i:Int)+1),.int n]=some (aO ((i:Int)+1) (n - (i+1))):=gr (by omega) (by omega) (by omega)
  rw [h2]
  apply dn
  ·(repeat' (first | with_reducible apply cq (h3:=hr) | infer_instance | eq_refl))
  ·rfl
  ·exact e
 obtain ⟨ρ',e,v2,v3,rfl⟩:=a8 (bnd:=ay 2) (b:=b2) (fun m ρ=>∃ v2 v3,ρ=[some (.int n,.z),some (.lst ((lV n m).map Td),.u),v2,v3]) (ds:=aO 0 n) (ρ:=[some (.int n,.z),some (.lst [],.u),none,none]) (k:=0) ⟨none,none,rfl⟩ (by
  rintro m d ρ hd ⟨v2,v3,rfl⟩
  obtain ⟨hm,rfl⟩:=bj hd
  rw [As,Int.zero_add]
  obtain ⟨v3',e⟩:=inner m (lV n m) v3 hm (jW hn (by omega))
  rw [<- lr] at e
  exact ⟨_,_,rfl,.inl e,_,_,rfl⟩)
 rw [aV,As] at e
 have hr:b6 [.int (n:Int)]=some (aO 0 n):=b5 (by omega) (by omega)
 refine ⟨v2,v3,?_⟩
 apply dn
 ·(repeat' (first | with_reducible apply cq (h3:=hr) | infer_instance | eq_refl))
 ·rfl
 ·exact e
set_option tactic.hygienic true in
theorem jT (n:Nat) (hn:n<=25):fe [(.int n,.z)]=some (.ok (.lst ((lP n).map Td),.u),[(.int n,.z)]):=by
 obtain ⟨v2,v3,e⟩:=qT (n:=n) hn (b1:=f9) (b2:=jd) rfl (by
  intro i j xs hj hx
  have c:=sK (n:=n) (i:=i) (j:=j) xs hn hj fZ (fun a b c=>by unfold fZ;(repeat' (first | infer_instance | eq_refl)))
  have hl:xs.length+((kU i j (n - (j+1))).map Td).length<=16777216:=by
   rw [Ad,m6];omega
  unfold f9 jc
  (repeat' (first | with_reducible exact c | infer_instance | exact zI hl | eq_refl)))
 apply aZ (ρ:=[some (.int n,.z),none,none,none]) rfl rfl
 ·apply al
  ·(repeat' (first | infer_instance | eq_refl))
  ·apply al
   ·exact e
   ·(repeat' (first | infer_instance | eq_refl))
 ·rfl
set_option tactic.hygienic true in
theorem uE {S:List L3.D} {i j k:Int} {p q r:Pt} {v2:Option (L3.D × Fl)} (a1:aD (.tup S) (.int i)=some (Pd p,.z)) (a2:aD (.tup S) (.int j)=some (Pd q,.z)) (a3:aD (.tup S) (.int k)=some (Pd r,.z)) (hp:Small p) (hq:Small q) (h0:bE p q r ≠ 0):bI [some (.tup S,.z),some (.tup [.int i,.int j,.int k],.z),v2]=some (.ok .nx,[some (.tup S,.z),some (.tup [.int i,.int j,.int k],.z),some (.tup [Pd p,Pd q,Pd r],.z)]):=by
 have b:=lp p q r (Small.sub hp hq).1 (Small.sub hp hq).2
 have one:∀ (x d:L3.D) (a:Option (L3.D × Fl)),aD (.tup S) x=some (d,.z)->cz [some (x,.z),some (.tup S,.z)]=some (.ok (.val d .z),[some (x,.z),some (.tup S,.z)]):=fun x d a h=>by unfold cz;(repeat' (first | infer_instance | exact h | eq_refl))
 have c:dW [some (.tup S,.z),some (.tup [.int i,.int j,.int k],.z),v2]=some (.ok (.val (.lst [Pd p,Pd q,Pd r]) .u),[some (.tup S,.z),some (.tup [.int i,.int j,.int k],.z),v2]):=by
  refine cp (ρ1:=[some (.tup S,.z),some (.tup [.int i,.int j,.int k],.z),v2]) (ρ2:=[some (.tup S,.z),some (.tup [.int i,.int j,.int k],.z),v2]) (ds:=[.int i,.int j,.int k]) (rs:=[.pl 1]) (τ:=[some (.int k,.z),some (.tup S,.z)]) rfl ?_ (by simp) rfl
  have e1:=one (.int i) _ none a1
  have e2:=one (.int j) _ none a2
  have e3:=one (.int k) _ none a3
  have n0:∀ d a,ay 0 d [a,some (L3.D.tup S,.z)]=some [some (d,.z),some (.tup S,.z)]:=fun _ _=>rfl
  have cs:pD [none,some 0] (aN dm (us [some (L3.D.tup S,.z),some (.tup [.int i,.int j,.int k],.z),v2] (pls [R3.pl 1])) [some (.tup S,.z),some (.tup [.int i,.int j,.int k],.z),v2])=[none,some (.tup S,.z)]:=rfl
  rw [cs]
  simp only [bT,n0,gP,ae,bb,if_true,e1,e2,e3,eO,nol]
 unfold bI
 apply al
 ·(repeat' (first | with_reducible exact c | infer_instance | eq_refl))
 ·apply eD
  ·(repeat' (first | infer_instance | with_reducible apply aq (b) | eq_refl))
  ·exact Ap h0
  ·rfl
set_option tactic.hygienic true in
theorem vF (ps:List Pt) (hl:ps.length<=24) (hs:∀ p ∈ ps,Small p) (hn:NoLine ps):cw [(Shd ps,.z)]=some (.ok (.non,.z),[(Shd ps,.z)]):=by
 have ht:=jT ps.length (by omega)
 rw [show (ps.length:Int)=((ps.map Pd).length:Int) by rw [Ad]] at ht
 obtain ⟨ρ',e,v1,v2,rfl⟩:=a8 (bnd:=ay 1) (b:=bI) (fun _ ρ=>∃ v1 v2,ρ=[some (Shd ps,.z),v1,v2]) (ds:=(lP ps.length).map Td) (ρ:=[some (Shd ps,.z),none,none]) (k:=0) ⟨none,none,rfl⟩ (by
  rintro m d ρ hd ⟨v1,v2,rfl⟩
  rw [Ai,z5] at hd
  obtain ⟨t,ht,rfl⟩:=hd
  obtain ⟨m1,m2,m3⟩:=nH (Af ht)
  have q1:ps[t.1]?=some (ps[t.1]'(by omega)):=z9 _
  have q2:ps[t.2.1]?=some (ps[t.2.1]'(by omega)):=z9 _
  have q3:ps[t.2.2]?=some (ps[t.2.2]'(by omega)):=z9 _
  have b:=uE (v2:=v2) (fM (pN q1)) (fM (pN q2)) (fM (pN q3)) (hs _ (Af q1)) (hs _ (Af q2)) (hn _ _ _ _ _ _ m1 m2 q1 q2 q3)
  exact ⟨[some (Shd ps,.z),some (Td t,.z),v2],_,rfl,.inl b,_,_,rfl⟩)
 apply aZ (ρ:=[some (Shd ps,.z),none,none]) rfl rfl
 ·apply al
  ·apply dn
   ·(repeat' (first | infer_instance | with_reducible apply aq (ht) | eq_refl))
   ·rfl
   ·exact e
  ·(repeat' (first | infer_instance | eq_refl))
 ·rfl
set_option tactic.hygienic true in
theorem mY {ps:List Pt} (g:GoodSh ps):fF [(Shd ps,.z)]=some (.ok (.bl true,.z),[(Shd ps,.z)]):=by
 have h1:=tj ps g.pos g.most
 have h2:=s0 ps g.pos g.most g.rising
 have h3:=vF ps g.most g.small g.noline
 apply aZ (ρ:=[some (Shd ps,.z)]) rfl rfl
 ·apply al
  ·apply eD
   ·(repeat' (first | infer_instance | with_reducible apply aq (h1) | eq_refl))
   ·rfl
   ·rfl
  ·(repeat' (first | infer_instance | with_reducible apply aq (h2) | with_reducible apply aq (h3) | eq_refl))
 ·rfl
set_option tactic.hygienic true in
theorem ln {ps:List Pt} (g:GoodSh ps):bM [(Shd ps,.z)]=some (.ok (.non,.z),[(Shd ps,.z)]):=by
 have h1:=mY g
 apply zU (ρ:=[some (Shd ps,.z)]) rfl rfl
 ·apply eD
  ·(repeat' (first | infer_instance | with_reducible apply aq (h1) | eq_refl))
  ·rfl
  ·rfl
 ·rfl
noncomputable def mN (p q r:Pt):Int:=if 0 < bE p q r then 1 else -1
set_option tactic.hygienic true in
theorem oU {S:List L3.D} {i j k:Int} {p q r:Pt} (a1:aD (.tup S) (.int i)=some (Pd p,.z)) (a2:aD (.tup S) (.int j)=some (Pd q,.z)) (a3:aD (.tup S) (.int k)=some (Pd r,.z)) (hp:Small p) (hq:Small q):dR [(.tup S,.z),(.tup [.int i,.int j,.int k],.z)]=some (.ok (.int (mN p q r),.z),[(.tup S,.z),(.tup [.int i,.int j,.int k],.z)]):=by
 have b:=lp p q r (Small.sub hp hq).1 (Small.sub hp hq).2
 by_cases h:0 < bE p q r
 ·rw [show mN p q r=1 from if_pos h]
  apply aZ (ρ:=[some (.tup S,.z),some (.tup [.int i,.int j,.int k],.z)]) rfl rfl
  ·apply gf
   ·apply zA
    ·(repeat' (first | infer_instance | with_reducible apply aq (b) | exact a1 | exact a2 | exact a3 | eq_refl))
    ·exact Ao h
    ·exact i_c
   ·rfl
  ·rfl
 ·rw [show mN p q r = -1 from if_neg h]
  apply aZ (ρ:=[some (.tup S,.z),some (.tup [.int i,.int j,.int k],.z)]) rfl rfl
  ·apply gf
   ·apply zB
    ·(repeat' (first | infer_instance | with_reducible apply aq (b) | exact a1 | exact a2 | exact a3 | eq_refl))
    ·exact Ap h
    ·(repeat' (first | infer_instance | eq_refl))
   ·rfl
  ·rfl
set_option tactic.hygienic true in
theorem gY (n m:Int) (h:0 < m/\m < 1073741824):bp [(.lst [.int n],.u),(.int m,.z)]=some (.ok (.int (n % m),.z),[(.lst [.int (n / m)],.u),(.int m,.z)]):=by
 have hd:uI [.int n,.int m]=some (.tup [.int (n / m),.int (n % m)],.z):=by simp [c2,nY,h]
 apply aZ (ρ:=[some (.lst [.int n],.u),some (.int m,.z),none,none]) rfl rfl
 ·apply al
  ·(repeat' (first | infer_instance | exact hd | eq_refl))
  ·apply al
   ·(repeat' (first | infer_instance | eq_refl))
   ·(repeat' (first | infer_instance | eq_refl))
 ·rfl
set_option tactic.hygienic true in
theorem mZ (p q r:Int × Int) (h1:-18446744073709551616 < q.1 - p.1/\q.1 - p.1 < 18446744073709551616) (h2:-18446744073709551616 < q.2 - p.2/\q.2 - p.2 < 18446744073709551616):dw [(Pd p,.z),(Pd q,.z),(Pd r,.z)]=some (.ok (.int (bE p q r),.z),[(Pd p,.z),(Pd q,.z),(Pd r,.z)]):=by
 apply aZ (ρ:=[some (Pd p,.z),some (Pd q,.z),some (Pd r,.z),none]) rfl rfl
 ·apply al
  ·(repeat' (first | infer_instance | exact fX h1 | eq_refl))
  ·(repeat' (first | infer_instance | exact fX h2 | eq_refl))
 ·rfl
theorem eE (c:Int) (m:Int) (h:0 < m):0<=c % m/\c % m < m:=⟨Int.emod_nonneg _ (by omega),Int.emod_lt_of_pos _ h⟩
set_option tactic.hygienic true in
theorem uS (S kk:L3.D) (c n j:Int) (v5:Option (L3.D × Fl)):∃ n' p',fv [some (S,.z),some (kk,.z),some (.int c,.z),some (.int n,.z),some (.int j,.z),v5]=some (.ok .nx,[some (S,.z),some (kk,.z),some (.int c,.z),some (.int n',.z),some (.int j,.z),some (.int p',.z)]):=by
 have b:∀ x:Int,-18446744073709551616 < x % 2147483647/\x % 2147483647 < 18446744073709551616:=fun x=>by have:=eE x 2147483647 (by decide);omega
 have b2:∀ x:Int,-18446744073709551616 < x % 2147483629/\x % 2147483629 < 18446744073709551616:=fun x=>by have:=eE x 2147483629 (by decide);omega
 apply Exists.intro
 apply Exists.intro
 apply al
 ·(repeat' (first | infer_instance | exact ub (by decide) | exact fX (by decide) | eq_refl))
 ·apply al
  ·(repeat' (first | infer_instance | exact fX (b _) | eq_refl))
  ·(repeat' (first | infer_instance | exact ub (by decide) | exact fX (b2 _) | eq_refl))
set_option tactic.hygienic true in
theorem oE (S kk:L3.D) (c:Int):∃ (n:Int) (v3 v4 v5:Option (L3.D × Fl)),(aH (sIf (cB (ah eqX (ah nE (ac 2) (mC (.int 2))) (mC (.int 0)))) (bq 2 (jq (ab (ah zL (ac 2) (mC (.int 2))) aj))) fQ) (aH (a7 3 (mC (.int 0))) (aH (di (aR b6 (ab (mC (.int 16)) aj)) (ay 4) fv) (bq 2 (jq (ab (ac 3) aj)))))) [some (S,.z),some (kk,.z),some (.int c,.z),none,none,none]=some (.ok (.rt (.lst [.int n]) .u),[some (S,.z),some (kk,.z),some (.int c,.z),v3,v4,v5]):=by
 by_cases h:c % 2=0
 ·refine ⟨c / 2,none,none,none,?_⟩
  apply jP
  apply jg
  ·(repeat' (first | infer_instance | eq_refl))
  ·exact Ao h
  ·(repeat' (first | infer_instance | eq_refl))
 ·obtain ⟨ρ',e,n,v4,v5,rfl⟩:=a8 (bnd:=ay 4) (b:=fv) (fun _ ρ=>∃ (n:Int) (v4 v5:Option (L3.D × Fl)),ρ=[some (S,.z),some (kk,.z),some (.int c,.z),some (.int n,.z),v4,v5]) (ds:=aO 0 16) (ρ:=[some (S,.z),some (kk,.z),some (.int c,.z),some (.int 0,.z),none,none]) (k:=0) ⟨0,none,none,rfl⟩ (by
   rintro i d ρ hd ⟨n,v4,v5,rfl⟩
   obtain ⟨hi,rfl⟩:=bj hd
   obtain ⟨n',p',e⟩:=uS S kk c n (0+(i:Int)) v5
   exact ⟨_,_,rfl,.inl e,_,_,_,rfl⟩)
  refine ⟨n,some (.int n,.z),v4,v5,?_⟩
  apply al
  ·apply eD
   ·(repeat' (first | infer_instance | eq_refl))
   ·exact Ap h
   ·rfl
  apply al
  ·(repeat' (first | infer_instance | eq_refl))
  apply al
  ·apply dn
   ·exact cq (by (repeat' (first | infer_instance | eq_refl))) rfl (b5 (n:=16) (by decide) (by decide))
   ·rfl
   ·exact e
  ·(repeat' (first | infer_instance | eq_refl))
set_option tactic.hygienic true in
theorem vJ (ns:List Int) (k:Nat):∃ n:Int,jH [(.fls (ns.map .int),.z),(.int k,.z)]=some (.ok (.lst [.int n],.u),[(.fls (ns.map .int),.z),(.int k,.z)]):=by
 by_cases h:k < ns.length
 ·obtain ⟨n,v3,v4,v5,e⟩:=oE (.fls (ns.map .int)) (.int k) ns[k]
  refine ⟨n,?_⟩
  have a:aD (.fls (ns.map .int)) (.int (k:Int))=some (.int ns[k],.z):=by
   have:L2.atI (ns.map L3.D.int) (k:Int)=some (.int ns[k]):=qL (by simp [h])
   simp [orD,ixD,this]
  have hk:(k:Int) < ((ns.map L3.D.int).length:Int):=by simp;omega
  generalize (k:Int)=kk at *
  apply aZ (ρ:=[some (.fls (ns.map .int),.z),some (.int kk,.z),none,none,none,none]) rfl rfl
  ·apply al
   ·(repeat' (first | infer_instance | exact fX (by decide) | eq_refl))
   apply al
   ·apply jg
    ·(repeat' (first | infer_instance | eq_refl))
    ·exact Ao hk
    ·(repeat' (first | infer_instance | exact a | eq_refl))
   ·exact e
  ·rfl
 ·obtain ⟨n,v3,v4,v5,e⟩:=oE (.fls (ns.map .int)) (.int k) (7919 * (k:Int)+13)
  refine ⟨n,?_⟩
  have hk:¬ (k:Int) < ((ns.map L3.D.int).length:Int):=by simp;omega
  generalize (k:Int)=kk at *
  apply aZ (ρ:=[some (.fls (ns.map .int),.z),some (.int kk,.z),none,none,none,none]) rfl rfl
  ·apply al
   ·(repeat' (first | infer_instance | exact fX (by decide) | eq_refl))
   apply al
   ·apply eD
    ·(repeat' (first | infer_instance | eq_refl))
    ·exact Ap hk
    ·rfl
   ·exact e
  ·rfl
set_option tactic.hygienic true in
theorem wY {X Z:L3.D} {f:Fl} {k j:Int} {p q z:L3.D} {b:Int} (a1:aD X (.int j)=some (p,.z)) (a2:aD X (.int k)=some (q,.z)) (hb:dw [(p,.z),(q,.z),(Z,.z)]=some (.ok (.int b,.z),[(p,.z),(q,.z),(Z,.z)])) :
  eB [some (X,f),some (Z,.z),some (.int k,.z),some (.int j,.z)]=some (.ok (if b=0 then .rt (.bl false) .z else .nx),[some (X,f),some (Z,.z),some (.int k,.z),some (.int j,.z)]):=by
 by_cases h:b=0
 ·rw [if_pos h]
  apply jg
  ·(repeat' (first | infer_instance | with_reducible apply aq (hb) | exact a1 | exact a2 | eq_refl))
  ·exact Ao h
  ·(repeat' (first | infer_instance | eq_refl))
 ·rw [if_neg h]
  apply eD
  ·(repeat' (first | infer_instance | with_reducible apply aq (hb) | exact a1 | exact a2 | eq_refl))
  ·exact Ap h
  ·rfl
set_option tactic.hygienic true in
theorem rY (ps:List Pt) (z:Pt) (hs:∀ p ∈ ps,Small p) (hl:ps.length<=24) {X:L3.D} {f:Fl} (hlen:d5 [X]=some (.int (ps.length:Int),.z)) (hix:∀ (i:Nat) (p:Pt),ps[i]?=some p->aD X (.int i)=some (Pd p,.z)) :
  ∃ (b:Bool) (v2 v3:Option (L3.D × Fl)),nP [some (X,f),some (Pd z,.z),none,none]=some (.ok (.rt (.bl b) .z),[some (X,f),some (Pd z,.z),v2,v3])/\(b=true->sF ps z)/\(b=false->∃ (i j:Nat) (p q:Pt),i < j/\ps[i]?=some p/\ps[j]?=some q/\bE p q z=0):=by
 have inner:∀ (i:Nat) (q:Pt) (v3:Option (L3.D × Fl)),ps[i]?=some q->∃ v3',bV [some (X,f),some (Pd z,.z),some (.int (0+(i:Int)),.z),v3]=some (.ok .nx,[some (X,f),some (Pd z,.z),some (.int (0+(i:Int)),.z),v3'])/\(∀ j p,j < i->ps[j]?=some p->bE p q z ≠ 0) \/
   bV [some (X,f),some (Pd z,.z),some (.int (0+(i:Int)),.z),v3]=some (.ok (.rt (.bl false) .z),[some (X,f),some (Pd z,.z),some (.int (0+(i:Int)),.z),v3'])/\∃ j p,j < i/\ps[j]?=some p/\bE p q z=0:=by
  intro i q v3 hq
  have hi:i < ps.length:=(Ae.mp hq).1
  have hq2:aD X (.int (0+(i:Int)))=some (Pd q,.z):=by rw [Int.zero_add];exact hix i q hq
  have hr:b6 [.int (0+(i:Int))]=some (aO 0 i):=b5 (by omega) (by omega)
  obtain ⟨ρ',h⟩:=mr (bnd:=ay 3) (b:=eB) (fun m ρ=>∃ v3,ρ=[some (X,f),some (Pd z,.z),some (.int (0+(i:Int)),.z),v3]/\∀ j p,j < m->ps[j]?=some p->bE p q z ≠ 0)
   (fun m r fl ρ=>r=.bl false/\fl=.z/\∃ v3,ρ=[some (X,f),some (Pd z,.z),some (.int (0+(i:Int)),.z),v3]/\∃ p,ps[m]?=some p/\bE p q z=0)
   (ds:=aO 0 i) (ρ:=[some (X,f),some (Pd z,.z),some (.int (0+(i:Int)),.z),v3]) (k:=0) ⟨v3,rfl,fun j p h=>absurd h (Nat.not_lt_zero _)⟩ (by
    rintro m d ρ hd ⟨v3,rfl,hn⟩
    obtain ⟨hm,rfl⟩:=bj hd
    have hp:ps[m]?=some (ps[m]'(by omega)):=z9 _
    generalize (ps[m]'(by omega))=p at hp
    have hp2:aD X (.int (0+(m:Int)))=some (Pd p,.z):=by rw [Int.zero_add];exact hix m p hp
    have sm:=Small.sub (hs p (Af hp)) (hs q (Af hq))
    have rb:=wY (f:=f) (z:=.non) hp2 hq2 (mZ p q z sm.1 sm.2)
    by_cases h0:bE p q z=0
    ·rw [if_pos h0] at rb
     exact ⟨_,_,rfl,.inr ⟨.bl false,.z,rb,rfl,rfl,_,rfl,p,by rw [As];exact hp,h0⟩⟩
    ·rw [if_neg h0] at rb
     refine ⟨_,_,rfl,.inl ⟨.inl rb,_,rfl,fun j p' hj hp1=>?_⟩⟩
     by_cases e:j=m
     ·subst e;rw [hp] at hp1;cases hp1;exact h0
     ·exact hn j p' (by omega) hp1)
  have wrap:∀ {o:Except L3.D Flw} {ρ2:Sto},fw (ay 3) eB (aO 0 i) [some (X,f),some (Pd z,.z),some (.int (0+(i:Int)),.z),v3]=some (o,ρ2)->bV [some (X,f),some (Pd z,.z),some (.int (0+(i:Int)),.z),v3]=some (o,ρ2):=fun e=>by
   apply dn
   ·(repeat' (first | with_reducible apply cq (h3:=hr) | infer_instance | eq_refl))
   ·rfl
   ·exact e
  rcases h with ⟨e,v3',rfl,h⟩ | ⟨m,r,fl,hm,e,rfl,rfl,v3',rfl,p,hp,h0⟩
  ·exact ⟨v3',.inl ⟨wrap e,fun j p hj=>h j p (by rw [aV];omega)⟩⟩
  ·exact ⟨v3',.inr ⟨wrap e,m,p,by rw [aV] at hm;exact hm,by rw [As] at hp;exact hp,h0⟩⟩
 obtain ⟨ρ',h⟩:=mr (bnd:=ay 2) (b:=bV) (fun m ρ=>∃ v2 v3,ρ=[some (X,f),some (Pd z,.z),v2,v3]/\∀ i j p q,i < j->j < m->ps[i]?=some p->ps[j]?=some q->bE p q z ≠ 0)
   (fun m r fl ρ=>r=.bl false/\fl=.z/\∃ v2 v3,ρ=[some (X,f),some (Pd z,.z),v2,v3]/\∃ (i j:Nat) (p q:Pt),i < j/\ps[i]?=some p/\ps[j]?=some q/\bE p q z=0)
   (ds:=aO 0 ps.length) (ρ:=[some (X,f),some (Pd z,.z),none,none]) (k:=0) ⟨_,_,rfl,fun i j p q _ h=>absurd h (Nat.not_lt_zero _)⟩ (by
    rintro m d ρ hd ⟨v2,v3,rfl,hn⟩
    obtain ⟨hm,rfl⟩:=bj hd
    have hq:ps[m]?=some (ps[m]'(by omega)):=z9 _
    generalize (ps[m]'(by omega))=q at hq
    obtain ⟨v3',h⟩:=inner m q v3 hq
    rcases h with ⟨e,h⟩ | ⟨e,j,p,hj,hp,h0⟩
    ·refine ⟨_,_,rfl,.inl ⟨.inl e,_,_,rfl,fun i j p q' hij hj hi hj'=>?_⟩⟩
     by_cases ej:j=m
     ·subst ej;rw [hq] at hj';cases hj';exact h i p hij hi
     ·exact hn i j p q' hij (by omega) hi hj'
    ·exact ⟨_,_,rfl,.inr ⟨.bl false,.z,e,rfl,rfl,_,_,rfl,j,m,p,q,hj,hp,hq,h0⟩⟩)
 have hr:b6 [.int (ps.length:Int)]=some (aO 0 ps.length):=b5 (by omega) (by omega)
 have hf:∀ {o:Except L3.D Flw} {ρ2:Sto},fw (ay 2) bV (aO 0 ps.length) [some (X,f),some (Pd z,.z),none,none]=some (o,ρ2)->di (aR b6 (ab (aB d5 (ab (ac 0) aj)) aj)) (ay 2) bV [some (X,f),some (Pd z,.z),none,none]=some (o,ρ2):=fun e=>by
  apply dn
  ·exact cq (bJ (iw (bJ (bx rfl) eY) rfl hlen) eY) rfl hr
  ·rfl
  ·exact e
 rcases h with ⟨e,v2,v3,rfl,h⟩ | ⟨m,r,fl,hm,e,rfl,rfl,v2,v3,rfl,hx⟩
 ·refine ⟨true,v2,v3,?_,fun _ i j p q hij hi hj=>h i j p q hij ?_ hi hj,fun h=>by cases h⟩
  ·apply al
   ·exact hf e
   ·(repeat' (first | infer_instance | eq_refl))
  ·have:=(Ae.mp hj).1
   rw [aV];omega
 ·refine ⟨false,v2,v3,?_,fun h=>(by cases h),fun _=>hx⟩
  apply jP
  exact hf e
theorem tf (ps:List Pt) (z:Pt) (hs:∀ p ∈ ps,Small p) (hl:ps.length<=24):∃ b:Bool,iD [(.lst (ps.map Pd),.u),(Pd z,.z)]=some (.ok (.bl b,.z),[(.lst (ps.map Pd),.u),(Pd z,.z)])/\(b=true->sF ps z)/\(b=false->∃ (i j:Nat) (p q:Pt),i < j/\ps[i]?=some p/\ps[j]?=some q/\bE p q z=0):=by
 obtain ⟨b,v2,v3,e,h1,h2⟩:=rY ps z hs hl (X:=.lst (ps.map Pd)) (f:=.u) (by simp [c1,rO]) (fun i p h=>vt (pN h))
 refine ⟨b,?_,h1,h2⟩
 apply aZ (ρ:=[some (.lst (ps.map Pd),.u),some (Pd z,.z),none,none]) rfl rfl
 ·exact e
 ·rfl
noncomputable abbrev dD (n most many kd x:Int) (ps:List Pt) (v6 v7 v8:Option (L3.D × Fl)):Sto:=[some (.lst [.int n],.u),some (.int most,.z),some (.int many,.z),some (.int kd,.z),some (.int x,.z),some (.lst (ps.map Pd),.u),v6,v7,v8]
theorem sD (ps:List Pt) (x y:Int) (hl:ps.length<=12):above ps x y<=144:=by
 have h1:=uZ ps x y
 have h2:ps.length * ps.length<=12 * 12:=Nat.mul_le_mul hl hl
 omega
set_option tactic.hygienic true in
theorem oV {n most many kd x y0:Int} {ps:List Pt} {v6 v7:Option (L3.D × Fl)} (R:Rising ps) (hs:∀ p ∈ ps,Small p) (hl:ps.length<=12) :
  ∃ y,eI cO dL (dD n most many kd x ps v6 v7 (some (.int y0,.z)))=some (.ok .nx,dD n most many kd x ps v6 v7 (some (.int y,.z)))/\sF ps (x,y)/\y0<=y/\y<=y0+144:=by
 have ablt:=sD ps x y0 hl
 obtain ⟨ρ',e,y,rfl,hf,h1,h2⟩:=lb (c:=cO) (b:=dL) (fun m ρ=>∃ y:Int,ρ=dD n most many kd x ps v6 v7 (some (.int y,.z))/\m=above ps x y/\y0<=y/\y+(above ps x y:Int)<=y0+(above ps x y0:Int))
  (fun ρ=>∃ y:Int,ρ=dD n most many kd x ps v6 v7 (some (.int y,.z))/\sF ps (x,y)/\y0<=y/\y<=y0+144) (ρ:=dD n most many kd x ps v6 v7 (some (.int y0,.z))) ⟨y0,rfl,rfl,Int.le_refl _,Int.le_refl _⟩ (by
   rintro m ρ ⟨y,rfl,rfl,h1,h2⟩
   obtain ⟨b,eb,ht,hf⟩:=tf ps (x,y) hs (by omega)
   have et:cO (dD n most many kd x ps v6 v7 (some (.int y,.z)))=some (.ok (!b),dD n most many kd x ps v6 v7 (some (.int y,.z))):=by
    unfold cO
    (repeat' (first | infer_instance | with_reducible apply aq (eb) | eq_refl))
   cases b with
   | true=>exact .inl ⟨_,et,y,rfl,ht rfl,h1,by omega⟩
   | false =>
    obtain ⟨i,j,p,q,hij,e1,e2,h0⟩:=hf rfl
    have hlt:=uY R hij e1 e2 h0
    exact .inr ⟨_,dD n most many kd x ps v6 v7 (some (.int (y+1),.z)),_,et,.inl (by unfold dL;(repeat' (first | infer_instance | eq_refl))),hlt,y+1,rfl,rfl,by omega,by omega⟩)
 exact ⟨y,e,hf,h1,h2⟩
theorem sq_le {x:Int} (h0:-40<=x) (h1:x<=40):0<=x * x/\x * x<=1600:=by
 have a:x * x=(x.natAbs * x.natAbs:Nat):=by rw [Int.natCast_mul];exact (Int.natAbs_mul_self' x).symm
 have b:x.natAbs * x.natAbs<=40 * 40:=Nat.mul_le_mul (by omega) (by omega)
 omega
theorem xn {x k:Int}:∃ b:Int,aD (.lst [.int (x * x),.int (0 - x * x)]) (.int (k % 2))=some (.int b,.z)/\(b=x * x\/b=0 - x * x):=by
 rcases Int.emod_two_eq k with e | e
 ·rw [e];exact ⟨_,rfl,.inl rfl⟩
 ·rw [e];exact ⟨_,rfl,.inr rfl⟩
theorem y_at {a b c d e kd:Int} (h0:0<=kd) (h1:kd < 5):∃ y:Int,aD (.lst [.int a,.int b,.int c,.int d,.int e]) (.int kd)=some (.int y,.z)/\(y=a\/y=b\/y=c\/y=d\/y=e):=by
 obtain ⟨j,rfl⟩:∃ j:Nat,kd=(j:Int):=⟨kd.toNat,by omega⟩
 match j,h1 with
 | 0,_=>exact ⟨_,rfl,.inl rfl⟩
 | 1,_=>exact ⟨_,rfl,.inr (.inl rfl)⟩
 | 2,_=>exact ⟨_,rfl,.inr (.inr (.inl rfl))⟩
 | 3,_=>exact ⟨_,rfl,.inr (.inr (.inr (.inl rfl)))⟩
 | 4,_=>exact ⟨_,rfl,.inr (.inr (.inr (.inr rfl)))⟩
 | j+5,h=>exact absurd h (by omega)
set_option tactic.hygienic true in
theorem sY {n most many kd x k:Int} {ps:List Pt} {v7 v8:Option (L3.D × Fl)} (R:Rising ps) (hs:∀ p ∈ ps,Small p) (hl:ps.length<=12) (k0:0<=kd) (k1:kd < 5) (x0:-9<=x) (x1:x<=36) :
  ∃ (n' d y:Int) (v7' v8':Option (L3.D × Fl)),dJ (dD n most many kd x ps (some (.int k,.z)) v7 v8)=some (.ok .nx,dD n' most many kd (x+1+d) (ps ++ [(x+1+d,y)]) (some (.int k,.z)) v7' v8')/\0<=d/\d < 3/\sF ps (x+1+d,y)/\-2000<=y/\y<=2000:=by
 have d0:=eE n 3 (by decide)
 have a0:=eE (n / 3) 40 (by decide)
 have c0:=eE (n / 3 / 40) 6 (by decide)
 have t:=gY
 generalize hX:x+1+n % 3=X at *
 have sq:=sq_le (x:=X) (by omega) (by omega)
 obtain ⟨bt,hb,hb2⟩:=xn (x:=X) (k:=k)
 obtain ⟨y0,hy,hy2⟩:=y_at (a:=n / 3 % 40) (b:=X * X) (c:=9 - X * X) (d:=bt) (e:=n / 3 / 40 % 6) k0 k1
 have hm:-18446744073709551616 < X/\X < 18446744073709551616:=by omega
 obtain ⟨y,ew,hf,h1,h2⟩:=oV (n:=n / 3 / 40 / 6) (most:=most) (many:=many) (kd:=kd) (x:=X) (y0:=y0) (ps:=ps) (v6:=some (.int k,.z)) (v7:=some (.int bt,.z)) R hs hl
 have yb:-1700<=y0/\y0<=1700:=by
  rcases hb2 with e | e <;> rcases hy2 with e2 | e2 | e2 | e2 | e2 <;> omega
 refine ⟨n / 3 / 40 / 6,n % 3,y,some (.int bt,.z),some (.int y,.z),?_,d0.1,d0.2,by rw [hX];exact hf,by omega,by omega⟩
 rw [hX]
 have m3:(ps.map Pd).length < 16777216:=by simp;omega
 have ha:=zQ (d:=Pd (X,y)) m3
 rw [show ps.map Pd ++ [Pd (X,y)]=(ps ++ [(X,y)]).map Pd by simp] at ha
 apply al (ρ1:=dD (n / 3) most many kd X ps (some (.int k,.z)) v7 v8)
 ·rw [<- hX]
  (repeat' (first | infer_instance | with_reducible apply aq (t _ _ (by decide)) | eq_refl))
 apply al (ρ1:=dD (n / 3) most many kd X ps (some (.int k,.z)) (some (.int bt,.z)) v8)
 ·(repeat' (first | infer_instance | exact hb | exact fX hm | eq_refl))
 apply al (ρ1:=dD (n / 3 / 40 / 6) most many kd X ps (some (.int k,.z)) (some (.int bt,.z)) (some (.int y0,.z)))
 ·(repeat' (first | infer_instance | with_reducible apply aq (t _ _ (by decide)) | exact hy | exact fX hm | eq_refl))
 apply al
 ·exact ew
 ·(repeat' (first | infer_instance | exact ha | eq_refl))
set_option tactic.hygienic true in
theorem s9 {n most many kd x:Int} (hm:0<=many/\many<=12) (k0:0<=kd) (k1:kd < 5) (x0:-8<=x) (x1:x<=0) :
  ∃ (n' x':Int) (ps:List Pt) (v6 v7 v8:Option (L3.D × Fl)),di (aR b6 (ab (ac 2) aj)) (ay 6) dJ (dD n most many kd x [] none none none)=some (.ok .nx,dD n' most many kd x' ps v6 v7 v8)/\(ps.length:Int)=many/\Rising ps/\NoLine ps/\(∀ q ∈ ps,-9<=q.1/\q.1<=100/\-2000<=q.2/\q.2<=2000):=by
 obtain ⟨ρ',e,n',x',ps,v6,v7,v8,rfl,hl,ris,nl,bnd,h1,h2⟩:=a8 (bnd:=ay 6) (b:=dJ) (fun i ρ=>∃ (n x:Int) (ps:List Pt) (v6 v7 v8:Option (L3.D × Fl)),ρ=dD n most many kd x ps v6 v7 v8/\ps.length=i/\Rising ps/\NoLine ps/\(∀ q ∈ ps,q.1<=x/\-9<=q.1/\-2000<=q.2/\q.2<=2000)/\-8<=x/\x<=3 * (i:Int))
  (ds:=aO 0 many.toNat) (ρ:=dD n most many kd x [] none none none) (k:=0) ⟨n,x,[],none,none,none,rfl,rfl,fun _ _ _ _ _ e _=>by simp at e,fun _ _ _ _ _ _ _ _ e _ _=>by simp at e,fun _ e=>by simp at e,by omega,by omega⟩ (by
   rintro i d ρ hd ⟨n,x,ps,v6,v7,v8,rfl,hl,ris,nl,bnd,h1,h2⟩
   obtain ⟨hi,rfl⟩:=bj hd
   have smp:∀ q ∈ ps,Small q:=fun q hq=>by
    obtain ⟨a1,a2,a3,a4⟩:=bnd q hq
    exact ⟨by omega,by omega,by omega,by omega⟩
   obtain ⟨n',dd,y,v7',v8',e,d0,d1,fr,y0,y1⟩:=sY (n:=n) (most:=most) (many:=many) (kd:=kd) (x:=x) (k:=0+(i:Int)) (ps:=ps) (v7:=v7) (v8:=v8) ris smp (by omega) k0 k1 (by omega) (by omega)
   refine ⟨_,_,rfl,.inl e,n',x+1+dd,ps ++ [(x+1+dd,y)],_,_,_,rfl,by simp;omega,ris.snoc fun q hq=>?_,nl.snoc fr,fun q hq=>?_,by omega,by omega⟩
   ·show q.1 < x+1+dd
    have:=(bnd q hq).1
    omega
   ·rcases Ab.mp hq with hq | hq
    ·obtain ⟨a1,a2,a3,a4⟩:=bnd q hq
     exact ⟨by omega,by omega,by omega,by omega⟩
    ·have e:q=(x+1+dd,y):=by simpa using hq
     subst e
     exact ⟨Int.le_refl _,by show -9<=x+1+dd;omega,by show -2000<=y;omega,by show y<=2000;omega⟩)
 rw [aV] at hl h2
 have hr:b6 [.int many]=some (aO 0 many.toNat):=b5 (by omega) rfl
 refine ⟨n',x',ps,v6,v7,v8,?_,by omega,ris,nl,fun q hq=>?_⟩
 ·apply dn
  ·(repeat' (first | with_reducible apply cq (h3:=hr) | infer_instance | eq_refl))
  ·rfl
  ·exact e
 ·obtain ⟨a1,a2,a3,a4⟩:=bnd q hq
  exact ⟨by omega,by omega,by omega,by omega⟩
noncomputable def cx (p:Pt):Pt:=(p.1 * 1000000000000,p.2 * 1000000000000000+7)
theorem oH (p q r:Pt):bE (cx p) (cx q) (cx r)=1000000000000000000000000000 * bE p q r:=by
 unfold bE cx
 dsimp only
 have e1:q.1 * 1000000000000 - p.1 * 1000000000000=(q.1 - p.1) * 1000000000000:=by omega
 have e2:r.1 * 1000000000000 - p.1 * 1000000000000=(r.1 - p.1) * 1000000000000:=by omega
 have e3:r.2 * 1000000000000000+7 - (p.2 * 1000000000000000+7)=(r.2 - p.2) * 1000000000000000:=by omega
 have e4:q.2 * 1000000000000000+7 - (p.2 * 1000000000000000+7)=(q.2 - p.2) * 1000000000000000:=by omega
 rw [e1,e2,e3,e4]
 generalize q.1 - p.1=a
 generalize r.2 - p.2=b
 generalize q.2 - p.2=c
 generalize r.1 - p.1=d
 have h:∀ a b:Int,a * 1000000000000 * (b * 1000000000000000)=1000000000000000000000000000 * (a * b):=fun a b=>by
  rw [Int.mul_assoc,Int.mul_left_comm 1000000000000 b,<- Int.mul_assoc,show (1000000000000:Int) * 1000000000000000=1000000000000000000000000000 from rfl,Int.mul_comm]
 rw [h,Int.mul_comm (c * 1000000000000000),h,Int.mul_comm d c,<- Int.mul_sub]
theorem oY {ps:List Pt} (R:Rising ps):Rising (ps.map cx):=fun i j p q hij h1 h2=>by
 rw [Ai] at h1 h2
 obtain ⟨p',e1,rfl⟩:=z5.mp h1
 obtain ⟨q',e2,rfl⟩:=z5.mp h2
 have:=R i j p' q' hij e1 e2
 show p'.1 * 1000000000000 < q'.1 * 1000000000000
 omega
theorem pc {ps:List Pt} (N:NoLine ps):NoLine (ps.map cx):=fun i j k p q r hij hjk h1 h2 h3=>by
 rw [Ai] at h1 h2 h3
 obtain ⟨p',e1,rfl⟩:=z5.mp h1
 obtain ⟨q',e2,rfl⟩:=z5.mp h2
 obtain ⟨r',e3,rfl⟩:=z5.mp h3
 rw [oH]
 exact Int.mul_ne_zero (by decide) (N i j k p' q' r' hij hjk e1 e2 e3)
theorem pow12:tQ (.int 10) (.int 12)=some (.int 1000000000000,.z):=rfl
theorem pow15:tQ (.int 10) (.int 15)=some (.int 1000000000000000,.z):=rfl
set_option tactic.hygienic true in
theorem q8 (ps:List Pt) (hl:ps.length<=24) {n most many kd x:Int} {v6 v7 v8:Option (L3.D × Fl)}:a7 5 dI (dD n most many kd x ps v6 v7 v8)=some (.ok .nx,dD n most many kd x (ps.map cx) v6 v7 v8):=by
 obtain ⟨τ',e,a,b,rfl⟩:=d6 (bnd:=pL 2 (fI (ay 0) (fI (ay 1) pM))) (c:=gP) (elt:=fu) (fun τ=>∃ a b,τ=[a,b]) Pd (fun _=>true) (fun p=>Pd (cx p)) (xs:=ps) (τ:=[none,none]) ⟨none,none,rfl⟩ (by
  rintro p hp τ ⟨a,b,rfl⟩
  exact ⟨[some (.int p.1,.z),some (.int p.2,.z)],_,rfl,rfl,(fun h=>by cases h),fun _=>⟨.val (Pd (cx p)) .z,[some (.int p.1,.z),some (.int p.2,.z)],(Pd (cx p),.z),_,by unfold fu;(repeat' (first | infer_instance | exact pow12 | exact pow15 | exact ub (by decide) | eq_refl)),rfl,rfl,_,_,rfl⟩⟩)
 rw [AH.mpr (fun _ _=>rfl)] at e
 have e2:dI (dD n most many kd x ps v6 v7 v8)=some (.ok (.val (.lst (ps.map fun p=>Pd (cx p))) .u),dD n most many kd x ps v6 v7 v8):=cp (rs:=[.pl 5]) (ρ1:=dD n most many kd x ps v6 v7 v8) (ρ2:=[some (.lst [.int n],.u),some (.int most,.z),some (.int many,.z),some (.int kd,.z),some (.int x,.z),some (.lst (ps.map Pd),.l),v6,v7,v8]) rfl e (by simp;omega) rfl
 rw [show (ps.map fun p=>Pd (cx p))=(ps.map cx).map Pd by simp] at e2
 exact nZ e2 rfl (Nat.le_of_ble_eq_true rfl) rfl
set_option tactic.hygienic true in
theorem qZ (n most:Int) (h1:1<=most) (h2:most<=12):∃ (n':Int) (ps:List Pt),gx [(.lst [.int n],.u),(.int most,.z)]=some (.ok (.tup (ps.map Pd),.z),[(.lst [.int n'],.u),(.int most,.z)])/\GoodSh ps/\(ps.length:Int)<=most/\∀ q ∈ ps,-(2 ^ 61) < q.2/\q.2 < 2 ^ 61:=by
 have t:=gY
 have a0:=eE n most (by omega)
 have b0:=eE (n / most) 5 (by decide)
 have x9:=eE (n / most / 5) 9 (by decide)
 obtain ⟨n',x',ps,v6,v7,v8,e,hl,ris,nln,bnd⟩:=s9 (n:=n / most / 5 / 9) (most:=most) (many:=1+n % most) (kd:=n / most % 5) (x:=0 - n / most / 5 % 9) ⟨by omega,by omega⟩ b0.1 b0.2 (by omega) (by omega)
 have good:GoodSh ps:=⟨by omega,by omega,fun q hq=>by
  obtain ⟨a1,a2,a3,a4⟩:=bnd q hq
  exact ⟨by omega,by omega,by omega,by omega⟩,ris,nln⟩
 have goodS:GoodSh (ps.map cx):=⟨by simpa using good.pos,by simpa using good.most,fun q hq=>by
  obtain ⟨r,hr,rfl⟩:=Ah.mp hq
  obtain ⟨a1,a2,a3,a4⟩:=bnd r hr
  exact ⟨by show -(2 ^ 62) < r.1 * 1000000000000;omega,by show r.1 * 1000000000000 < 2 ^ 62;omega,by show -(2 ^ 62) < r.2 * 1000000000000000+7;omega,by show r.2 * 1000000000000000+7 < 2 ^ 62;omega⟩,oY ris,pc nln⟩
 have pre:∀ {r:Option (Except L3.D Flw × Sto)},aH (sIf (cB (ah eqX (au bp (ab (ac 0) (ab (mC (.int 6)) aj))) (mC (.int 5)))) (a7 5 dI) fQ) (bq 2 (aB u9 (ab (ac 5) aj))) (dD n' most (1+n % most) (n / most % 5) x' ps v6 v7 v8)=r->lA [some (.lst [.int n],.u),some (.int most,.z),none,none,none,none,none,none,none]=r:=by
  intro r hr
  apply al (ρ1:=[some (.lst [.int (n / most)],.u),some (.int most,.z),some (.int (1+n % most),.z),none,none,none,none,none,none])
  ·(repeat' (first | infer_instance | with_reducible apply aq (t n most (by omega)) | eq_refl))
  apply al (ρ1:=[some (.lst [.int (n / most / 5)],.u),some (.int most,.z),some (.int (1+n % most),.z),some (.int (n / most % 5),.z),none,none,none,none,none])
  ·(repeat' (first | infer_instance | with_reducible apply aq (t _ _ (by decide)) | eq_refl))
  apply al (ρ1:=[some (.lst [.int (n / most / 5 / 9)],.u),some (.int most,.z),some (.int (1+n % most),.z),some (.int (n / most % 5),.z),some (.int (0 - n / most / 5 % 9),.z),none,none,none,none])
  ·(repeat' (first | infer_instance | with_reducible apply aq (t _ _ (by decide)) | eq_refl))
  apply al (ρ1:=dD (n / most / 5 / 9) most (1+n % most) (n / most % 5) (0 - n / most / 5 % 9) [] none none none)
  ·(repeat' (first | infer_instance | eq_refl))
  exact al e hr
 by_cases h5:n' % 6=5
 ·refine ⟨n' / 6,ps.map cx,?_,goodS,by rw [Ad];omega,fun q hq=>?_⟩
  ·apply aZ (ρ:=[some (.lst [.int n],.u),some (.int most,.z),none,none,none,none,none,none,none]) rfl rfl
   ·apply pre
    apply al
    ·apply jg
     ·(repeat' (first | infer_instance | with_reducible apply aq (t _ _ (by decide)) | eq_refl))
     ·exact Ao h5
     ·exact q8 ps (by omega)
    ·(repeat' (first | infer_instance | eq_refl))
   ·rfl
  ·obtain ⟨r,hr,rfl⟩:=Ah.mp hq
   obtain ⟨a1,a2,a3,a4⟩:=bnd r hr
   exact ⟨by show -(2 ^ 61) < r.2 * 1000000000000000+7;omega,by show r.2 * 1000000000000000+7 < 2 ^ 61;omega⟩
 ·refine ⟨n' / 6,ps,?_,good,by omega,fun q hq=>?_⟩
  ·apply aZ (ρ:=[some (.lst [.int n],.u),some (.int most,.z),none,none,none,none,none,none,none]) rfl rfl
   ·apply pre
    apply al
    ·apply eD
     ·(repeat' (first | infer_instance | with_reducible apply aq (t _ _ (by decide)) | eq_refl))
     ·exact Ap h5
     ·rfl
    ·(repeat' (first | infer_instance | eq_refl))
   ·rfl
  ·obtain ⟨a1,a2,a3,a4⟩:=bnd q hq
   exact ⟨by omega,by omega⟩
noncomputable def gA (ps:List Pt) (i:Nat):Pt:=ps.getD i (0,0)
theorem nq {ps:List Pt} {i:Nat} (h:i < ps.length):ps[i]?=some (gA ps i):=by
 simp [gA,List.getD,h]
theorem cY {ps:List Pt} {i:Nat} (hs:∀ p ∈ ps,Small p) (h:i < ps.length):Small (gA ps i):=hs _ (Af (nq h))
theorem xm {α:Type} (f:α->Bool):∀ xs:List α,iC (xs.map fun x=>L3.D.bl (f x))=some (xs.map f)
 | []=>rfl
 | x :: xs=>by simp only [An,iC,xm f xs,Ax]
theorem ir {α:Type} (f:α->Int):∀ xs:List α,cj (xs.map fun x=>L3.D.int (f x))=some (xs.map f)
 | []=>rfl
 | x :: xs=>by simp only [An,cj,ir f xs,Ax]
noncomputable def mx1 (l:List Int):Int:=(ig l).getD 1
theorem wC:mx1 []=1:=rfl
theorem eA {l:List Int} (h:l ≠ []):mx1 l ∈ l:=by
 cases l with
 | nil=>exact absurd rfl h
 | cons x xs=>exact (fy xs x).1
theorem iN {l:List Int} {n:Int} (h:n ∈ l):n<=mx1 l:=by
 cases l with
 | nil=>cases h
 | cons x xs=>exact (fy xs x).2 n h
theorem t8 {l:List Int} (h:l ≠ []):ig l=some (mx1 l):=by
 cases l with
 | nil=>exact absurd rfl h
 | cons x xs=>rfl
theorem ua {l:List Int} (h:∀ n ∈ l,1<=n):1<=mx1 l:=by
 cases l with
 | nil=>exact Int.le_refl 1
 | cons x xs=>exact h _ (eA (by simp))
section
variable (w:Nat->Nat->Nat->Bool)
noncomputable def mx:Nat->Nat->Nat->Int
 | 0,_,_=>2
 | f+1,i,j=>1+mx1 (((List.range i).filter fun h=>w h i j).map fun h=>mx f h i)
noncomputable def a9 (i j:Nat):Int:=mx w i i j
theorem kC:∀ (f f' i j:Nat),i<=f->i<=f'->mx w f i j=mx w f' i j
 | 0,0,_,_,_,_=>rfl
 | 0,f'+1,i,j,h,_=>by
  obtain rfl:i=0:=by omega
  rfl
 | f+1,0,i,j,_,h=>by
  obtain rfl:i=0:=by omega
  rfl
 | f+1,f'+1,i,j,h,h'=>by
  unfold mx
  congr 2
  refine AK fun k hk=>?_
  have hk:=List.mem_range.mp (AB.mp hk).1
  exact kC f f' k i (by omega) (by omega)
theorem iy (i j:Nat):a9 w i j=1+mx1 (((List.range i).filter fun h=>w h i j).map fun h=>a9 w h i):=by
 have h:a9 w i j=mx w (i+1) i j:=kC w i (i+1) i j (Aj _) (Nat.le_succ _)
 rw [h]
 show 1+mx1 (((List.range i).filter fun h=>w h i j).map fun h=>mx w i h i)=_
 congr 2
 refine AK fun k hk=>?_
 have hk:=List.mem_range.mp (AB.mp hk).1
 exact kC w i k k i (by omega) (Aj _)
theorem om:∀ (f i j:Nat),2<=mx w f i j
 | 0,_,_=>Int.le_refl 2
 | f+1,i,j=>by
  show 2<=1+mx1 _
  have:=ua (l:=((List.range i).filter fun h=>w h i j).map fun h=>mx w f h i) fun n hn=>by
   obtain ⟨k,_,rfl⟩:=Ah.mp hn
   have:=om f k i
   omega
  omega
theorem kD (i j:Nat):2<=a9 w i j:=om w i i j
theorem r9 {h i j:Nat} (hw:w h i j=true) (hh:h < i):a9 w h i+1<=a9 w i j:=by
 rw [iy w i j]
 have:=iN (l:=((List.range i).filter fun h=>w h i j).map fun h=>a9 w h i) (n:=a9 w h i) (Ah.mpr ⟨h,AB.mpr ⟨List.mem_range.mpr hh,hw⟩,rfl⟩)
 omega
noncomputable def ks (n j:Nat):List Nat:=(List.range (n - (j+1))).map fun d=>j+1+d
theorem mem_ks {n j k:Nat}:k ∈ ks n j ↔ j < k/\k < n:=by
 unfold ks
 constructor
 ·intro h
  obtain ⟨d,hd,rfl⟩:=Ah.mp h
  have:=List.mem_range.mp hd
  omega
 ·intro h
  exact Ah.mpr ⟨k - (j+1),List.mem_range.mpr (by omega),by omega⟩
noncomputable def onF (n:Nat):Nat->Nat->Nat->Int
 | 0,_,_=>2
 | f+1,i,j=>1+mx1 (((ks n j).filter fun k=>w i j k).map fun k=>onF n f j k)
noncomputable def onE (n i j:Nat):Int:=onF w n (n - (j+1)) i j
theorem l7 (n:Nat):∀ (f f' i j:Nat),n - (j+1)<=f->n - (j+1)<=f'->onF w n f i j=onF w n f' i j
 | 0,0,_,_,_,_=>rfl
 | 0,f'+1,i,j,h,_=>by
  have e:ks n j=[]:=by unfold ks;rw [show n - (j+1)=0 by omega];rfl
  unfold onF
  rw [e]
  rfl
 | f+1,0,i,j,_,h=>by
  have e:ks n j=[]:=by unfold ks;rw [show n - (j+1)=0 by omega];rfl
  unfold onF
  rw [e]
  rfl
 | f+1,f'+1,i,j,h,h'=>by
  unfold onF
  congr 2
  refine AK fun k hk=>?_
  have hk:=mem_ks.mp (AB.mp hk).1
  exact l7 n f f' j k (by omega) (by omega)
theorem iL (n i j:Nat):onE w n i j=1+mx1 (((ks n j).filter fun k=>w i j k).map fun k=>onE w n j k):=by
 have h:onE w n i j=onF w n (n - (j+1)+1) i j:=l7 w n _ _ i j (Aj _) (Nat.le_succ _)
 rw [h]
 show 1+mx1 (((ks n j).filter fun k=>w i j k).map fun k=>onF w n (n - (j+1)) j k)=_
 congr 2
 refine AK fun k hk=>?_
 have hk:=mem_ks.mp (AB.mp hk).1
 exact l7 w n _ _ j k (by omega) (Aj _)
theorem qe (n:Nat):∀ (f i j:Nat),2<=onF w n f i j
 | 0,_,_=>Int.le_refl 2
 | f+1,i,j=>by
  show 2<=1+mx1 _
  have:=ua (l:=((ks n j).filter fun k=>w i j k).map fun k=>onF w n f j k) fun n' hn=>by
   obtain ⟨k,_,rfl⟩:=Ah.mp hn
   have:=qe n f j k
   omega
  omega
theorem qf (n i j:Nat):2<=onE w n i j:=qe w n _ i j
theorem t6 {n i j k:Nat} (hw:w i j k=true) (hj:j < k) (hk:k < n):onE w n j k+1<=onE w n i j:=by
 rw [iL w n i j]
 have:=iN (l:=((ks n j).filter fun k=>w i j k).map fun k=>onE w n j k) (n:=onE w n j k) (Ah.mpr ⟨k,AB.mpr ⟨mem_ks.mpr ⟨hj,hk⟩,hw⟩,rfl⟩)
 omega
inductive Pth (n:Nat):Nat->Nat->Nat->Nat->Nat->Prop
 | nil {i j:Nat}:i < j->j < n->Pth n 0 i j i j
 | cons {m i j k i' j':Nat}:i < j->w i j k=true->Pth n m j k i' j'->Pth n (m+1) i j i' j'
variable {w}
theorem Pth.lt {n m i j i' j':Nat} (h:Pth w n m i j i' j'):i < j/\j < n/\i' < j'/\j' < n:=by
 induction h with
 | nil a b=>exact ⟨a,b,a,b⟩
 | cons a _ _ ih=>exact ⟨a,by omega,ih.2.2⟩
theorem Pth.up {n m i j i' j':Nat} (h:Pth w n m i j i' j'):a9 w i j+m<=a9 w i' j':=by
 induction h with
 | nil a b=>simp
 | cons a b _ ih =>
  have:=r9 w b a
  omega
theorem Pth.on {n m i j i' j':Nat} (h:Pth w n m i j i' j'):2+(m:Int)<=onE w n i j:=by
 induction h with
 | nil a b=>simpa using qf w n _ _
 | cons a b c ih =>
  have:=t6 w (n:=n) b c.lt.1 c.lt.2.1
  omega
theorem Pth.snoc {n m i j i' j' k:Nat} (h:Pth w n m i j i' j') (hw:w i' j' k=true) (h1:j' < k) (h2:k < n):Pth w n (m+1) i j j' k:=by
 induction h with
 | nil a b=>exact .cons a hw (.nil h1 h2)
 | cons a b c ih=>exact .cons a b (ih hw h1)
theorem ze {n:Nat}:∀ (f i j:Nat),n - (j+1)<=f->i < j->j < n->∃ (m i' j':Nat),onE w n i j=2+(m:Int)/\Pth w n m i j i' j':=by
 intro f
 induction f with
 | zero =>
  intro i j hf hi hj
  refine ⟨0,i,j,?_,.nil hi hj⟩
  rw [iL]
  have e:ks n j=[]:=by unfold ks;rw [show n - (j+1)=0 by omega];rfl
  rw [e];rfl
 | succ f ih =>
  intro i j hf hi hj
  by_cases h:((ks n j).filter fun k=>w i j k).map (fun k=>onE w n j k)=[]
  ·refine ⟨0,i,j,?_,.nil hi hj⟩
   rw [iL,h];rfl
  ·obtain ⟨k,hk,e⟩:=Ah.mp (eA h)
   obtain ⟨hk,hw⟩:=AB.mp hk
   have hk:=mem_ks.mp hk
   obtain ⟨m,i',j',e2,p⟩:=ih j k (by omega) hk.1 hk.2
   refine ⟨m+1,i',j',?_,.cons hi hw p⟩
   rw [iL,<- e,e2]
   push_cast
   omega
theorem xa {n:Nat}:∀ (f i j:Nat),i<=f->i < j->j < n->∃ (m i' j':Nat),a9 w i j=2+(m:Int)/\Pth w n m i' j' i j:=by
 intro f
 induction f with
 | zero =>
  intro i j hf hi hj
  obtain rfl:i=0:=by omega
  exact ⟨0,0,j,rfl,.nil hi hj⟩
 | succ f ih =>
  intro i j hf hi hj
  by_cases h:((List.range i).filter fun h=>w h i j).map (fun h=>a9 w h i)=[]
  ·refine ⟨0,i,j,?_,.nil hi hj⟩
   rw [iy,h];rfl
  ·obtain ⟨k,hk,e⟩:=Ah.mp (eA h)
   obtain ⟨hk,hw⟩:=AB.mp hk
   have hk:=List.mem_range.mp hk
   obtain ⟨m,i',j',e2,p⟩:=ih k i (by omega) hk (by omega)
   refine ⟨m+1,i',j',?_,p.snoc hw hi hj⟩
   rw [iy,<- e,e2]
   push_cast
   omega
theorem qX {n:Nat} {A B:Int} (hA1:∀ i j,i < j->j < n->onE w n i j<=A) (hA2:∃ i j,i < j/\j < n/\onE w n i j=A) (hB1:∀ i j,i < j->j < n->a9 w i j<=B) (hB2:B=1\/∃ i j,i < j/\j < n/\a9 w i j=B):A=B:=by
 obtain ⟨i,j,h1,h2,rfl⟩:=hA2
 obtain ⟨m,i',j',e,p⟩:=ze (w:=w) n i j (by omega) h1 h2
 have l:=p.lt
 have u:=p.up
 have t:=kD w i j
 have b:=hB1 i' j' l.2.2.1 l.2.2.2
 rcases hB2 with rfl | ⟨i2,j2,h3,h4,rfl⟩
 ·omega
 ·obtain ⟨m2,i3,j3,e2,p2⟩:=xa (w:=w) n i2 j2 (by omega) h3 h4
  have l2:=p2.lt
  have o:=p2.on
  have a:=hA1 i3 j3 l2.1 l2.2.1
  omega
end
noncomputable abbrev k2 (i j:Nat):List Key:=[.inl (i:Int),.inl (j:Int)]
noncomputable abbrev k3 (i j k:Nat):List Key:=[.inl (i:Int),.inl (j:Int),.inl (k:Int)]
theorem ux {i j a b:Nat} (h:k2 i j=k2 a b):i=a/\j=b:=by
 simp only [k2,List.cons.injEq,Sum.inl.injEq,and_true] at h
 omega
theorem gg (kvs:List (List Key × L3.D)) (k k':List Key) (v:L3.D):c6 (dj kvs k v) k'=if k'=k then some v else c6 kvs k':=by
 unfold dj
 by_cases ha:(kvs.any fun kv=>decide (kv.1=k))=true
 ·rw [if_pos ha]
  induction kvs with
  | nil=>simp at ha
  | cons p r ih =>
   unfold c6 at *
   rw [An,List.find?_cons,List.find?_cons]
   by_cases h1:p.1=k
   ·by_cases h2:k'=k
    ·simp [h1,h2]
    ·have h3:¬ (k=k'):=fun e=>h2 e.symm
     simp only [h1,if_pos,decide_eq_true_eq,h3,decide_false,if_neg h2]
     by_cases hr:(r.any fun kv=>decide (kv.1=k))=true
     ·have:=ih hr
      simpa [h2] using this
     ·have hid:r.map (fun kv=>if kv.1=k then (kv.1,v) else kv)=r:=by
       conv=>rhs;rw [<- List.map_id r]
       refine AK fun x hx=>?_
       have:¬ x.1=k:=fun e=>hr (List.any_eq_true.mpr ⟨x,hx,Ao e⟩)
       simp [this]
      rw [hid]
   ·have hr:(r.any fun kv=>decide (kv.1=k))=true:=by simpa [h1] using ha
    have:=ih hr
    simp only [h1,if_false]
    by_cases h4:p.1=k'
    ·have h5:¬ (k'=k):=fun e=>h1 (h4.trans e)
     simp [h4,h5]
    ·simp only [h4,decide_false]
     exact this
 ·rw [if_neg ha]
  have hn:∀ x ∈ kvs,¬ x.1=k:=fun x hx e=>ha (List.any_eq_true.mpr ⟨x,hx,Ao e⟩)
  unfold c6
  rw [List.find?_append]
  by_cases h2:k'=k
  ·subst h2
   have:kvs.find? (fun kv=>decide (kv.1=k'))=none:=List.find?_eq_none.mpr fun x hx=>by simpa using hn x hx
   simp [this]
  ·have h3:¬ (k=k'):=fun e=>h2 e.symm
   simp [h2,h3]
theorem l0 (kvs:List (List Key × L3.D)) (k:List Key) (v:L3.D):(dj kvs k v).length<=kvs.length+1:=by
 unfold dj
 split <;> simp
theorem vU {kvs:List (List Key × L3.D)} {k:List Key} {v:L3.D} {x:List Key × L3.D} (h:x ∈ dj kvs k v):x ∈ kvs\/x=(k,v):=by
 unfold dj at h
 split at h
 ·obtain ⟨y,hy,rfl⟩:=Ah.mp h
  by_cases e:y.1=k
  ·rw [if_pos e,<- e];exact .inr rfl
  ·rw [if_neg e];exact .inl hy
 ·rcases Ab.mp h with h | h
  ·exact .inl h
  ·exact .inr (Az.mp h)
theorem mq {kvs:List (List Key × L3.D)} {k:List Key} {d:L3.D} (h:c6 kvs k=some d):(k,d) ∈ kvs:=by
 unfold c6 at h
 obtain ⟨p,h1,rfl⟩:=z5.mp h
 have h2:=List.find?_some h1
 have h3:p.1=k:=by simpa using h2
 rw [<- h3]
 exact List.mem_of_find?_eq_some h1
theorem oP {kvs:List (List Key × L3.D)} {i j:Nat} {d:L3.D} (h:c6 kvs (k2 i j)=some d):aD (.dt kvs) (.tup [.int i,.int j])=some (d,.z):=by
 show n6 (.dt kvs) (.tup [.int i,.int j])=_
 show (c6 kvs (k2 i j)).map (fun d=>(d,Fl.z))=_
 rw [h];rfl
theorem yr {kvs:List (List Key × L3.D)} {i j k:Nat} {d:L3.D} (h:c6 kvs (k3 i j k)=some d):aD (.dt kvs) (.tup [.int i,.int j,.int k])=some (d,.z):=by
 show (c6 kvs (k3 i j k)).map (fun d=>(d,Fl.z))=_
 rw [h];rfl
theorem vA {kvs:List (List Key × L3.D)} {i j:Nat} {d:L3.D} (h:kvs.length < 16777216):kQ (.dt kvs) [.tup [.int i,.int j],d]=some (.dt (dj kvs (k2 i j) d),.non):=by
 show (if kvs.length < 16777216 then some (L3.D.dt (dj kvs (k2 i j) d),L3.D.non) else none)=_
 rw [if_pos h]
theorem set3 {kvs:List (List Key × L3.D)} {i j k:Nat} {d:L3.D} (h:kvs.length < 16777216):kQ (.dt kvs) [.tup [.int i,.int j,.int k],d]=some (.dt (dj kvs (k3 i j k) d),.non):=by
 show (if kvs.length < 16777216 then some (L3.D.dt (dj kvs (k3 i j k) d),L3.D.non) else none)=_
 rw [if_pos h]
theorem fB (a b:Int):eqX (.int a) (.int b)=some (.bl (decide (a=b)),.z):=rfl
structure TbP (kvs:List (List Key × L3.D)) (n:Nat) (f:Nat->Nat->Int) (S:Nat->Nat->Prop) (c:Nat):Prop where
 all:∀ kv ∈ kvs,∃ i j,i < j/\j < n/\kv=(k2 i j,.int (f i j))
 get:∀ i j,S i j->c6 kvs (k2 i j)=some (.int (f i j))
 len:kvs.length<=c
theorem TbP.put {kvs:List (List Key × L3.D)} {n:Nat} {f:Nat->Nat->Int} {S S':Nat->Nat->Prop} {c:Nat} (h:TbP kvs n f S c) {i j:Nat} (h1:i < j) (h2:j < n) (hS:∀ a b,S' a b->S a b\/(a=i/\b=j)):TbP (dj kvs (k2 i j) (.int (f i j))) n f S' (c+1) where
 all:=fun kv hk=>by
  rcases vU hk with hk | rfl
  ·exact h.all kv hk
  ·exact ⟨i,j,h1,h2,rfl⟩
 get:=fun a b hs=>by
  rw [gg]
  by_cases e:k2 a b=k2 i j
  ·obtain ⟨rfl,rfl⟩:=ux e
   rw [if_pos rfl]
  ·rw [if_neg e]
   rcases hS a b hs with h' | ⟨rfl,rfl⟩
   ·exact h.get a b h'
   ·exact absurd rfl e
 len:=by have:=l0 kvs (k2 i j) (.int (f i j));have:=h.len;omega
theorem TbP.mono {kvs:List (List Key × L3.D)} {n:Nat} {f:Nat->Nat->Int} {S S':Nat->Nat->Prop} {c c':Nat} (h:TbP kvs n f S c) (hS:∀ a b,S' a b->S a b) (hc:c<=c'):TbP kvs n f S' c':=⟨h.all,fun a b hs=>h.get a b (hS a b hs),AG h.len hc⟩
noncomputable def trn (ps:List Pt) (i j k:Nat):Int:=mN (gA ps i) (gA ps j) (gA ps k)
noncomputable def gI (ps:List Pt) (T:List (List Key × L3.D)):Prop:=∀ i j k,i < j->j < k->k < ps.length->c6 T (k3 i j k)=some (.int (trn ps i j k))
theorem rE {n i j k:Nat} (h1:i < j) (h2:j < k) (h3:k < n):(i,j,k) ∈ lP n:=by
 refine AI.mpr ⟨i,List.mem_range.mpr (by omega),AI.mpr ⟨j - (i+1),List.mem_range.mpr (by omega),Ah.mpr ⟨k - (j+1),List.mem_range.mpr (by omega),?_⟩⟩⟩
 refine Prod.ext rfl (Prod.ext ?_ ?_) <;> simp <;> omega
theorem iF {ps:List Pt} {i:Nat} (h:i < ps.length):aD (Shd ps) (.int i)=some (Pd (gA ps i),.z):=by
 exact fM (pN (nq h))
theorem zy {i j k a b c:Nat} (h:k3 i j k=k3 a b c):i=a/\j=b/\k=c:=by
 simp only [k3,List.cons.injEq,Sum.inl.injEq,and_true] at h
 omega
set_option tactic.hygienic true in
theorem sC {ps:List Pt} (g:GoodSh ps) {i j k:Nat} (h1:i < j) (h2:j < k) (h3:k < ps.length) {kvs:List (List Key × L3.D)} (hl:kvs.length < 16777216):cS [some (Shd ps,.z),some (.dt kvs,.u),some (Td (i,j,k),.z)]=some (.ok .nx,[some (Shd ps,.z),some (.dt (dj kvs (k3 i j k) (.int (trn ps i j k))),.u),some (Td (i,j,k),.z)]):=by
 have f:dR [(Shd ps,.z),(Td (i,j,k),.z)]=some (.ok (.int (trn ps i j k),.z),[(Shd ps,.z),(Td (i,j,k),.z)]):=oU (iF (ps:=ps) (i:=i) (by omega)) (iF (ps:=ps) (i:=j) (by omega)) (iF (ps:=ps) (i:=k) (by omega)) (cY g.small (by omega)) (cY g.small (by omega))
 have e:kQ (.dt kvs) [Td (i,j,k),.int (trn ps i j k)]=some (.dt (dj kvs (k3 i j k) (.int (trn ps i j k))),.non):=set3 hl
 unfold cS
 have hb:au dR (ab (ac 0) (ab (ac 2) aj)) [some (Shd ps,.z),some (.dt kvs,.u),some (Td (i,j,k),.z)]=some (.ok (.val (.int (trn ps i j k)) .z),[some (Shd ps,.z),some (.dt kvs,.u),some (Td (i,j,k),.z)]):=by (repeat' (first | infer_instance | with_reducible apply aq (f) | eq_refl))
 exact lF (i:=1) (ρ2:=[some (Shd ps,.z),some (.dt kvs,.u),some (Td (i,j,k),.z)]) (ρ3:=[some (Shd ps,.z),some (.dt kvs,.u),some (Td (i,j,k),.z)]) hb rfl (bx (i:=2) rfl) rfl rfl e
set_option tactic.hygienic true in
theorem jU {ps:List Pt} (g:GoodSh ps):∃ T,bG [(Shd ps,.z)]=some (.ok (.dt T,.u),[(Shd ps,.z)])/\gI ps T:=by
 have hn:ps.length<=25:=by have:=g.most;omega
 have hsm:(lP ps.length).length<=20000:=by
  have:=jW (n:=ps.length) (m:=ps.length) hn (by omega)
  exact AG this (by decide)
 obtain ⟨ρ',e,T,v2,rfl,hl,hg⟩:=a8 (bnd:=ay 2) (b:=cS) (fun m ρ=>∃ kvs v2,ρ=[some (Shd ps,.z),some (.dt kvs,.u),v2]/\kvs.length<=m/\∀ (a:Nat) (t:Tri),a < m->(lP ps.length)[a]?=some t->c6 kvs (k3 t.1 t.2.1 t.2.2)=some (.int (trn ps t.1 t.2.1 t.2.2))) (ds:=(lP ps.length).map Td) (ρ:=[some (Shd ps,.z),some (.dt [],.u),none]) (k:=0) ⟨[],none,rfl,Aj _,fun a t h=>by omega⟩ (by
  rintro m d ρ hd ⟨kvs,v2,rfl,hl,hg⟩
  rw [Ai] at hd
  obtain ⟨⟨i,j,k⟩,ht,rfl⟩:=z5.mp hd
  have hm:m < (lP ps.length).length:=(Ae.mp ht).1
  obtain ⟨m1,m2,m3⟩:=nH (Af ht)
  refine ⟨_,_,rfl,.inl (sC (i:=i) (j:=j) (k:=k) g m1 m2 m3 (by omega)),_,_,rfl,?_,?_⟩
  ·have:=l0 kvs (k3 i j k) (.int (trn ps i j k));omega
  ·intro a t ha hta
   rw [gg]
   by_cases e:k3 t.1 t.2.1 t.2.2=k3 i j k
   ·rw [if_pos e]
    obtain ⟨e1,e2,e3⟩:=zy e
    rw [e1,e2,e3]
   ·rw [if_neg e]
    by_cases h:a=m
    ·subst h
     rw [ht] at hta
     cases hta
     exact absurd rfl e
    ·exact hg a t (by omega) hta)
 refine ⟨T,?_,fun i j k h1 h2 h3=>?_⟩
 ·have c:=ln g
  have th:=jT ps.length hn
  have hlen:d5 [Shd ps]=some (.int (ps.length:Nat),.z):=by simp [rO,c1]
  apply aZ (ρ:=[some (Shd ps,.z),none,none]) rfl rfl
  ·apply al (ρ1:=[some (Shd ps,.z),none,none])
   ·(repeat' (first | infer_instance | with_reducible apply aq (c) | eq_refl))
   ·apply al (ρ1:=[some (Shd ps,.z),some (.dt [],.u),none])
    ·rfl
    ·apply al
     ·apply dn
      ·(repeat' (first | infer_instance | with_reducible apply aq (th) | exact hlen | eq_refl))
      ·rfl
      ·exact e
     ·(repeat' (first | infer_instance | eq_refl))
  ·rfl
 ·obtain ⟨a,ha,e2⟩:=List.getElem_of_mem (rE h1 h2 h3)
  exact hg a (i,j,k) (by simp;omega) (by rw [z9 ha,e2])
noncomputable def wv (ps:List Pt) (way:Int) (h i j:Nat):Bool:=decide (trn ps h i j=way)
theorem qm {α:Type} (xs:List α) (f:α->Int):rG (.lst (xs.map fun x=>L3.D.int (f x))) (.int 1)=some (.int (mx1 (xs.map f)),.z):=by
 show (cj (xs.map fun x=>L3.D.int (f x))).map _=_
 rw [ir]
 show some _=_
 unfold mx1
 cases h:ig (xs.map f) <;> simp [h]
theorem um (ps:List Pt):d5 [Shd ps]=some (.int (ps.length:Nat),.z):=by simp [rO,c1]
section
variable {ps:List Pt} {way:Int} {T kvs:List (List Key × L3.D)} {i j:Nat}
noncomputable abbrev rtS (ps:List Pt) (way:Int) (T kvs:List (List Key × L3.D)) (a b:Option (L3.D × Fl)):Sto:=[some (Shd ps,.z),some (.int way,.z),some (.dt T,.u),some (.dt kvs,.u),a,b]
set_option tactic.hygienic true in
theorem vL (hT:gI ps T) (hj:j < ps.length) (hi:i < j) (hl:ps.length<=24) (hk:∀ h,h < i->c6 kvs (k2 h i)=some (.int (a9 (wv ps way) h i))) :
  dS (rtS ps way T kvs (some (.int i,.z)) (some (.int j,.z)))=some (.ok (.val (.lst (((List.range i).filter fun h=>wv ps way h i j).map fun h=>L3.D.int (a9 (wv ps way) h i))) .u),rtS ps way T kvs (some (.int i,.z)) (some (.int j,.z))):=by
 obtain ⟨τ',e,a,rfl⟩:=d6 (bnd:=ay 0) (c:=cK) (elt:=cJ) (fun τ=>∃ a,τ=[a,some (.dt kvs,.u),some (.int i,.z),some (.int way,.z),some (.dt T,.u),some (.int j,.z)]) (fun h:Nat=>L3.D.int (0+(h:Int))) (fun h=>wv ps way h i j) (fun h=>L3.D.int (a9 (wv ps way) h i)) (xs:=List.range i) (τ:=[none,some (.dt kvs,.u),some (.int i,.z),some (.int way,.z),some (.dt T,.u),some (.int j,.z)]) ⟨none,rfl⟩ (by
  rintro h hh τ ⟨a,rfl⟩
  have hh:=List.mem_range.mp hh
  have s3:=yr (hT h i j hh hi hj)
  have s2:=oP (hk h hh)
  have c:cK [some (.int h,.z),some (.dt kvs,.u),some (.int i,.z),some (.int way,.z),some (.dt T,.u),some (.int j,.z)]=some (.ok (wv ps way h i j),[some (.int h,.z),some (.dt kvs,.u),some (.int i,.z),some (.int way,.z),some (.dt T,.u),some (.int j,.z)]):=by
   unfold cK
   (repeat' (first | infer_instance | exact s3 | exact fB _ _ | eq_refl))
  have el:cJ [some (.int h,.z),some (.dt kvs,.u),some (.int i,.z),some (.int way,.z),some (.dt T,.u),some (.int j,.z)]=some (.ok (.val (.int (a9 (wv ps way) h i)) .z),[some (.int h,.z),some (.dt kvs,.u),some (.int i,.z),some (.int way,.z),some (.dt T,.u),some (.int j,.z)]):=by
   unfold cJ
   (repeat' (first | infer_instance | exact s2 | eq_refl))
  exact ⟨_,_,by rw [Int.zero_add];rfl,c,fun _=>⟨_,rfl⟩,fun _=>⟨_,_,_,_,el,rfl,rfl,_,rfl⟩⟩)
 have hr:b6 [.int (i:Int)]=some (aO 0 i):=b5 (by omega) (by omega)
 have im:aR b6 (ab (ac 4) aj) (rtS ps way T kvs (some (.int i,.z)) (some (.int j,.z)))=some (.ok ([],aO 0 i),rtS ps way T kvs (some (.int i,.z)) (some (.int j,.z))):=by (repeat' (first | with_reducible apply cq (h3:=hr) | infer_instance | eq_refl))
 exact cp (rs:=[]) im e (by rw [aV];omega) rfl
set_option tactic.hygienic true in
theorem vM (hT:gI ps T) (hj:j < ps.length) (hi:i < j) (hl:ps.length<=24) (hk:∀ h,h < i->c6 kvs (k2 h i)=some (.int (a9 (wv ps way) h i))) (hc:kvs.length < 16777216) :
  cM (rtS ps way T kvs (some (.int i,.z)) (some (.int j,.z)))=some (.ok .nx,rtS ps way T (dj kvs (k2 i j) (.int (a9 (wv ps way) i j))) (some (.int i,.z)) (some (.int j,.z))):=by
 have c:=vL hT hj hi hl hk
 have v:ah bF (mC (.int 1)) (ah rG dS (mC (.int 1))) (rtS ps way T kvs (some (.int i,.z)) (some (.int j,.z)))=some (.ok (.val (.int (a9 (wv ps way) i j)) .z),rtS ps way T kvs (some (.int i,.z)) (some (.int j,.z))):=by
  rw [iy]
  exact dA i_c (dA c i_c rfl rfl (qm _ _)) rfl rfl rfl
 unfold cM
 exact lF (i:=3) (ρ1:=rtS ps way T kvs (some (.int i,.z)) (some (.int j,.z))) (ρ2:=rtS ps way T kvs (some (.int i,.z)) (some (.int j,.z))) (ρ3:=rtS ps way T kvs (some (.int i,.z)) (some (.int j,.z))) v rfl (by (repeat' (first | infer_instance | eq_refl))) rfl rfl (vA hc)
set_option tactic.hygienic true in
theorem sZ (g:GoodSh ps):∃ kvs,cE [(Shd ps,.z),(.int way,.z)]=some (.ok (.dt kvs,.u),[(Shd ps,.z),(.int way,.z)]):=by
 obtain ⟨T,eT,hT⟩:=jU g
 have hl:=g.most
 have inner:∀ (i:Nat) (kvs:List (List Key × L3.D)) (v5:Option (L3.D × Fl)),i < ps.length->TbP kvs ps.length (a9 (wv ps way)) (fun a b=>a < b/\b < ps.length/\a < i) (25 * i) ->
   ∃ kvs' v5',cL (rtS ps way T kvs (some (.int i,.z)) v5)=some (.ok .nx,rtS ps way T kvs' (some (.int i,.z)) v5')/\TbP kvs' ps.length (a9 (wv ps way)) (fun a b=>a < b/\b < ps.length/\a < i+1) (25 * (i+1)):=by
  intro i kvs v5 hi tb
  obtain ⟨ρ',e,kvs',v5',rfl,tb'⟩:=a8 (bnd:=ay 5) (b:=cM) (fun m ρ=>∃ kvs v5,ρ=rtS ps way T kvs (some (.int i,.z)) v5/\TbP kvs ps.length (a9 (wv ps way)) (fun a b=>a < b/\b < ps.length/\(a < i\/(a=i/\b < i+1+m))) (25 * i+m)) (ds:=aO ((i:Int)+1) (ps.length - (i+1))) (ρ:=rtS ps way T kvs (some (.int i,.z)) v5) (k:=0) ⟨kvs,v5,rfl,tb.mono (fun a b h=>by omega) (by omega)⟩ (by
   rintro m d ρ hd ⟨kvs,v5,rfl,tb⟩
   obtain ⟨hm,rfl⟩:=bj hd
   rw [As] at tb ⊢
   have b:=vM (way:=way) (kvs:=kvs) (i:=i) (j:=i+1+m) hT (by omega) (by omega) hl (fun h hh=>tb.get h i ⟨by omega,by omega,.inl hh⟩) (by have:=tb.len;omega)
   rw [show ((i+1+m:Nat):Int)=(i:Int)+1+m by omega] at b
   refine ⟨_,_,rfl,.inl b,_,_,rfl,?_⟩
   exact (tb.put (i:=i) (j:=i+1+m) (by omega) (by omega) (fun a b h=>by omega)).mono (fun a b h=>h) (by omega))
  rw [aV,As] at tb'
  have hr:eJ [.int ((i:Int)+1),.int (ps.length:Nat)]=some (aO ((i:Int)+1) (ps.length - (i+1))):=gr (by omega) (by omega) (by omega)
  have hlen:=um ps
  refine ⟨kvs',v5',?_,tb'.mono (fun a b h=>by omega) (by omega)⟩
  unfold cL
  apply dn
  ·(repeat' (first | with_reducible apply cq (h3:=hr) | infer_instance | exact hlen | eq_refl))
  ·rfl
  ·exact e
 obtain ⟨ρ',e,kvs',v4,v5,rfl,tb'⟩:=a8 (bnd:=ay 4) (b:=cL) (fun m ρ=>∃ kvs v4 v5,ρ=rtS ps way T kvs v4 v5/\TbP kvs ps.length (a9 (wv ps way)) (fun a b=>a < b/\b < ps.length/\a < m) (25 * m)) (ds:=aO 0 ps.length) (ρ:=rtS ps way T [] none none) (k:=0) ⟨[],none,none,rfl,⟨fun _ h=>(by cases h),fun a b h=>by omega,Aj _⟩⟩ (by
  rintro m d ρ hd ⟨kvs,v4,v5,rfl,tb⟩
  obtain ⟨hm,rfl⟩:=bj hd
  rw [As] at tb ⊢
  obtain ⟨kvs',v5',e,tb'⟩:=inner m kvs v5 hm tb
  exact ⟨_,_,by rw [Int.zero_add];rfl,.inl e,_,_,_,rfl,tb'⟩)
 have hr:b6 [.int (ps.length:Nat)]=some (aO 0 ps.length):=b5 (by omega) (by omega)
 have hlen:=um ps
 refine ⟨kvs',?_⟩
 apply aZ (ρ:=[some (Shd ps,.z),some (.int way,.z),none,none,none,none]) rfl rfl
 ·apply al (ρ1:=[some (Shd ps,.z),some (.int way,.z),some (.dt T,.u),none,none,none])
  ·(repeat' (first | infer_instance | with_reducible apply aq (eT) | eq_refl))
  ·apply al (ρ1:=rtS ps way T [] none none)
   ·rfl
   ·apply al
    ·apply dn
     ·(repeat' (first | with_reducible apply cq (h3:=hr) | infer_instance | exact hlen | eq_refl))
     ·rfl
     ·exact e
    ·(repeat' (first | infer_instance | eq_refl))
 ·rfl
end
theorem vO {a:Int} (ha:-1000<=a/\a<=1000) {n:Nat} (hn:(a+1).toNat=n):oX [.int a,.int (-1),.int (-1)]=some (hJ a n):=by
 have lm:cD a=true:=Ao (by omega)
 have lm2:cD (-1)=true:=Ao (by omega)
 show (if (cD a && cD (-1) && ((-1:Int) == -1))=true then some (hJ a (a - (-1)).toNat) else none)=_
 rw [lm,lm2,show (a - (-1)).toNat=n by omega]
 rfl
theorem tv {hi:Int} {n i:Nat} {d:L3.D} (h:(hJ hi n)[i]?=some d):i < n/\d=.int (hi - i):=by
 unfold hJ at h
 rw [Ai] at h
 obtain ⟨k,a,b⟩:=z5.mp h
 obtain ⟨hk,e⟩:=Ae.mp a
 rw [List.getElem_range] at e
 subst e
 rw [List.length_range] at hk
 exact ⟨hk,b.symm⟩
theorem tu {hi:Int} {n:Nat}:(hJ hi n).length=n:=by unfold hJ;simp
theorem ut (n j:Nat):aO ((j:Int)+1) (n - (j+1))=(ks n j).map fun k:Nat=>L3.D.int (k:Int):=by
 unfold aO ks
 rw [AJ]
 refine AK fun d _=>?_
 show L3.D.int _=L3.D.int _
 congr 1
section
variable {ps:List Pt} {way:Int} {T kvs:List (List Key × L3.D)} {i j n:Nat}
noncomputable abbrev owS (n:Nat) (way:Int) (T kvs:List (List Key × L3.D)) (a b:Option (L3.D × Fl)):Sto:=[some (.dt T,.u),some (.int (n:Int),.z),some (.int way,.z),some (.dt kvs,.u),a,b]
set_option tactic.hygienic true in
theorem wn (hn:n=ps.length) (hT:gI ps T) (hj:j < n) (hi:i < j) (hl:n<=24) (hk:∀ k,j < k->k < n->c6 kvs (k2 j k)=some (.int (onE (wv ps way) n j k))) :
  cN (owS n way T kvs (some (.int i,.z)) (some (.int j,.z)))=some (.ok (.val (.lst (((ks n j).filter fun k=>wv ps way i j k).map fun k=>L3.D.int (onE (wv ps way) n j k))) .u),owS n way T kvs (some (.int i,.z)) (some (.int j,.z))):=by
 obtain ⟨τ',e,a,rfl⟩:=d6 (bnd:=ay 0) (c:=bP) (elt:=bO) (fun τ=>∃ a,τ=[a,some (.dt kvs,.u),some (.int j,.z),some (.int way,.z),some (.dt T,.u),some (.int i,.z)]) (fun k:Nat=>L3.D.int (k:Int)) (fun k=>wv ps way i j k) (fun k=>L3.D.int (onE (wv ps way) n j k)) (xs:=ks n j) (τ:=[none,some (.dt kvs,.u),some (.int j,.z),some (.int way,.z),some (.dt T,.u),some (.int i,.z)]) ⟨none,rfl⟩ (by
  rintro k hkk τ ⟨a,rfl⟩
  have hkk:=mem_ks.mp hkk
  have s3:=yr (hT i j k hi hkk.1 (by omega))
  have s2:=oP (hk k hkk.1 hkk.2)
  have c:bP [some (.int k,.z),some (.dt kvs,.u),some (.int j,.z),some (.int way,.z),some (.dt T,.u),some (.int i,.z)]=some (.ok (wv ps way i j k),[some (.int k,.z),some (.dt kvs,.u),some (.int j,.z),some (.int way,.z),some (.dt T,.u),some (.int i,.z)]):=by
   unfold bP
   (repeat' (first | infer_instance | exact s3 | exact fB _ _ | eq_refl))
  have el:bO [some (.int k,.z),some (.dt kvs,.u),some (.int j,.z),some (.int way,.z),some (.dt T,.u),some (.int i,.z)]=some (.ok (.val (.int (onE (wv ps way) n j k)) .z),[some (.int k,.z),some (.dt kvs,.u),some (.int j,.z),some (.int way,.z),some (.dt T,.u),some (.int i,.z)]):=by
   unfold bO
   (repeat' (first | infer_instance | exact s2 | eq_refl))
  exact ⟨_,_,rfl,c,fun _=>⟨_,rfl⟩,fun _=>⟨_,_,_,_,el,rfl,rfl,_,rfl⟩⟩)
 rw [<- ut] at e
 have hr:eJ [.int ((j:Int)+1),.int (n:Nat)]=some (aO ((j:Int)+1) (n - (j+1))):=gr (by omega) (by omega) (by omega)
 have im:aR eJ (ab (ah bF (ac 5) (mC (.int 1))) (ab (ac 1) aj)) (owS n way T kvs (some (.int i,.z)) (some (.int j,.z)))=some (.ok ([],aO ((j:Int)+1) (n - (j+1))),owS n way T kvs (some (.int i,.z)) (some (.int j,.z))):=by (repeat' (first | with_reducible apply cq (h3:=hr) | infer_instance | eq_refl))
 exact cp (rs:=[]) im e (by rw [aV];omega) rfl
set_option tactic.hygienic true in
theorem wo (hn:n=ps.length) (hT:gI ps T) (hj:j < n) (hi:i < j) (hl:n<=24) (hk:∀ k,j < k->k < n->c6 kvs (k2 j k)=some (.int (onE (wv ps way) n j k))) (hc:kvs.length < 16777216) :
  bR (owS n way T kvs (some (.int i,.z)) (some (.int j,.z)))=some (.ok .nx,owS n way T (dj kvs (k2 i j) (.int (onE (wv ps way) n i j))) (some (.int i,.z)) (some (.int j,.z))):=by
 have c:=wn hn hT hj hi hl hk
 have v:ah bF (mC (.int 1)) (ah rG cN (mC (.int 1))) (owS n way T kvs (some (.int i,.z)) (some (.int j,.z)))=some (.ok (.val (.int (onE (wv ps way) n i j)) .z),owS n way T kvs (some (.int i,.z)) (some (.int j,.z))):=by
  rw [iL]
  exact dA i_c (dA c i_c rfl rfl (qm _ _)) rfl rfl rfl
 unfold bR
 exact lF (i:=3) (ρ1:=owS n way T kvs (some (.int i,.z)) (some (.int j,.z))) (ρ2:=owS n way T kvs (some (.int i,.z)) (some (.int j,.z))) (ρ3:=owS n way T kvs (some (.int i,.z)) (some (.int j,.z))) v rfl (by (repeat' (first | infer_instance | eq_refl))) rfl rfl (vA hc)
set_option tactic.hygienic true in
theorem yz (hn:n=ps.length) (hT:gI ps T) (hl:n<=24) (h2:2<=n):∃ kvs,cV [(.dt T,.u),(.int (n:Int),.z),(.int way,.z)]=some (.ok (.dt kvs,.u),[(.dt T,.u),(.int (n:Int),.z),(.int way,.z)])/\TbP kvs n (onE (wv ps way) n) (fun a b=>a < b/\b < n) 1000:=by
 have inner:∀ (i:Nat) (kvs:List (List Key × L3.D)) (v5:Option (L3.D × Fl)),i+1 < n->TbP kvs n (onE (wv ps way) n) (fun a b=>a < b/\b < n/\i < a) (25 * (n - i)) ->
   ∃ kvs' v5',bQ (owS n way T kvs (some (.int i,.z)) v5)=some (.ok .nx,owS n way T kvs' (some (.int i,.z)) v5')/\TbP kvs' n (onE (wv ps way) n) (fun a b=>a < b/\b < n/\i<=a) (25 * (n - i+1)):=by
  intro i kvs v5 hi tb
  obtain ⟨ρ',e,kvs',v5',rfl,tb'⟩:=a8 (bnd:=ay 5) (b:=bR) (fun m ρ=>∃ kvs v5,ρ=owS n way T kvs (some (.int i,.z)) v5/\TbP kvs n (onE (wv ps way) n) (fun a b=>a < b/\b < n/\(i < a\/(a=i/\b < i+1+m))) (25 * (n - i)+m)) (ds:=aO ((i:Int)+1) (n - (i+1))) (ρ:=owS n way T kvs (some (.int i,.z)) v5) (k:=0) ⟨kvs,v5,rfl,tb.mono (fun a b h=>by omega) (by omega)⟩ (by
   rintro m d ρ hd ⟨kvs,v5,rfl,tb⟩
   obtain ⟨hm,rfl⟩:=bj hd
   rw [As] at tb ⊢
   have b:=wo (way:=way) (kvs:=kvs) (i:=i) (j:=i+1+m) hn hT (by omega) (by omega) hl (fun k h1 h2=>tb.get (i+1+m) k ⟨by omega,by omega,.inl (by omega)⟩) (by have:=tb.len;omega)
   rw [show ((i+1+m:Nat):Int)=(i:Int)+1+m by omega] at b
   refine ⟨_,_,rfl,.inl b,_,_,rfl,?_⟩
   exact (tb.put (i:=i) (j:=i+1+m) (by omega) (by omega) (fun a b h=>by omega)).mono (fun a b h=>h) (by omega))
  rw [aV,As] at tb'
  have hr:eJ [.int ((i:Int)+1),.int (n:Nat)]=some (aO ((i:Int)+1) (n - (i+1))):=gr (by omega) (by omega) (by omega)
  refine ⟨kvs',v5',?_,tb'.mono (fun a b h=>by omega) (by omega)⟩
  unfold bQ
  apply dn
  ·(repeat' (first | with_reducible apply cq (h3:=hr) | infer_instance | eq_refl))
  ·rfl
  ·exact e
 obtain ⟨ρ',e,kvs',v4,v5,rfl,tb'⟩:=a8 (bnd:=ay 4) (b:=bQ) (fun m ρ=>∃ kvs v4 v5,ρ=owS n way T kvs v4 v5/\TbP kvs n (onE (wv ps way) n) (fun a b=>a < b/\b < n/\n - 1<=a+m) (25 * (m+2))) (ds:=hJ ((n:Int) - 2) (n - 1)) (ρ:=owS n way T [] none none) (k:=0) ⟨[],none,none,rfl,⟨fun _ h=>(by cases h),fun a b h=>by omega,by simp⟩⟩ (by
  rintro m d ρ hd ⟨kvs,v4,v5,rfl,tb⟩
  obtain ⟨hm,rfl⟩:=tv hd
  rw [As] at tb ⊢
  obtain ⟨kvs',v5',e,tb'⟩:=inner (n - 2 - m) kvs v5 (by omega) (tb.mono (fun a b h=>by omega) (by omega))
  rw [show ((n - 2 - m:Nat):Int)=(n:Int) - 2 - m by omega] at e
  exact ⟨_,_,rfl,.inl e,_,_,_,rfl,tb'.mono (fun a b h=>by omega) (by omega)⟩)
 rw [tu,As] at tb'
 have hr:oX [.int ((n:Int) - 2),.int (-1),.int (-1)]=some (hJ ((n:Int) - 2) (n - 1)):=vO (by omega) (by omega)
 refine ⟨kvs',?_,tb'.mono (fun a b h=>by omega) (by omega)⟩
 apply aZ (ρ:=[some (.dt T,.u),some (.int (n:Int),.z),some (.int way,.z),none,none,none]) rfl rfl
 ·apply al (ρ1:=owS n way T [] none none)
  ·rfl
  ·apply al
   ·apply dn
    ·(repeat' (first | with_reducible apply cq (h3:=hr) | infer_instance | eq_refl))
    ·rfl
    ·exact e
   ·(repeat' (first | infer_instance | eq_refl))
 ·rfl
end
theorem uV {xs:List L3.D} {a b:L3.D}:aD (.tup (xs ++ [a,b])) (.int (-2))=some (a,.z)/\aD (.tup (xs ++ [a,b])) (.int (-1))=some (b,.z):=by
 constructor
 ·refine fM ?_
  unfold L2.atI ixN
  rw [if_neg (by decide),if_pos (by simp;omega)]
  rw [show (-2+((xs ++ [a,b]).length:Int)).toNat=xs.length by simp;omega]
  simp
 ·refine fM ?_
  unfold L2.atI ixN
  rw [if_neg (by decide),if_pos (by simp;omega)]
  rw [show (-1+((xs ++ [a,b]).length:Int)).toNat=xs.length+1 by simp;omega]
  simp
theorem zn {l:List Int} {b:Int} (h:∀ n ∈ l,n<=b) (hb:1<=b):mx1 l<=b:=by
 cases l with
 | nil=>exact hb
 | cons x xs=>exact h _ (eA (by simp))
theorem t5 (w:Nat->Nat->Nat->Bool) (n:Nat):∀ (f i j:Nat),onF w n f i j<=2+f
 | 0,_,_=>by simp [onF]
 | f+1,i,j=>by
  show 1+mx1 _<=_
  have:=zn (l:=((ks n j).filter fun k=>w i j k).map fun k=>onF w n f j k) (b:=2+f) (fun n' hn=>by
   obtain ⟨k,_,rfl⟩:=Ah.mp hn
   exact t5 w n f j k) (by omega)
  omega
theorem zf (w:Nat->Nat->Nat->Bool) (n i j:Nat):onE w n i j<=2+n:=by
 have:=t5 w n (n - (j+1)) i j
 unfold onE
 omega
theorem wE {α:Type} (xs:List α) (f:α->Int) (h:xs ≠ []):∃ x ∈ xs,ql [.lst (xs.map fun x=>L3.D.int (f x))]=some (.int (f x),.z):=by
 have e:ql [.lst (xs.map fun x=>L3.D.int (f x))]=((cj (xs.map fun x=>L3.D.int (f x))).bind fun ns=>(pq ns).map fun m=>((.int m,.z):L3.D × Fl)):=rfl
 rw [e,ir]
 cases xs with
 | nil=>exact absurd rfl h
 | cons y ys =>
  have hm:=(gh (ys.map f) (f y)).1
  obtain ⟨x,hx,e2⟩:=Ah.mp (show ((ys.map f).foldl (fun a b=>if b < a then b else a) (f y)) ∈ (y :: ys).map f from hm)
  exact ⟨x,hx,by rw [e2];rfl⟩
section
variable {ps:List Pt} {way:Int} {T kvs:List (List Key × L3.D)} {n:Nat} {L:Int}
noncomputable def vl (kv:List Key × L3.D):Int:=match kv.2 with | .int v=>v | _=>0
noncomputable def pk (kv:List Key × L3.D):Int × Int:=match kv.1 with | [.inl i,.inl j]=>(i,j) | _=>(0,0)
theorem vd {f:Nat->Nat->Int} {c:Nat} (h2:2<=n) (tb:TbP kvs n f (fun a b=>a < b/\b < n) c):∃ L,nI [.dt kvs]=some (.int L,.z)/\(∀ i j,i < j->j < n->f i j<=L)/\∃ i j,i < j/\j < n/\f i j=L:=by
 have e1:kvs.map (·.2)=kvs.map fun kv=>L3.D.int (vl kv):=by
  refine AK fun kv hk=>?_
  obtain ⟨i,j,_,_,rfl⟩:=tb.all kv hk
  rfl
 have mem:∀ i j,i < j->j < n->f i j ∈ kvs.map vl:=fun i j h1 h2=>by
  have:=mq (tb.get i j ⟨h1,h2⟩)
  exact Ah.mpr ⟨_,this,rfl⟩
 have hne:kvs.map vl ≠ []:=fun e=>by
  have:=mem 0 1 (by omega) (by omega)
  rw [e] at this
  cases this
 refine ⟨mx1 (kvs.map vl),?_,fun i j h1 h2=>iN (mem i j h1 h2),?_⟩
 ·show ((cj (kvs.map (·.2))).bind fun ns=>(ig ns).map fun m=>((.int m,.z):L3.D × Fl))=_
  rw [e1,ir]
  show (ig (kvs.map vl)).map _=_
  rw [t8 hne]
  rfl
 ·obtain ⟨kv,hk,e⟩:=Ah.mp (eA hne)
  obtain ⟨i,j,h3,h4,rfl⟩:=tb.all kv hk
  exact ⟨i,j,h3,h4,e⟩
noncomputable abbrev lrS (T:List (List Key × L3.D)) (n:Nat) (way:Int) (kvs:List (List Key × L3.D)) (L:Int) (a b c d:Option (L3.D × Fl)):Sto:=[some (.dt T,.u),some (.int (n:Int),.z),some (.int way,.z),some (.dt kvs,.u),some (.int L,.z),a,b,c,d]
set_option tactic.hygienic true in
theorem wM {f:Nat->Nat->Int} {c:Nat} (hc:c < 16777216) (tb:TbP kvs n f (fun a b=>a < b/\b < n) c) (hL:∃ i j,i < j/\j < n/\f i j=L):∃ i j:Nat,i < j/\j < n/\f i j=L/\aB qk (ab c4 aj) (lrS T n way kvs L none none none none)=some (.ok (.val (.tup [.int i,.int j]) .z),lrS T n way kvs L none none none none):=by
 obtain ⟨τ',e,a,rfl⟩:=d6 (bnd:=ay 0) (c:=b9) (elt:=eW) (fun τ=>∃ a,τ=[a,some (.int L,.z),some (.dt kvs,.l)]) (fun kv:List Key × L3.D=>nW kv.1) (fun kv=>decide (vl kv=L)) (fun kv=>nW kv.1) (xs:=kvs) (τ:=[none,some (.int L,.z),some (.dt kvs,.l)]) ⟨none,rfl⟩ (by
  rintro kv hk τ ⟨a,rfl⟩
  obtain ⟨i,j,h1,h2,rfl⟩:=tb.all kv hk
  have s2:=oP (tb.get i j ⟨h1,h2⟩)
  have c:b9 [some (.tup [.int i,.int j],.z),some (.int L,.z),some (.dt kvs,.l)]=some (.ok (decide (f i j=L)),[some (.tup [.int i,.int j],.z),some (.int L,.z),some (.dt kvs,.l)]):=by
   unfold b9
   (repeat' (first | infer_instance | exact s2 | exact fB _ _ | eq_refl))
  exact ⟨_,_,rfl,c,fun _=>⟨_,rfl⟩,fun _=>⟨_,_,_,_,bx rfl,rfl,rfl,_,rfl⟩⟩)
 have im:mm (ac 3) (lrS T n way kvs L none none none none)=some (.ok ([.pl 3],kvs.map fun kv=>nW kv.1),lrS T n way kvs L none none none none):=rfl
 have cm:c4 (lrS T n way kvs L none none none none)=some (.ok (.val (.lst ((kvs.filter fun kv=>decide (vl kv=L)).map fun kv=>nW kv.1)) .u),lrS T n way kvs L none none none none):=cp (rs:=[.pl 3]) (ρ2:=[some (.dt T,.u),some (.int (n:Int),.z),some (.int way,.z),some (.dt kvs,.l),some (.int L,.z),none,none,none,none]) im e (by rw [Ad];have:=tb.len;omega) rfl
 have e2:(kvs.filter fun kv=>decide (vl kv=L)).map (fun kv=>nW kv.1)=((kvs.filter fun kv=>decide (vl kv=L)).map pk).map ie:=by
  rw [AJ]
  refine AK fun kv hk=>?_
  obtain ⟨i,j,h1,h2,rfl⟩:=tb.all kv (AB.mp hk).1
  rfl
 obtain ⟨i0,j0,h1,h2,h3⟩:=hL
 have hmem:(k2 i0 j0,L3.D.int (f i0 j0)) ∈ kvs.filter fun kv=>decide (vl kv=L):=AB.mpr ⟨mq (tb.get i0 j0 ⟨h1,h2⟩),Ao h3⟩
 obtain ⟨m,hm⟩:∃ m,iS ((kvs.filter fun kv=>decide (vl kv=L)).map pk)=some m:=by
  cases h:(kvs.filter fun kv=>decide (vl kv=L)).map pk with
  | nil =>
   have:=List.mem_map_of_mem (f:=pk) hmem
   rw [h] at this
   cases this
  | cons x xs=>exact ⟨_,rfl⟩
 obtain ⟨kv,hk,rfl⟩:=Ah.mp (lC hm).1
 obtain ⟨hk,hv⟩:=AB.mp hk
 obtain ⟨i,j,g1,g2,rfl⟩:=tb.all kv hk
 refine ⟨i,j,g1,g2,of_decide_eq_true hv,?_⟩
 have ev:qk [.lst ((kvs.filter fun kv=>decide (vl kv=L)).map fun kv=>nW kv.1)]=some (.tup [.int i,.int j],.z):=by
  rw [e2]
  show ((en _).bind fun ns=>(iS ns).map fun n=>((ie n,.z):L3.D × Fl))=_
  rw [ja]
  show (iS _).map _=_
  rw [hm]
  rfl
 exact iw (bJ cm eY) rfl ev
set_option tactic.hygienic true in
theorem wO {i j:Nat} {left:Int} {row:L3.D} (hn:n=ps.length) (hT:gI ps T) (hj:j < n) (hi:i < j) (hl:n<=24) {c:Nat} (tb:TbP kvs n (onE (wv ps way) n) (fun a b=>a < b/\b < n) c) :
  eU (lrS T n way kvs L (some (row,.z)) (some (.int i,.z)) (some (.int j,.z)) (some (.int left,.z)))=some (.ok (.val (.lst (((ks n j).filter fun k=>wv ps way i j k && decide (onE (wv ps way) n j k=left)).map fun k:Nat=>L3.D.int (k:Int))) .u),lrS T n way kvs L (some (row,.z)) (some (.int i,.z)) (some (.int j,.z)) (some (.int left,.z))):=by
 obtain ⟨τ',e,a,rfl⟩:=d6 (bnd:=ay 0) (c:=b8) (elt:=eV) (fun τ=>∃ a,τ=[a,some (.int way,.z),some (.int left,.z),some (.dt T,.u),some (.dt kvs,.u),some (.int i,.z),some (.int j,.z)]) (fun k:Nat=>L3.D.int (k:Int)) (fun k=>wv ps way i j k && decide (onE (wv ps way) n j k=left)) (fun k:Nat=>L3.D.int (k:Int)) (xs:=ks n j) (τ:=[none,some (.int way,.z),some (.int left,.z),some (.dt T,.u),some (.dt kvs,.u),some (.int i,.z),some (.int j,.z)]) ⟨none,rfl⟩ (by
  rintro k hkk τ ⟨a,rfl⟩
  have hkk:=mem_ks.mp hkk
  have s3:=yr (hT i j k hi hkk.1 (by omega))
  have s2:=oP (tb.get j k ⟨hkk.1,hkk.2⟩)
  have c1:cB (ah eqX (ah aD (ac 3) (bW (ab (ac 5) (ab (ac 6) (ab (ac 0) aj))))) (ac 1)) [some (.int k,.z),some (.int way,.z),some (.int left,.z),some (.dt T,.u),some (.dt kvs,.u),some (.int i,.z),some (.int j,.z)]=some (.ok (wv ps way i j k),[some (.int k,.z),some (.int way,.z),some (.int left,.z),some (.dt T,.u),some (.dt kvs,.u),some (.int i,.z),some (.int j,.z)]):=by
   (repeat' (first | infer_instance | exact s3 | exact fB _ _ | eq_refl))
  have c2:cB (ah eqX (ah aD (ac 4) (bW (ab (ac 6) (ab (ac 0) aj)))) (ac 2)) [some (.int k,.z),some (.int way,.z),some (.int left,.z),some (.dt T,.u),some (.dt kvs,.u),some (.int i,.z),some (.int j,.z)]=some (.ok (decide (onE (wv ps way) n j k=left)),[some (.int k,.z),some (.int way,.z),some (.int left,.z),some (.dt T,.u),some (.dt kvs,.u),some (.int i,.z),some (.int j,.z)]):=by
   (repeat' (first | infer_instance | exact s2 | exact fB _ _ | eq_refl))
  have cc:b8 [some (.int k,.z),some (.int way,.z),some (.int left,.z),some (.dt T,.u),some (.dt kvs,.u),some (.int i,.z),some (.int j,.z)]=some (.ok (wv ps way i j k && decide (onE (wv ps way) n j k=left)),[some (.int k,.z),some (.int way,.z),some (.int left,.z),some (.dt T,.u),some (.dt kvs,.u),some (.int i,.z),some (.int j,.z)]):=by
   unfold b8
   cases hw:wv ps way i j k with
   | true =>
    rw [hw] at c1
    exact zD c1 rfl c2
   | false =>
    rw [hw] at c1
    exact zE c1 rfl
  exact ⟨_,_,rfl,cc,fun _=>⟨_,rfl⟩,fun _=>⟨_,_,_,_,bx rfl,rfl,rfl,_,rfl⟩⟩)
 rw [<- ut] at e
 have hr:eJ [.int ((j:Int)+1),.int (n:Nat)]=some (aO ((j:Int)+1) (n - (j+1))):=gr (by omega) (by omega) (by omega)
 have im:aR eJ (ab (ah bF (ac 7) (mC (.int 1))) (ab (ac 1) aj)) (lrS T n way kvs L (some (row,.z)) (some (.int i,.z)) (some (.int j,.z)) (some (.int left,.z)))=some (.ok ([],aO ((j:Int)+1) (n - (j+1))),lrS T n way kvs L (some (row,.z)) (some (.int i,.z)) (some (.int j,.z)) (some (.int left,.z))):=by (repeat' (first | with_reducible apply cq (h3:=hr) | infer_instance | eq_refl))
 exact cp (rs:=[]) im e (by rw [aV];omega) rfl
theorem wN {i j:Nat} {A:Int} (w:Nat->Nat->Nat->Bool) (h:onE w n i j=A+1) (hA:2<=A):∃ k,k ∈ (ks n j).filter fun k=>w i j k && decide (onE w n j k=A):=by
 rw [iL] at h
 have hne:((ks n j).filter fun k=>w i j k).map (fun k=>onE w n j k) ≠ []:=fun e=>by rw [e,wC] at h;omega
 obtain ⟨k,hk,e⟩:=Ah.mp (eA hne)
 obtain ⟨hk,hw⟩:=AB.mp hk
 refine ⟨k,AB.mpr ⟨hk,?_⟩⟩
 rw [hw,Bool.true_and]
 exact Ao (by omega)
set_option tactic.hygienic true in
theorem ul (hn:n=ps.length) (hT:gI ps T) (hl:n<=24) {c:Nat} (tb:TbP kvs n (onE (wv ps way) n) (fun a b=>a < b/\b < n) c) {i j:Nat} (hi:i < j) (hj:j < n) (h0:onE (wv ps way) n i j=L) :
  ∃ (R:List L3.D) (a b c:Option (L3.D × Fl)),eI bD cb (lrS T n way kvs L (some (.tup [.int i,.int j],.z)) none none none)=some (.ok .nx,lrS T n way kvs L (some (.tup R,.z)) a b c)/\(R.length:Int)=L:=by
 have hL:L<=26:=by have:=zf (wv ps way) n i j;omega
 have hL2:2<=L:=by have:=qf (wv ps way) n i j;omega
 obtain ⟨ρ',e,R,a,b,c',rfl,hR⟩:=lb (c:=bD) (b:=cb) (fun m ρ=>∃ (pre:List L3.D) (i j:Nat) (a b c:Option (L3.D × Fl)),ρ=lrS T n way kvs L (some (.tup (pre ++ [.int i,.int j]),.z)) a b c/\i < j/\j < n/\onE (wv ps way) n i j=L - pre.length/\m=(L - pre.length).toNat/\(pre.length:Int)+2<=L)
  (fun ρ=>∃ (R:List L3.D) (a b c:Option (L3.D × Fl)),ρ=lrS T n way kvs L (some (.tup R,.z)) a b c/\(R.length:Int)=L) (n:=L.toNat) (ρ:=lrS T n way kvs L (some (.tup [.int i,.int j],.z)) none none none) ⟨[],i,j,none,none,none,rfl,hi,hj,by simpa using h0,by simp,by simpa using hL2⟩ (by
   rintro m ρ ⟨pre,i,j,a,b,c,rfl,hi,hj,ho,rfl,hp⟩
   have hlen:d5 [.tup (pre ++ [.int i,.int j])]=some (.int ((pre.length:Int)+2),.z):=by simp [rO,c1]
   have t:bD (lrS T n way kvs L (some (.tup (pre ++ [.int i,.int j]),.z)) a b c)=some (.ok (decide ((pre.length:Int)+2 < L)),lrS T n way kvs L (some (.tup (pre ++ [.int i,.int j]),.z)) a b c):=by
    unfold bD
    (repeat' (first | infer_instance | exact hlen | eq_refl))
   by_cases h:(pre.length:Int)+2 < L
   ·rw [Ao h] at t
    refine .inr ⟨lrS T n way kvs L (some (.tup (pre ++ [.int i,.int j]),.z)) a b c,?_⟩
    obtain ⟨a2,a1⟩:=uV (xs:=pre) (a:=L3.D.int (i:Int)) (b:=L3.D.int (j:Int))
    have cm:=wO (L:=L) (left:=L - ((pre.length:Int)+2)+1) (row:=.tup (pre ++ [.int i,.int j])) hn hT hj hi hl tb
    obtain ⟨k0,hk0⟩:=wN (n:=n) (i:=i) (j:=j) (A:=L - ((pre.length:Int)+2)+1) (wv ps way) (by omega) (by omega)
    obtain ⟨k,hk,em⟩:=wE ((ks n j).filter fun k=>wv ps way i j k && decide (onE (wv ps way) n j k=L - ((pre.length:Int)+2)+1)) (fun k:Nat=>(k:Int)) (List.ne_nil_of_mem hk0)
    obtain ⟨hk,hw⟩:=AB.mp hk
    have hk:=mem_ks.mp hk
    have hw:onE (wv ps way) n j k=L - ((pre.length:Int)+2)+1:=by
     simp only [Bool.and_eq_true,decide_eq_true_eq] at hw
     exact hw.2
    have ct:bF (.tup (pre ++ [.int i,.int j])) (.tup [.int (k:Int)])=some (.tup (pre ++ [.int i,.int j] ++ [.int (k:Int)]),.z):=xh (by simp;omega)
    refine ⟨lrS T n way kvs L (some (.tup ((pre ++ [.int i]) ++ [.int j,.int k]),.z)) (some (.int i,.z)) (some (.int j,.z)) (some (.int (L - ((pre.length:Int)+2)+1),.z)),(L - (pre.length+1:Nat)).toNat,t,.inl ?_,by omega,pre ++ [.int i],j,k,_,_,_,rfl,hk.1,hk.2,by simp;omega,by simp,by simp;omega⟩
    have er:pre ++ [L3.D.int (i:Int),.int j] ++ [.int (k:Int)]=(pre ++ [L3.D.int (i:Int)]) ++ [.int j,.int k]:=by simp
    rw [er] at ct
    unfold cb
    apply al (ρ1:=lrS T n way kvs L (some (.tup (pre ++ [.int i,.int j]),.z)) (some (.int i,.z)) b c)
    ·(repeat' (first | infer_instance | exact a2 | eq_refl))
    ·apply al (ρ1:=lrS T n way kvs L (some (.tup (pre ++ [.int i,.int j]),.z)) (some (.int i,.z)) (some (.int j,.z)) c)
     ·(repeat' (first | infer_instance | exact a1 | eq_refl))
     ·apply al (ρ1:=lrS T n way kvs L (some (.tup (pre ++ [.int i,.int j]),.z)) (some (.int i,.z)) (some (.int j,.z)) (some (.int (L - ((pre.length:Int)+2)+1),.z)))
      ·(repeat' (first | infer_instance | exact hlen | eq_refl))
      ·exact nZ (dA (bx rfl) (pz (bJ (iw (bJ cm eY) rfl em) eY) rfl (show 1<=16777216 by decide)) rfl rfl ct) rfl (show 5 < 9 by decide) rfl
   ·rw [Ap h] at t
    exact .inl ⟨_,t,pre ++ [.int i,.int j],a,b,c,rfl,by simp;omega⟩)
 exact ⟨R,a,b,c',e,hR⟩
set_option tactic.hygienic true in
theorem yA (hn:n=ps.length) (hT:gI ps T) (hl:n<=24) (h0:0 < n):∃ R,bu [(.dt T,.u),(.int (n:Int),.z),(.int way,.z)]=some (.ok (R,.z),[(.dt T,.u),(.int (n:Int),.z),(.int way,.z)]) /\
  ((n=1/\R=.non)\/∃ (xs:List L3.D) (L:Int),2<=n/\R=.tup xs/\(xs.length:Int)=L/\(∀ i j,i < j->j < n->onE (wv ps way) n i j<=L)/\∃ i j,i < j/\j < n/\onE (wv ps way) n i j=L):=by
 by_cases h1:n=1
 ·refine ⟨.non,?_,.inl ⟨h1,rfl⟩⟩
  subst h1
  apply aZ (ρ:=[some (.dt T,.u),some (.int (1:Nat),.z),some (.int way,.z),none,none,none,none,none,none]) rfl rfl
  ·apply jP
   apply jg (b:=true)
   ·(repeat' (first | infer_instance | exact fB _ _ | eq_refl))
   ·rfl
   ·(repeat' (first | infer_instance | eq_refl))
  ·rfl
 ·have h2:2<=n:=by omega
  obtain ⟨kvs,eo,tb⟩:=yz (way:=way) hn hT hl h2
  obtain ⟨L,ev,u1,u2⟩:=vd h2 tb
  obtain ⟨i,j,g1,g2,g3,ep⟩:=wM (T:=T) (way:=way) (by decide) tb u2
  obtain ⟨R,a,b,c,ew,hR⟩:=ul hn hT hl tb g1 g2 g3
  refine ⟨.tup R,?_,.inr ⟨R,L,h2,rfl,hR,u1,u2⟩⟩
  have ne:decide ((n:Int)=1)=false:=Ap (by omega)
  apply aZ (ρ:=[some (.dt T,.u),some (.int (n:Int),.z),some (.int way,.z),none,none,none,none,none,none]) rfl rfl
  ·apply al (ρ1:=[some (.dt T,.u),some (.int (n:Int),.z),some (.int way,.z),none,none,none,none,none,none])
   ·apply eD
    ·(repeat' (first | infer_instance | exact fB _ _ | eq_refl))
    ·exact ne
    ·rfl
   ·apply al (ρ1:=[some (.dt T,.u),some (.int (n:Int),.z),some (.int way,.z),some (.dt kvs,.u),none,none,none,none,none])
    ·(repeat' (first | infer_instance | with_reducible apply aq (eo) | eq_refl))
    ·apply al (ρ1:=lrS T n way kvs L none none none none)
     ·(repeat' (first | infer_instance | exact ev | eq_refl))
     ·apply al (ρ1:=lrS T n way kvs L (some (.tup [.int i,.int j],.z)) none none none)
      ·exact nZ ep rfl (show 5 < 9 by decide) rfl
      ·apply al
       ·exact ew
       ·(repeat' (first | infer_instance | eq_refl))
  ·rfl
end
structure IsMost (ps:List Pt) (way B:Int):Prop where
 all:∀ i j,i < j->j < ps.length->a9 (wv ps way) i j<=B
 att:B=1\/∃ i j,i < j/\j < ps.length/\a9 (wv ps way) i j=B
noncomputable def qN (R:L3.D) (B:Int):Prop:=(R=.non/\B=1)\/∃ xs,R=.tup xs/\(xs.length:Int)=B
section
variable {ps:List Pt} {way B B1 B2:Int} {k l:Int}
theorem tq (g:GoodSh ps) {T:List (List Key × L3.D)} (hT:gI ps T) (hB:IsMost ps way B):∃ R,bu [(.dt T,.u),(.int (ps.length:Int),.z),(.int way,.z)]=some (.ok (R,.z),[(.dt T,.u),(.int (ps.length:Int),.z),(.int way,.z)])/\qN R B:=by
 obtain ⟨R,e,h⟩:=yA (way:=way) rfl hT g.most g.pos
 refine ⟨R,e,?_⟩
 rcases h with ⟨h1,rfl⟩ | ⟨xs,L,h2,rfl,h3,h4,h5⟩
 ·refine .inl ⟨rfl,?_⟩
  rcases hB.att with h | ⟨i,j,a,b,_⟩
  ·exact h
  ·omega
 ·have:=qX h4 h5 hB.all hB.att
  exact .inr ⟨xs,rfl,by omega⟩
set_option tactic.hygienic true in
theorem vG (g:GoodSh ps) (hB:IsMost ps 1 B):∃ R,dg [(Shd ps,.z)]=some (.ok (R,.z),[(Shd ps,.z)])/\qN R B:=by
 obtain ⟨T,eT,hT⟩:=jU g
 obtain ⟨R,e,h⟩:=tq g hT hB
 have hlen:=um ps
 refine ⟨R,?_,h⟩
 apply aZ (ρ:=[some (Shd ps,.z)]) rfl rfl
 ·apply gf
  ·(repeat' (first | infer_instance | with_reducible apply aq (eT) | with_reducible apply aq (e) | exact hlen | eq_refl))
  ·rfl
 ·rfl
set_option tactic.hygienic true in
theorem vI (g:GoodSh ps) (hB:IsMost ps (-1) B):∃ R,dh [(Shd ps,.z)]=some (.ok (R,.z),[(Shd ps,.z)])/\qN R B:=by
 obtain ⟨T,eT,hT⟩:=jU g
 obtain ⟨R,e,h⟩:=tq g hT hB
 have hlen:=um ps
 refine ⟨R,?_,h⟩
 apply aZ (ρ:=[some (Shd ps,.z)]) rfl rfl
 ·apply gf
  ·(repeat' (first | infer_instance | with_reducible apply aq (eT) | with_reducible apply aq (e) | exact hlen | eq_refl))
  ·rfl
 ·rfl
theorem pU {R:L3.D} (h:qN R B) (hk:2<=k):cX [(R,.z),(.int k,.z)]=some (.ok (.bl (decide (k<=B)),.z),[(R,.z),(.int k,.z)]):=by
 rcases h with ⟨rfl,rfl⟩ | ⟨xs,rfl,rfl⟩
 ·rw [show decide (k<=1)=false from Ap (by omega)]
  apply aZ (ρ:=[some (.non,.z),some (.int k,.z)]) rfl rfl
  ·apply gf
   ·exact qv (b:=false) (dA (bx rfl) i_c rfl rfl rfl) rfl rfl
   ·rfl
  ·rfl
 ·have hlen:d5 [.tup xs]=some (.int (xs.length:Int),.z):=by simp [rO,c1]
  apply aZ (ρ:=[some (.tup xs,.z),some (.int k,.z)]) rfl rfl
  ·apply gf
   ·exact jD (b:=true) (dA (bx rfl) i_c rfl rfl rfl) rfl rfl (dA (iw (bJ (bx rfl) eY) rfl hlen) (bx rfl) rfl rfl rfl)
   ·rfl
  ·rfl
set_option tactic.hygienic true in
theorem pS {lo hi:Int} (h1:lo<=k) (h2:k<=hi):bY [(.int k,.z),(.int lo,.z),(.int hi,.z)]=some (.ok (.non,.z),[(.int k,.z),(.int lo,.z),(.int hi,.z)]):=by
 have l1:leI (.int lo) (.int k)=some (.bl true,.z):=by simp [eL,h1]
 have l2:leI (.int k) (.int hi)=some (.bl true,.z):=by simp [eL,h2]
 have f:=ll k
 apply zU (ρ:=[some (.int k,.z),some (.int lo,.z),some (.int hi,.z)]) rfl rfl
 ·apply eD
  ·apply uA (b:=false)
   ·apply mn (b:=true)
    (repeat' (first | infer_instance | with_reducible apply aq (f) | eq_refl))
   ·rfl
   ·exact mn (uB (qw (bx rfl) (bx rfl) rfl rfl l1 (bx rfl) rfl rfl l2) rfl)
  ·rfl
  ·rfl
 ·rfl
set_option tactic.hygienic true in
theorem vD (h1:2<=k/\k<=9) (h2:2<=l/\l<=9):bC [(.int k,.z),(.int l,.z)]=some (.ok (.non,.z),[(.int k,.z),(.int l,.z)]):=by
 have f1:=pS h1.1 h1.2
 have f2:=pS h2.1 h2.2
 apply zU (ρ:=[some (.int k,.z),some (.int l,.z)]) rfl rfl
 ·apply al (ρ1:=[some (.int k,.z),some (.int l,.z)])
  ·(repeat' (first | infer_instance | with_reducible apply aq (f1) | eq_refl))
  ·(repeat' (first | infer_instance | with_reducible apply aq (f2) | eq_refl))
 ·rfl
theorem vw:eqX (.str "cup") (.str "none")=some (.bl false,.z):=by rfl
theorem vv:eqX (.str "cap") (.str "none")=some (.bl false,.z):=by rfl
theorem vx:eqX (.str "none") (.str "none")=some (.bl true,.z):=by rfl
set_option tactic.hygienic true in
theorem vH (g:GoodSh ps) (hB1:IsMost ps 1 B1) (hB2:IsMost ps (-1) B2) (h1:2<=k/\k<=9) (h2:2<=l/\l<=9) :
  ∃ V,dO [(Shd ps,.z),(.int k,.z),(.int l,.z)]=some (.ok (V,.z),[(Shd ps,.z),(.int k,.z),(.int l,.z)])/\∃ s,aD V (.int 0)=some (.str s,.z)/\eqX (.str s) (.str "none")=some (.bl (decide (B1 < k/\B2 < l)),.z):=by
 obtain ⟨R1,e1,r1⟩:=vG g hB1
 obtain ⟨R2,e2,r2⟩:=vI g hB2
 have f1:=pU r1 h1.1
 have f2:=pU r2 h2.1
 have ck:=ln g
 have c2:=vD h1 h2
 by_cases b1:k<=B1
 ·rw [Ao b1] at f1
  obtain ⟨xs,rfl,hx⟩:∃ xs,R1=.tup xs/\(xs.length:Int)=B1:=by
   rcases r1 with ⟨_,h⟩ | h
   ·omega
   ·exact h
  refine ⟨.tup [.str "cup",.tup (mw xs none (some k))],?_,"cup",rfl,by rw [show decide (B1 < k/\B2 < l)=false from Ap (by omega)];exact vw⟩
  apply aZ (ρ:=[some (Shd ps,.z),some (.int k,.z),some (.int l,.z),none,none]) rfl rfl
  ·apply al (ρ1:=[some (Shd ps,.z),some (.int k,.z),some (.int l,.z),none,none])
   ·(repeat' (first | infer_instance | with_reducible apply aq (ck) | eq_refl))
   ·apply al (ρ1:=[some (Shd ps,.z),some (.int k,.z),some (.int l,.z),none,none])
    ·(repeat' (first | infer_instance | with_reducible apply aq (c2) | eq_refl))
    ·apply al (ρ1:=[some (Shd ps,.z),some (.int k,.z),some (.int l,.z),some (.tup xs,.z),none])
     ·(repeat' (first | infer_instance | with_reducible apply aq (e1) | eq_refl))
     ·apply jP
      apply jg (b:=true)
      ·(repeat' (first | infer_instance | with_reducible apply aq (f1) | eq_refl))
      ·rfl
      ·(repeat' (first | infer_instance | eq_refl))
  ·rfl
 ·rw [Ap b1] at f1
  by_cases b2:l<=B2
  ·rw [Ao b2] at f2
   obtain ⟨xs,rfl,hx⟩:∃ xs,R2=.tup xs/\(xs.length:Int)=B2:=by
    rcases r2 with ⟨_,h⟩ | h
    ·omega
    ·exact h
   refine ⟨.tup [.str "cap",.tup (mw xs none (some l))],?_,"cap",rfl,by rw [show decide (B1 < k/\B2 < l)=false from Ap (by omega)];exact vv⟩
   apply aZ (ρ:=[some (Shd ps,.z),some (.int k,.z),some (.int l,.z),none,none]) rfl rfl
   ·apply al (ρ1:=[some (Shd ps,.z),some (.int k,.z),some (.int l,.z),none,none])
    ·(repeat' (first | infer_instance | with_reducible apply aq (ck) | eq_refl))
    ·apply al (ρ1:=[some (Shd ps,.z),some (.int k,.z),some (.int l,.z),none,none])
     ·(repeat' (first | infer_instance | with_reducible apply aq (c2) | eq_refl))
     ·apply al (ρ1:=[some (Shd ps,.z),some (.int k,.z),some (.int l,.z),some (R1,.z),none])
      ·(repeat' (first | infer_instance | with_reducible apply aq (e1) | eq_refl))
      ·apply al (ρ1:=[some (Shd ps,.z),some (.int k,.z),some (.int l,.z),some (R1,.z),none])
       ·apply eD (b:=false)
        ·(repeat' (first | infer_instance | with_reducible apply aq (f1) | eq_refl))
        ·rfl
        ·rfl
       ·apply al (ρ1:=[some (Shd ps,.z),some (.int k,.z),some (.int l,.z),some (R1,.z),some (.tup xs,.z)])
        ·(repeat' (first | infer_instance | with_reducible apply aq (e2) | eq_refl))
        ·apply jP
         apply jg (b:=true)
         ·(repeat' (first | infer_instance | with_reducible apply aq (f2) | eq_refl))
         ·rfl
         ·(repeat' (first | infer_instance | eq_refl))
   ·rfl
  ·rw [Ap b2] at f2
   obtain ⟨t1,g1⟩:=sZ (way:=1) g
   obtain ⟨t2,g2⟩:=sZ (way:=-1) g
   have ct1:eF [(Shd ps,.z)]=some (.ok (.dt t1,.u),[(Shd ps,.z)]):=by
    apply aZ (ρ:=[some (Shd ps,.z)]) rfl rfl
    ·apply gf
     ·(repeat' (first | infer_instance | with_reducible apply aq (g1) | eq_refl))
     ·rfl
    ·rfl
   have ct2:eG [(Shd ps,.z)]=some (.ok (.dt t2,.u),[(Shd ps,.z)]):=by
    apply aZ (ρ:=[some (Shd ps,.z)]) rfl rfl
    ·apply gf
     ·(repeat' (first | infer_instance | with_reducible apply aq (g2) | eq_refl))
     ·rfl
    ·rfl
   refine ⟨.tup [.str "none",.tup [.dt t1,.dt t2]],?_,"none",rfl,by rw [show decide (B1 < k/\B2 < l)=true from Ao (by omega)];exact vx⟩
   apply aZ (ρ:=[some (Shd ps,.z),some (.int k,.z),some (.int l,.z),none,none]) rfl rfl
   ·apply al (ρ1:=[some (Shd ps,.z),some (.int k,.z),some (.int l,.z),none,none])
    ·(repeat' (first | infer_instance | with_reducible apply aq (ck) | eq_refl))
    ·apply al (ρ1:=[some (Shd ps,.z),some (.int k,.z),some (.int l,.z),none,none])
     ·(repeat' (first | infer_instance | with_reducible apply aq (c2) | eq_refl))
     ·apply al (ρ1:=[some (Shd ps,.z),some (.int k,.z),some (.int l,.z),some (R1,.z),none])
      ·(repeat' (first | infer_instance | with_reducible apply aq (e1) | eq_refl))
      ·apply al (ρ1:=[some (Shd ps,.z),some (.int k,.z),some (.int l,.z),some (R1,.z),none])
       ·apply eD (b:=false)
        ·(repeat' (first | infer_instance | with_reducible apply aq (f1) | eq_refl))
        ·rfl
        ·rfl
       ·apply al (ρ1:=[some (Shd ps,.z),some (.int k,.z),some (.int l,.z),some (R1,.z),some (R2,.z)])
        ·(repeat' (first | infer_instance | with_reducible apply aq (e2) | eq_refl))
        ·apply al (ρ1:=[some (Shd ps,.z),some (.int k,.z),some (.int l,.z),some (R1,.z),some (R2,.z)])
         ·apply eD (b:=false)
          ·(repeat' (first | infer_instance | with_reducible apply aq (f2) | eq_refl))
          ·rfl
          ·rfl
         ·(repeat' (first | infer_instance | with_reducible apply aq (ct1) | with_reducible apply aq (ct2) | eq_refl))
   ·rfl
set_option tactic.hygienic true in
theorem re (g:GoodSh ps) (hB1:IsMost ps 1 B1) (hB2:IsMost ps (-1) B2) (h1:2<=k/\k<=9) (h2:2<=l/\l<=9) :
  jG [(Shd ps,.z),(.int k,.z),(.int l,.z)]=some (.ok (.bl (decide (B1 < k/\B2 < l)),.z),[(Shd ps,.z),(.int k,.z),(.int l,.z)]):=by
 obtain ⟨V,e,s,e1,e2⟩:=vH g hB1 hB2 h1 h2
 apply aZ (ρ:=[some (Shd ps,.z),some (.int k,.z),some (.int l,.z)]) rfl rfl
 ·apply gf
  ·(repeat' (first | infer_instance | with_reducible apply aq (e) | exact e1 | exact e2 | eq_refl))
  ·rfl
 ·rfl
end
noncomputable def bv (up:Bool):Int:=if up then 1 else -1
theorem wv_up (ps:List Pt) (up:Bool) (h i j:Nat):wv ps (bv up) h i j=(decide (bE (gA ps h) (gA ps i) (gA ps j) > 0) == up):=by
 unfold wv trn mN bv
 by_cases hb:0 < bE (gA ps h) (gA ps i) (gA ps j)
 ·cases up <;> simp [hb]
 ·cases up <;> simp [hb]
theorem zJ (a b:Bool):eqX (.bl a) (.bl b)=some (.bl (a == b),.z):=by cases a <;> cases b <;> rfl
theorem t9 {l:List Int} {x:Int} (hx:1<=x):mx1 (l ++ [x])=if mx1 l < x then x else mx1 l:=by
 by_cases h:l=[]
 ·subst h
  show x=if (1:Int) < x then x else 1
  split <;> omega
 ·have m1:=eA h
  have m2:=eA (l:=l ++ [x]) (by simp)
  have l1:=iN (l:=l ++ [x]) (n:=mx1 l) (z6 _ m1)
  have l2:=iN (l:=l ++ [x]) (n:=x) (by simp)
  rcases Ab.mp m2 with h1 | h1
  ·have:=iN h1
   split <;> omega
  ·have:=Az.mp h1
   split <;> omega
structure Gt (kvs:List (List Key × L3.D)) (f:Nat->Nat->Int) (S:Nat->Nat->Prop) (c:Nat):Prop where
 get:∀ i j,S i j->c6 kvs (k2 i j)=some (.int (f i j))
 len:kvs.length<=c
theorem Gt.mono {kvs:List (List Key × L3.D)} {f:Nat->Nat->Int} {S S':Nat->Nat->Prop} {c c':Nat} (h:Gt kvs f S c) (hS:∀ a b,S' a b->S a b) (hc:c<=c'):Gt kvs f S' c':=⟨fun a b hs=>h.get a b (hS a b hs),AG h.len hc⟩
theorem Gt.other {kvs:List (List Key × L3.D)} {f:Nat->Nat->Int} {S:Nat->Nat->Prop} {c i j:Nat} {v:L3.D} (h:Gt kvs f S c) (hn:¬ S i j):Gt (dj kvs (k2 i j) v) f S (c+1):=by
 refine ⟨fun a b hs=>?_,by have:=l0 kvs (k2 i j) v;have:=h.len;omega⟩
 rw [gg,if_neg]
 ·exact h.get a b hs
 ·intro e
  obtain ⟨rfl,rfl⟩:=ux e
  exact hn hs
theorem nk {kvs:List (List Key × L3.D)} {k:List Key} {v d:L3.D} (h:c6 kvs k=some d):(dj kvs k v).length=kvs.length:=by
 unfold dj
 rw [if_pos]
 ·simp
 ·exact List.any_eq_true.mpr ⟨_,mq h,Ao rfl⟩
noncomputable def o4 (w:Nat->Nat->Nat->Bool) (i j m:Nat):Int:=1+mx1 (((List.range m).filter fun h=>w h i j).map fun h=>a9 w h i)
theorem rg (w:Nat->Nat->Nat->Bool) (i j m:Nat):o4 w i j (m+1)=if w m i j=true then (if a9 w m i+1 > o4 w i j m then a9 w m i+1 else o4 w i j m) else o4 w i j m:=by
 unfold o4
 rw [List.range_succ,List.filter_append]
 by_cases h:w m i j=true
 ·have e:[m].filter (fun h=>w h i j)=[m]:=by simp [h]
  rw [if_pos h,e,List.map_append]
  have:=kD w m i
  show 1+mx1 (_ ++ [a9 w m i])=_
  rw [t9 (by omega)]
  split <;> split <;> omega
 ·have e:[m].filter (fun h=>w h i j)=[]:=by simp [h]
  rw [if_neg h,e,List.append_nil]
section
variable {ps:List Pt} {up:Bool} {kvs:List (List Key × L3.D)} {i j h:Nat} {best:Int}
noncomputable abbrev llS (ps:List Pt) (up:Bool) (kvs:List (List Key × L3.D)) (best:Int) (a b c:Option (L3.D × Fl)):Sto:=[some (Shd ps,.z),some (.bl up,.z),some (.dt kvs,.u),some (.int best,.z),a,b,c]
set_option tactic.hygienic true in
theorem wQ (g:GoodSh ps) (hh:h < i) (hi:i < j) (hj:j < ps.length) {cur:Int} (h1:c6 kvs (k2 i j)=some (.int cur)) (h2:c6 kvs (k2 h i)=some (.int (a9 (wv ps (bv up)) h i))) (hc:kvs.length < 16777216) :
  ∃ kvs',dU (llS ps up kvs best (some (.int j,.z)) (some (.int i,.z)) (some (.int h,.z)))=some (.ok .nx,llS ps up kvs' best (some (.int j,.z)) (some (.int i,.z)) (some (.int h,.z))) /\
   ((wv ps (bv up) h i j=false/\kvs'=kvs)\/(wv ps (bv up) h i j=true/\kvs'=dj kvs (k2 i j) (.int (if a9 (wv ps (bv up)) h i+1 > cur then a9 (wv ps (bv up)) h i+1 else cur)))):=by
 have bf:=mZ (gA ps h) (gA ps i) (gA ps j) (Small.sub (cY g.small (by omega)) (cY g.small (by omega))).1 (Small.sub (cY g.small (by omega)) (cY g.small (by omega))).2
 have a1:=iF (ps:=ps) (i:=h) (by omega)
 have a2:=iF (ps:=ps) (i:=i) (by omega)
 have a3:=iF (ps:=ps) (i:=j) (by omega)
 have c:cB (ah eqX (ah gtI (au dw (ab (ah aD (ac 0) (ac 6)) (ab (ah aD (ac 0) (ac 5)) (ab (ah aD (ac 0) (ac 4)) aj)))) (mC (.int 0))) (ac 1)) (llS ps up kvs best (some (.int j,.z)) (some (.int i,.z)) (some (.int h,.z)))=some (.ok (wv ps (bv up) h i j),llS ps up kvs best (some (.int j,.z)) (some (.int i,.z)) (some (.int h,.z))):=by
  rw [wv_up]
  (repeat' (first | infer_instance | with_reducible apply aq (bf) | exact a1 | exact a2 | exact a3 | exact zJ _ _ | eq_refl))
 cases hw:wv ps (bv up) h i j with
 | false =>
  rw [hw] at c
  exact ⟨kvs,eD c rfl rfl,.inl ⟨rfl,rfl⟩⟩
 | true =>
  rw [hw] at c
  refine ⟨_,jg c rfl ?_,.inr ⟨rfl,rfl⟩⟩
  have s1:=oP h1
  have s2:=oP h2
  have v:aB kg (ab (ah aD (ac 2) (bW (ab (ac 5) (ab (ac 4) aj)))) (ab (ah bF (ah aD (ac 2) (bW (ab (ac 6) (ab (ac 5) aj)))) (mC (.int 1))) aj)) (llS ps up kvs best (some (.int j,.z)) (some (.int i,.z)) (some (.int h,.z)))=some (.ok (.val (.int (if a9 (wv ps (bv up)) h i+1 > cur then a9 (wv ps (bv up)) h i+1 else cur)) .z),llS ps up kvs best (some (.int j,.z)) (some (.int i,.z)) (some (.int h,.z))):=by
   (repeat' (first | infer_instance | exact s1 | exact s2 | eq_refl))
  exact lF (i:=2) (ρ1:=llS ps up kvs best (some (.int j,.z)) (some (.int i,.z)) (some (.int h,.z))) (ρ2:=llS ps up kvs best (some (.int j,.z)) (some (.int i,.z)) (some (.int h,.z))) (ρ3:=llS ps up kvs best (some (.int j,.z)) (some (.int i,.z)) (some (.int h,.z))) v rfl (by (repeat' (first | infer_instance | eq_refl))) rfl rfl (vA hc)
structure Bst (best:Int) (f:Nat->Nat->Int) (S:Nat->Nat->Prop):Prop where
 all:∀ a b,S a b->f a b<=best
 att:best=1\/∃ a b,S a b/\f a b=best
set_option tactic.hygienic true in
theorem wP (g:GoodSh ps) (hi:i < j) (hj:j < ps.length) {S:Nat->Nat->Prop} {c:Nat} {v6:Option (L3.D × Fl)} (hc:c < 16777000) (gt:Gt kvs (a9 (wv ps (bv up))) S c) (hS:∀ h,h < i->S h i) (hn:¬ S i j) :
  ∃ kvs' v6',cQ (llS ps up kvs best (some (.int j,.z)) (some (.int i,.z)) v6)=some (.ok .nx,llS ps up kvs' (if a9 (wv ps (bv up)) i j > best then a9 (wv ps (bv up)) i j else best) (some (.int j,.z)) (some (.int i,.z)) v6')/\Gt kvs' (a9 (wv ps (bv up))) (fun a b=>S a b\/(a=i/\b=j)) (c+1):=by
 have hl:=g.most
 obtain ⟨ρ',e,kvs',v6',rfl,gt',cu⟩:=a8 (bnd:=ay 6) (b:=dU) (fun m ρ=>∃ kvs v6,ρ=llS ps up kvs best (some (.int j,.z)) (some (.int i,.z)) v6/\Gt kvs (a9 (wv ps (bv up))) S (c+1)/\c6 kvs (k2 i j)=some (.int (o4 (wv ps (bv up)) i j m))) (ds:=aO 0 i) (ρ:=llS ps up (dj kvs (k2 i j) (.int 2)) best (some (.int j,.z)) (some (.int i,.z)) v6) (k:=0) ⟨_,v6,rfl,gt.other hn,by rw [gg,if_pos rfl];rfl⟩ (by
  rintro m d ρ hd ⟨kvs,v6,rfl,gt,cu⟩
  obtain ⟨hm,rfl⟩:=bj hd
  rw [As] at cu ⊢
  rw [Int.zero_add]
  obtain ⟨kvs',e,hk⟩:=wQ (best:=best) (up:=up) g hm hi hj cu (gt.get m i (hS m hm)) (by have:=gt.len;omega)
  refine ⟨_,_,rfl,.inl e,kvs',_,rfl,?_,?_⟩
  ·rcases hk with ⟨_,rfl⟩ | ⟨_,rfl⟩
   ·exact gt
   ·exact ⟨(gt.other hn).get,by rw [nk cu];exact gt.len⟩
  ·rw [rg]
   rcases hk with ⟨h1,rfl⟩ | ⟨h1,rfl⟩
   ·rw [h1,if_neg (by decide)];exact cu
   ·rw [h1,if_pos rfl,gg,if_pos rfl])
 rw [aV,As] at cu
 have ce:o4 (wv ps (bv up)) i j i=a9 (wv ps (bv up)) i j:=(iy _ i j).symm
 rw [ce] at cu
 have hr:b6 [.int (i:Int)]=some (aO 0 i):=b5 (by omega) (by omega)
 have s1:=oP cu
 refine ⟨kvs',v6',?_,fun a b hs=>?_,gt'.len⟩
 ·unfold cQ
  apply al (ρ1:=llS ps up (dj kvs (k2 i j) (.int 2)) best (some (.int j,.z)) (some (.int i,.z)) v6)
  ·exact lF (i:=2) (ρ1:=llS ps up kvs best (some (.int j,.z)) (some (.int i,.z)) v6) (ρ2:=llS ps up kvs best (some (.int j,.z)) (some (.int i,.z)) v6) (ρ3:=llS ps up kvs best (some (.int j,.z)) (some (.int i,.z)) v6) i_c rfl (by (repeat' (first | infer_instance | eq_refl))) rfl rfl (vA (by have:=gt.len;omega))
  ·apply al
   ·apply dn
    ·(repeat' (first | with_reducible apply cq (h3:=hr) | infer_instance | eq_refl))
    ·rfl
    ·exact e
   ·(repeat' (first | infer_instance | exact s1 | eq_refl))
 ·rcases hs with hs | ⟨rfl,rfl⟩
  ·exact gt'.get a b hs
  ·exact cu
theorem xl {f:Nat->Nat->Int} {S S':Nat->Nat->Prop} (b:Bst best f S) (h1:∀ a b,S' a b->S a b\/(a=i/\b=j)) (h2:∀ a b,S a b->S' a b) (h3:S' i j):Bst (if f i j > best then f i j else best) f S':=by
 refine ⟨fun x y hs=>?_,?_⟩
 ·rcases h1 x y hs with h | ⟨rfl,rfl⟩
  ·have:=b.all x y h
   split <;> omega
  ·split <;> omega
 ·split
  ·exact .inr ⟨i,j,h3,rfl⟩
  ·rcases b.att with h | ⟨x,y,h,e⟩
   ·exact .inl h
   ·exact .inr ⟨x,y,h2 x y h,e⟩
set_option tactic.hygienic true in
theorem i9 (g:GoodSh ps) (up:Bool):∃ B,du [(Shd ps,.z),(.bl up,.z)]=some (.ok (.int B,.z),[(Shd ps,.z),(.bl up,.z)])/\IsMost ps (bv up) B:=by
 have hl:=g.most
 have inner:∀ (j:Nat) (kvs:List (List Key × L3.D)) (best:Int) (v5 v6:Option (L3.D × Fl)),j < ps.length->Gt kvs (a9 (wv ps (bv up))) (fun a b=>a < b/\b < j) (25 * j)->Bst best (a9 (wv ps (bv up))) (fun a b=>a < b/\b < j) ->
   ∃ kvs' best' v5' v6',cP (llS ps up kvs best (some (.int j,.z)) v5 v6)=some (.ok .nx,llS ps up kvs' best' (some (.int j,.z)) v5' v6')/\Gt kvs' (a9 (wv ps (bv up))) (fun a b=>a < b/\b < j+1) (25 * (j+1))/\Bst best' (a9 (wv ps (bv up))) (fun a b=>a < b/\b < j+1):=by
  intro j kvs best v5 v6 hj gt bs
  obtain ⟨ρ',e,kvs',best',v5',v6',rfl,gt',bs'⟩:=a8 (bnd:=ay 5) (b:=cQ) (fun m ρ=>∃ kvs best v5 v6,ρ=llS ps up kvs best (some (.int j,.z)) v5 v6/\Gt kvs (a9 (wv ps (bv up))) (fun a b=>a < b/\(b < j\/(b=j/\a < m))) (25 * j+m)/\Bst best (a9 (wv ps (bv up))) (fun a b=>a < b/\(b < j\/(b=j/\a < m)))) (ds:=aO 0 j) (ρ:=llS ps up kvs best (some (.int j,.z)) v5 v6) (k:=0) ⟨kvs,best,v5,v6,rfl,gt.mono (fun a b h=>by omega) (by omega),⟨fun a b h=>bs.all a b (by omega),bs.att.imp id fun ⟨a,b,h,e⟩=>⟨a,b,by omega,e⟩⟩⟩ (by
   rintro m d ρ hd ⟨kvs,best,v5,v6,rfl,gt,bs⟩
   obtain ⟨hm,rfl⟩:=bj hd
   rw [As] at gt bs ⊢
   rw [Int.zero_add]
   obtain ⟨kvs',v6',e,gt'⟩:=wP (best:=best) (up:=up) (v6:=v6) (i:=m) (j:=j) g hm hj (by omega) gt (fun h hh=>⟨hh,.inl hm⟩) (by omega)
   exact ⟨_,_,rfl,.inl e,kvs',_,_,_,rfl,gt'.mono (fun a b h=>by omega) (by omega),xl bs (fun a b h=>by omega) (fun a b h=>by omega) (by omega)⟩)
  rw [aV,As] at gt' bs'
  have hr:b6 [.int (j:Int)]=some (aO 0 j):=b5 (by omega) (by omega)
  refine ⟨kvs',best',v5',v6',?_,gt'.mono (fun a b h=>by omega) (by omega),⟨fun a b h=>bs'.all a b (by omega),bs'.att.imp id fun ⟨a,b,h,e⟩=>⟨a,b,by omega,e⟩⟩⟩
  unfold cP
  apply dn
  ·(repeat' (first | with_reducible apply cq (h3:=hr) | infer_instance | eq_refl))
  ·rfl
  ·exact e
 obtain ⟨ρ',e,kvs',best',v4,v5,v6,rfl,gt',bs'⟩:=a8 (bnd:=ay 4) (b:=cP) (fun m ρ=>∃ kvs best v4 v5 v6,ρ=llS ps up kvs best v4 v5 v6/\Gt kvs (a9 (wv ps (bv up))) (fun a b=>a < b/\b < m) (25 * m)/\Bst best (a9 (wv ps (bv up))) (fun a b=>a < b/\b < m)) (ds:=aO 0 ps.length) (ρ:=llS ps up [] 1 none none none) (k:=0) ⟨[],1,none,none,none,rfl,⟨fun a b h=>by omega,Aj _⟩,⟨fun a b h=>by omega,.inl rfl⟩⟩ (by
  rintro m d ρ hd ⟨kvs,best,v4,v5,v6,rfl,gt,bs⟩
  obtain ⟨hm,rfl⟩:=bj hd
  rw [As] at gt bs ⊢
  rw [Int.zero_add]
  obtain ⟨kvs',best',v5',v6',e,gt',bs'⟩:=inner m kvs best v5 v6 hm gt bs
  exact ⟨_,_,rfl,.inl e,_,_,_,_,_,rfl,gt',bs'⟩)
 rw [aV,As] at bs'
 have hr:b6 [.int (ps.length:Nat)]=some (aO 0 ps.length):=b5 (by omega) (by omega)
 have hlen:=um ps
 refine ⟨best',?_,⟨fun i j h1 h2=>bs'.all i j ⟨h1,h2⟩,bs'.att.imp id fun ⟨a,b,h,e⟩=>⟨a,b,h.1,h.2,e⟩⟩⟩
 apply aZ (ρ:=[some (Shd ps,.z),some (.bl up,.z),none,none,none,none,none]) rfl rfl
 ·apply al (ρ1:=[some (Shd ps,.z),some (.bl up,.z),some (.dt [],.u),none,none,none,none])
  ·rfl
  ·apply al (ρ1:=llS ps up [] 1 none none none)
   ·rfl
   ·apply al
    ·apply dn
     ·(repeat' (first | with_reducible apply cq (h3:=hr) | infer_instance | exact hlen | eq_refl))
     ·rfl
     ·exact e
    ·(repeat' (first | infer_instance | eq_refl))
 ·rfl
end
theorem gO {bnd:L3.D->Sto->Option Sto} {c:M3 Bool} {elt:EM} {d:L3.D} {ds l:List L3.D} {τ τ1 τ2 τ3 τ4 τ':Sto} {r:R3} {p:L3.D × Fl} (h1:bnd d τ=some τ1) (h2:c τ1=some (.ok true,τ2)) (h3:elt τ2=some (.ok r,τ3)) (h4:eO r τ3=some (.ok p,τ4)) (h5:bT bnd c elt ds τ4=some (.ok l,τ')) :
  bT bnd c elt (d :: ds) τ=some (.ok (p.1 :: l),τ'):=by
 unfold bT
 simp [h1,ae,h2,h3,h4,h5,bb]
theorem pA (n:Int) (a:Option (L3.D × Fl)):ik [a,some (.lst [.int n],.u)]=some (.ok (.val (.tup [.int (2+n % 8),.int (2+n / 8 % 8)]) .z),[a,some (.lst [.int (n / 8 / 8)],.u)]):=by
 have t1:=gY n 8 (by decide)
 have t2:=gY (n / 8) 8 (by decide)
 unfold ik
 exact pz (bJ (dA i_c (aq (ρ2:=[a,some (.lst [.int (n / 8)],.u)]) t1 (bJ (bx rfl) (bJ i_c eY)) rfl rfl rfl) rfl rfl rfl) (bJ (dA i_c (aq (ρ2:=[a,some (.lst [.int (n / 8 / 8)],.u)]) t2 (bJ (bx rfl) (bJ i_c eY)) rfl rfl rfl) rfl rfl rfl) eY)) rfl (show 2<=16777216 by decide)
noncomputable def In9 (p:Int × Int):Prop:=(2<=p.1/\p.1<=9)/\2<=p.2/\p.2<=9
theorem kr (n:Int):In9 (2+n % 8,2+n / 8 % 8):=by
 show (2<=2+n % 8/\2+n % 8<=9)/\2<=2+n / 8 % 8/\2+n / 8 % 8<=9
 omega
set_option tactic.hygienic true in
theorem comp3 (n:Int) (v0 v1 v3 v4 v5 v6 v7 v8 v9:Option (L3.D × Fl)):∃ (n':Int) (ps:List (Int × Int)),nN [v0,v1,some (.lst [.int n],.u),v3,v4,v5,v6,v7,v8,v9]=some (.ok (.val (.lst (ps.map Pd)) .u),[v0,v1,some (.lst [.int n'],.u),v3,v4,v5,v6,v7,v8,v9])/\ps.length=3/\∀ p ∈ ps,In9 p:=by
 have hr:b6 [.int 3]=some (aO 0 3):=b5 (by decide) (by decide)
 have im:aR b6 (ab (mC (.int 3)) aj) [v0,v1,some (.lst [.int n],.u),v3,v4,v5,v6,v7,v8,v9]=some (.ok ([],aO 0 3),[v0,v1,some (.lst [.int n],.u),v3,v4,v5,v6,v7,v8,v9]):=by (repeat' (first | with_reducible apply cq (h3:=hr) | infer_instance | eq_refl))
 have cl:bT (ay 0) gP ik (aO 0 3) [none,some (.lst [.int n],.u)]=some (.ok [.tup [.int (2+n % 8),.int (2+n / 8 % 8)],.tup [.int (2+n / 8 / 8 % 8),.int (2+n / 8 / 8 / 8 % 8)],.tup [.int (2+n / 8 / 8 / 8 / 8 % 8),.int (2+n / 8 / 8 / 8 / 8 / 8 % 8)]],[some (.int (0+(2:Nat)),.z),some (.lst [.int (n / 8 / 8 / 8 / 8 / 8 / 8)],.u)]) :=
  gO (p:=(.tup [.int (2+n % 8),.int (2+n / 8 % 8)],.z)) rfl rfl (pA n _) rfl (gO (p:=(.tup [.int (2+n / 8 / 8 % 8),.int (2+n / 8 / 8 / 8 % 8)],.z)) rfl rfl (pA (n / 8 / 8) _) rfl (gO (p:=(.tup [.int (2+n / 8 / 8 / 8 / 8 % 8),.int (2+n / 8 / 8 / 8 / 8 / 8 % 8)],.z)) rfl rfl (pA (n / 8 / 8 / 8 / 8) _) rfl rfl))
 refine ⟨n / 8 / 8 / 8 / 8 / 8 / 8,[(2+n % 8,2+n / 8 % 8),(2+n / 8 / 8 % 8,2+n / 8 / 8 / 8 % 8),(2+n / 8 / 8 / 8 / 8 % 8,2+n / 8 / 8 / 8 / 8 / 8 % 8)],?_,rfl,?_⟩
 ·exact cp (rs:=[]) im cl (by rw [aV];decide) rfl
 ·intro p hp
  rcases z8.mp hp with rfl | hp
  ·exact kr n
  ·rcases z8.mp hp with rfl | hp
   ·exact kr (n / 8 / 8)
   ·rw [Az.mp hp];exact kr (n / 8 / 8 / 8 / 8)
theorem qj {ps:List Pt} {way B:Int} (h:IsMost ps way B):1<=B:=by
 rcases h.att with h | ⟨i,j,_,_,e⟩
 ·omega
 ·have:=kD (wv ps way) i j
  omega
section
variable {ps:List Pt} {B1 B2:Int}
noncomputable abbrev laS (ns:List Int) (k:Int) (n:Int) (ps:List Pt) (B1 B2:Int) (v6 v7 v8 v9:Option (L3.D × Fl)):Sto:=[some (.fls (ns.map .int),.z),some (.int k,.z),some (.lst [.int n],.u),some (Shd ps,.z),some (.int B1,.z),some (.int B2,.z),v6,v7,v8,v9]
set_option tactic.hygienic true in
theorem zt (g:GoodSh ps) (h1:IsMost ps 1 B1) (h2:IsMost ps (-1) B2) {ns:List Int} {k n:Int} {p:Int × Int} (hp:In9 p) {v6 v9:Option (L3.D × Fl)} :
  io (laS ns k n ps B1 B2 v6 (some (.int p.1,.z)) (some (.int p.2,.z)) v9)=some (.ok .nx,laS ns k n ps B1 B2 v6 (some (.int p.1,.z)) (some (.int p.2,.z)) (some (.bl (decide (B1 < p.1/\B2 < p.2)),.z))):=by
 have f:=re g h1 h2 hp.1 hp.2
 unfold io
 apply al (ρ1:=laS ns k n ps B1 B2 v6 (some (.int p.1,.z)) (some (.int p.2,.z)) (some (.bl (decide (B1 < p.1/\B2 < p.2)),.z)))
 ·(repeat' (first | infer_instance | with_reducible apply aq (f) | eq_refl))
 ·apply eD (b:=false)
  ·apply uA (b:=false)
   ·exact mn (b:=true) (uB (i_un (bx rfl) rfl rfl) rfl)
   ·rfl
   ·by_cases a:B1 < p.1
    ·have e:neX (.bl (decide (B1 < p.1/\B2 < p.2))) (.bl (decide (B2 < p.2)))=some (.bl false,.z):=by
      rw [show decide (B1 < p.1/\B2 < p.2)=decide (B2 < p.2) by simp [a]]
      cases decide (B2 < p.2) <;> rfl
     exact uB (dA (bx rfl) (jD (b:=decide (B1 < p.1)) (dA (bx rfl) (bx rfl) rfl rfl rfl) rfl (Ao a) (dA (bx rfl) (bx rfl) rfl rfl rfl)) rfl rfl e) rfl
    ·have e:neX (.bl (decide (B1 < p.1/\B2 < p.2))) (.bl false)=some (.bl false,.z):=by
      rw [show decide (B1 < p.1/\B2 < p.2)=false by simp [a]]
      rfl
     exact uB (dA (bx rfl) (qv (b:=decide (B1 < p.1)) (dA (bx rfl) (bx rfl) rfl rfl rfl) rfl (Ap a)) rfl rfl e) rfl
  ·rfl
  ·rfl
noncomputable def mi (a b:Int):Int:=if b < a then b else a
noncomputable def ma (a b:Int):Int:=if b > a then b else a
set_option tactic.hygienic true in
theorem uq {ns:List Int} (i:Nat) {v2 v3 v4 v5 v6 v7 v8 v9:Option (L3.D × Fl)}:∃ w2 w3 w4 w5 w6 w7 w8 w9,il [some (.fls (ns.map .int),.z),some (.int (i:Int),.z),v2,v3,v4,v5,v6,v7,v8,v9]=some (.ok .nx,[some (.fls (ns.map .int),.z),some (.int (i:Int),.z),w2,w3,w4,w5,w6,w7,w8,w9]):=by
 obtain ⟨n0,eb⟩:=vJ ns i
 obtain ⟨n1,ps,es,g,hl,_⟩:=qZ n0 10 (by decide) (by decide)
 obtain ⟨B1,l1,m1⟩:=i9 g true
 obtain ⟨B2,l2,m2⟩:=i9 g false
 obtain ⟨n2,qs,ec,hq3,hq⟩:=comp3 n1 (some (.fls (ns.map .int),.z)) (some (.int (i:Int),.z)) (some (Shd ps,.z)) (some (.int B1,.z)) (some (.int B2,.z)) v6 v7 v8 v9
 have b1:=qj m1
 have b2:=qj m2
 have a1:bF (.lst (qs.map Pd)) (.lst ([(2,2),(3,3),(9,9),(mi 9 (B1+1),mi 9 (B2+1))].map Pd))=some (.lst (qs.map Pd ++ [(2,2),(3,3),(9,9),(mi 9 (B1+1),mi 9 (B2+1))].map Pd),.u):=qI (by simp [hq3])
 have a2:bF (.lst (qs.map Pd ++ [(2,2),(3,3),(9,9),(mi 9 (B1+1),mi 9 (B2+1))].map Pd)) (.lst ([(mi 9 (ma 2 B1),9),(9,mi 9 (ma 2 B2))].map Pd))=some (.lst (qs.map Pd ++ [(2,2),(3,3),(9,9),(mi 9 (B1+1),mi 9 (B2+1))].map Pd ++ [(mi 9 (ma 2 B1),9),(9,mi 9 (ma 2 B2))].map Pd),.u):=qI (by simp [hq3])
 rw [<- List.map_append,<- List.map_append] at a2
 rw [<- List.map_append] at a1
 have all:∀ p ∈ qs ++ [(2,2),(3,3),(9,9),(mi 9 (B1+1),mi 9 (B2+1))] ++ [(mi 9 (ma 2 B1),9),(9,mi 9 (ma 2 B2))],In9 p:=by
  intro p hp
  simp only [Ab,z8,List.not_mem_nil,or_false] at hp
  rcases hp with (hp | rfl | rfl | rfl | rfl) | rfl | rfl
  ·exact hq p hp
  ·exact ⟨⟨by decide,by decide⟩,by decide,by decide⟩
  ·exact ⟨⟨by decide,by decide⟩,by decide,by decide⟩
  ·exact ⟨⟨by decide,by decide⟩,by decide,by decide⟩
  ·show (2<=mi 9 (B1+1)/\mi 9 (B1+1)<=9)/\2<=mi 9 (B2+1)/\mi 9 (B2+1)<=9
   unfold mi
   split <;> split <;> omega
  ·show (2<=mi 9 (ma 2 B1)/\mi 9 (ma 2 B1)<=9)/\2<=(9:Int)/\(9:Int)<=9
   unfold mi ma
   split <;> split <;> omega
  ·show (2<=(9:Int)/\(9:Int)<=9)/\2<=mi 9 (ma 2 B2)/\mi 9 (ma 2 B2)<=9
   unfold mi ma
   split <;> split <;> omega
 generalize hC:qs ++ [(2,2),(3,3),(9,9),(mi 9 (B1+1),mi 9 (B2+1))]=C at a1 a2 all
 generalize hE:C ++ [(mi 9 (ma 2 B1),9),(9,mi 9 (ma 2 B2))]=E at a2 all
 obtain ⟨ρ',ef,w7,w8,w9,rfl⟩:=a8 (bnd:=pL 2 (fI (ay 7) (fI (ay 8) pM))) (b:=io) (fun _ ρ=>∃ v7 v8 v9,ρ=laS ns i n2 ps B1 B2 (some (.lst (C.map Pd),.u)) v7 v8 v9) (ds:=E.map Pd) (ρ:=laS ns i n2 ps B1 B2 (some (.lst (C.map Pd),.u)) v7 v8 v9) (k:=0) ⟨_,_,_,rfl⟩ (by
  rintro m d ρ hd ⟨v7,v8,v9,rfl⟩
  rw [Ai] at hd
  obtain ⟨p,hp,rfl⟩:=z5.mp hd
  exact ⟨_,_,rfl,.inl (zt g m1 m2 (all p (Af hp))),_,_,_,rfl⟩)
 refine ⟨some (.lst [.int n2],.u),some (Shd ps,.z),some (.int B1,.z),some (.int B2,.z),some (.lst (C.map Pd),.u),w7,w8,w9,?_⟩
 ·unfold il
  apply al (ρ1:=[some (.fls (ns.map .int),.z),some (.int (i:Int),.z),some (.lst [.int n0],.u),v3,v4,v5,v6,v7,v8,v9])
  ·(repeat' (first | infer_instance | with_reducible apply aq (eb) | eq_refl))
  ·apply al (ρ1:=[some (.fls (ns.map .int),.z),some (.int (i:Int),.z),some (.lst [.int n1],.u),some (Shd ps,.z),v4,v5,v6,v7,v8,v9])
   ·(repeat' (first | infer_instance | with_reducible apply aq (es) | eq_refl))
   ·apply al (ρ1:=laS ns i n1 ps B1 B2 v6 v7 v8 v9)
    ·exact i_par (ρ2:=[some (.fls (ns.map .int),.z),some (.int (i:Int),.z),some (.lst [.int n1],.u),some (Shd ps,.z),v4,v5,v6,v7,v8,v9]) (bJ (aq l1 (bJ (bx rfl) (bJ i_c eY)) rfl rfl rfl) (bJ (aq l2 (bJ (bx rfl) (bJ i_c eY)) rfl rfl rfl) eY)) rfl (show 4 < 10 by decide) (show 5 < 10 by decide) rfl
    ·apply al (ρ1:=laS ns i n2 ps B1 B2 (some (.lst (qs.map Pd),.u)) v7 v8 v9)
     ·exact nZ ec rfl (show 6 < 10 by decide) rfl
     ·apply al (ρ1:=laS ns i n2 ps B1 B2 (some (.lst (C.map Pd),.u)) v7 v8 v9)
      ·(repeat' (first | infer_instance | exact a1 | eq_refl))
      ·apply dn
       ·(repeat' (first | infer_instance | exact a2 | eq_refl))
       ·rfl
       ·exact ef
set_option tactic.hygienic true in
theorem vE (ns:List Int) (hn:ns.length<=63):xS [(.fls (ns.map .int),.z)]=some (.ok (.bl true,.z),[(.fls (ns.map .int),.z)]):=by
 have hb:∃ m:Nat,(if (if ((4:Int) < ((ns.map L3.D.int).length:Int)) then (4:Int) else ((ns.map L3.D.int).length:Int)) > 1 then (if ((4:Int) < ((ns.map L3.D.int).length:Int)) then (4:Int) else ((ns.map L3.D.int).length:Int)) else (1:Int))=(m:Int)/\m<=4:=by
  refine ⟨max 1 (min ns.length 4),?_,by omega⟩
  simp only [Ad]
  split <;> split <;> omega
 obtain ⟨m,hm,hm3⟩:=hb
 obtain ⟨ρ',e,v1,v2,v3,v4,v5,v6,v7,v8,v9,rfl⟩:=a8 (bnd:=ay 1) (b:=il) (fun _ ρ=>∃ v1 v2 v3 v4 v5 v6 v7 v8 v9,ρ=[some (.fls (ns.map .int),.z),v1,v2,v3,v4,v5,v6,v7,v8,v9]) (ds:=aO 0 m) (ρ:=[some (.fls (ns.map .int),.z),none,none,none,none,none,none,none,none,none]) (k:=0) ⟨_,_,_,_,_,_,_,_,_,rfl⟩ (by
  rintro i d ρ hd ⟨v1,v2,v3,v4,v5,v6,v7,v8,v9,rfl⟩
  obtain ⟨hi,rfl⟩:=bj hd
  rw [Int.zero_add]
  obtain ⟨w2,w3,w4,w5,w6,w7,w8,w9,e⟩:=uq (ns:=ns) i (v2:=v2) (v3:=v3) (v4:=v4) (v5:=v5) (v6:=v6) (v7:=v7) (v8:=v8) (v9:=v9)
  exact ⟨_,_,rfl,.inl e,_,_,_,_,_,_,_,_,_,rfl⟩)
 have hr:b6 [.int (if (if ((4:Int) < ((ns.map L3.D.int).length:Int)) then (4:Int) else ((ns.map L3.D.int).length:Int)) > 1 then (if ((4:Int) < ((ns.map L3.D.int).length:Int)) then (4:Int) else ((ns.map L3.D.int).length:Int)) else (1:Int))]=some (aO 0 m):=by
  rw [hm]
  exact b5 (by omega) (by omega)
 apply aZ (ρ:=[some (.fls (ns.map .int),.z),none,none,none,none,none,none,none,none,none]) rfl rfl
 ·apply al
  ·apply dn
   ·(repeat' (first | with_reducible apply cq (h3:=hr) | infer_instance | eq_refl))
   ·rfl
   ·exact e
  ·(repeat' (first | infer_instance | eq_refl))
 ·rfl
end
end Bn
end
namespace Bn
open PySem L2 L3
theorem zR {l : PySem.W.OpenLaw} {w : World} {K : FG} {h : Heap} {mg : Str -> Option Value} {fa : Addr} (X : K.In h) (G : h.Ns mainGlobals mg) (hfa : mg "law" = some (.ref fa)) (e : vB K = qx) :
  ∃ fd : FuncData, (∀ (s : Shared) (v : Value), BindsTo s fd ⟨[v], []⟩ [("_law_script", v)]) /\ ∀ base : Heap, K.In base -> base.Ns mainGlobals mg -> FnOk l.prog w K mg base CX0 11 fa fd ["_law_script"] (sR K) := by
 have e0 : dsL.map (fun p => oe K p.1) = dsL.map (fun p => kz p.1 p.2) := congrArg (fun x => x.1) e
 have e1 : blL.map (PySem.W.nsIn K mainGlobals) = blL.map (fun _ => some none) := congrArg (fun x => x.2.1) e
 have e2 : ciL.map (fun p => ml K p.1) = ciL.map (fun p => some p.2) := congrArg (fun x => x.2.2.1) e
 have e3 : csL.map (fun p => sQ K p.1) = csL.map (fun p => some p.2) := congrArg (fun x => x.2.2.2) e
 have B : Bl mg := ⟨cC X G e1 0 rfl, cC X G e1 1 rfl, cC X G e1 2 rfl, cC X G e1 3 rfl, cC X G e1 4 rfl, cC X G e1 5 rfl, cC X G e1 6 rfl, cC X G e1 7 rfl, cC X G e1 8 rfl, cC X G e1 9 rfl, cC X G e1 10 rfl, cC X G e1 11 rfl, cC X G e1 12 rfl, cC X G e1 13 rfl, cC X G e1 14 rfl, cC X G e1 15 rfl, cC X G e1 16 rfl, cC X G e1 17 rfl, cC X G e1 18 rfl, cC X G e1 19 rfl⟩
 have D0 : Def K mg "is_whole" fg := aP X G e0 0 rfl
 have D1 : Def K mg "is_point" fi := aP X G e0 1 rfl
 have D2 : Def K mg "check_number" cH := aP X G e0 2 rfl
 have D3 : Def K mg "are_points" dG := aP X G e0 3 rfl
 have D4 : Def K mg "has_rising_x" cG := aP X G e0 4 rfl
 have D5 : Def K mg "bend" lU := aP X G e0 5 rfl
 have D6 : Def K mg "threes" gT := aP X G e0 6 rfl
 have D7 : Def K mg "first_on_line" cr := aP X G e0 7 rfl
 have D8 : Def K mg "is_sheet" fh := aP X G e0 8 rfl
 have D9 : Def K mg "check_sheet" df := aP X G e0 9 rfl
 have D10 : Def K mg "turn_at" gp := aP X G e0 10 rfl
 have D11 : Def K mg "all_turns" eg := aP X G e0 11 rfl
 have D12 : Def K mg "row_table" d7 := aP X G e0 12 rfl
 have D13 : Def K mg "cup_table" d9 := aP X G e0 13 rfl
 have D14 : Def K mg "cap_table" ee := aP X G e0 14 rfl
 have D15 : Def K mg "onward_table" cF := aP X G e0 15 rfl
 have D16 : Def K mg "longest_row" c8 := aP X G e0 16 rfl
 have D17 : Def K mg "longest_cup" c9 := aP X G e0 17 rfl
 have D18 : Def K mg "longest_cap" de := aP X G e0 18 rfl
 have D19 : Def K mg "check_two_numbers" bz := aP X G e0 19 rfl
 have D20 : Def K mg "has_places" dE := aP X G e0 20 rfl
 have D21 : Def K mg "cup_or_cap" dF := aP X G e0 21 rfl
 have D22 : Def K mg "lacks" jy := aP X G e0 22 rfl
 have D23 : Def K mg "_law_box" jz := aP X G e0 23 rfl
 have D24 : Def K mg "_law_take" gU := aP X G e0 24 rfl
 have D25 : Def K mg "_law_bend" gX := aP X G e0 25 rfl
 have D26 : Def K mg "_law_free" gW := aP X G e0 26 rfl
 have D27 : Def K mg "_law_sheet" gq := aP X G e0 27 rfl
 have D28 : Def K mg "_law_longest" d8 := aP X G e0 28 rfl
 obtain ⟨f, fd, F0, hf⟩ : Def K mg "law" fP := aP X G e0 29 rfl
 cases hfa.symm.trans hf
 have F := F0
 obtain ⟨oc, od, kV, doc, pm, an, cdv, ct, osl, ef, lk, hcd⟩ := F0.ex
 subst ef
 obtain ⟨tk0, Q0⟩ := ko X G e2 0 (n := "MOST_POINTS") (v := 24) rfl
 obtain ⟨tk1, Q1⟩ := ko X G e2 1 (n := "UP") (v := 1) rfl
 obtain ⟨tk2, Q2⟩ := ko X G e2 2 (n := "DOWN") (v := -1) rfl
 obtain ⟨tk3, Q3⟩ := ko X G e2 3 (n := "LEAST_PLACES") (v := 2) rfl
 obtain ⟨tk4, Q4⟩ := ko X G e2 4 (n := "MOST_PLACES") (v := 9) rfl
 refine ⟨PySem.W.fnOf "law" "law" (bg fP) (aU fP) (ai fP) .none kV doc pm an cdv ct, fun s v => .of_eq rfl, fun base _ _ => ?_⟩
 have C_is_whole := mB (P := l.prog) (w := w) (base := base) B D0
 have C_is_point := mE (P := l.prog) (w := w) (base := base) B D1 C_is_whole
 have C_check_number := iZ (P := l.prog) (w := w) (base := base) B D2 C_is_whole
 have C_are_points := kG (P := l.prog) (w := w) (base := base) B D3 C_is_point Q0
 have C_has_rising_x := iY (P := l.prog) (w := w) (base := base) B D4
 have C_bend := uR (P := l.prog) (w := w) (base := base) B D5
 have C_threes := pE (P := l.prog) (w := w) (base := base) B D6
 have C_first_on_line := iB (P := l.prog) (w := w) (base := base) B D7 C_bend C_threes
 have C_is_sheet := mD (P := l.prog) (w := w) (base := base) B D8 C_are_points C_first_on_line C_has_rising_x
 have C_check_sheet := jx (P := l.prog) (w := w) (base := base) B D9 C_is_sheet
 have C_turn_at := oC (P := l.prog) (w := w) (base := base) B D10 C_bend
 have C_all_turns := la (P := l.prog) (w := w) (base := base) B D11 C_check_sheet C_threes C_turn_at
 have C_row_table := k6 (P := l.prog) (w := w) (base := base) B D12 C_all_turns
 have C_cup_table := k8 (P := l.prog) (w := w) (base := base) B D13 C_row_table Q1
 have C_cap_table := k9 (P := l.prog) (w := w) (base := base) B D14 C_row_table Q2
 have C_onward_table := iX (P := l.prog) (w := w) (base := base) B D15
 have C_longest_row := ju (P := l.prog) (w := w) (base := base) B D16 C_onward_table
 have C_longest_cup := jv (P := l.prog) (w := w) (base := base) B D17 C_all_turns C_longest_row Q1
 have C_longest_cap := jw (P := l.prog) (w := w) (base := base) B D18 C_all_turns C_longest_row Q2
 have C_check_two_numbers := fJ (P := l.prog) (w := w) (base := base) B D19 C_check_number Q3 Q4
 have C_has_places := kE (P := l.prog) (w := w) (base := base) B D20
 have C_cup_or_cap := kF (P := l.prog) (w := w) (base := base) B D21 C_cap_table C_check_sheet C_check_two_numbers C_cup_table C_has_places C_longest_cap C_longest_cup
 have C_lacks := su (P := l.prog) (w := w) (base := base) B D22 C_cup_or_cap
 have C__law_box := sy (P := l.prog) (w := w) (base := base) B D23
 have C__law_take := pF (P := l.prog) (w := w) (base := base) B D24
 have C__law_bend := pH (P := l.prog) (w := w) (base := base) B D25
 have C__law_free := pG (P := l.prog) (w := w) (base := base) B D26 C__law_bend
 have C__law_sheet := oD (P := l.prog) (w := w) (base := base) B D27 C__law_free C__law_take
 have C__law_longest := k7 (P := l.prog) (w := w) (base := base) B D28 C__law_bend
 exact FnOk.imp (wZ (P := l.prog) (w := w) (base := base) B F C__law_box C__law_longest C__law_sheet C__law_take C_lacks) fun vs H Q E h => wS (fun ns hn => ⟨_, vE ns hn⟩) h
theorem walkL : PySem.W.WalkO viL loL (fun _ _ => True) (fun _ h => ∃ K : FG, K.In h /\ vB K = qx) PySem.Challenge.rw_bentrows_k42_what_sheets_lack.row.toRowW ⟨"law", bg fP, aU fP, ai fP, stPos fP⟩ [] (fun f vs => PySem.call f vs) :=
 L2.walk_ofS (l := PySem.Challenge.rw_bentrows_k42_what_sheets_lack) (n := 63) (k := 11) (x := "_law_script") (S := fun K => vB K = qx) (CX := CX0) (sp := sR) rfl (by decide) rfl ⟨rfl, by decide, by decide, rfl⟩ (fun _ _ z => z) (fun _ _ _ _ _ e X G hm => zR X G hm e) (fun _ _ a ns hl hO hS => ⟨a, ns, rfl, hS, hO, hl, fun _ => rfl⟩) fun _ _ _ _ z => z
end Bn
set_option tactic.hygienic true
open PySem PySem.W PyProof.Rows
set_option maxRecDepth 100000 in
set_option maxHeartbeats 0 in
theorem PySem.Challenge.cw_bentrows_k42_what_sheets_lack_holds : PySem.Challenge.rw_bentrows_k42_what_sheets_lack.Holds :=
 holds_law Bn.okL fun said => holds_open (r := PySem.Challenge.rw_bentrows_k42_what_sheets_lack.row) Bn.leftL (fun _ _ e => ⟨_, L2.fragAt_in _, e⟩) (fun _ _ _ ⟨K, X, e⟩ k => ⟨K, X.keeps k, e⟩) (fun _ _ => trivial) (fun _ _ _ _ _ => trivial) (by kernel_rfl) (by kernel_rfl) (by kernel_rfl) (fun s e => recFacts_of e) (by rfl) said (by kernel_rfl) ⟨rfl, rfl, rfl, rfl, rfl, by decide +kernel⟩ ⟨[.list []], by decide +kernel, by decide +kernel⟩ Bn.walkL
