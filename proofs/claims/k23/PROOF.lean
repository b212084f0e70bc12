import PyProof.Rows.All
import Wide.All
import OpenK.AllK
import Wide.FinOn
import Lean
import PyProof.EqAt
import PyProof.EqKinds
import PyProof.TupleCall
import PyProof.P3Eq
import PyProof.NeData
import PyProof.ListRange
import PyProof.Rows.CallKwBuiltin
import PyProof.Rows.Range3
import PyProof.DictWalks
import PyProof.MinMaxWalk
import PyProof.WalkInts
import PyProof.Walk
import PyProof.WalkLemmas
import PyProof.RulesTry
import PyProof.Rows.SortShell
import PyProof.Rows.SortWalk
import PyProof.Rows.SortRuns
import PyProof.Rows.SetFrom
import PyProof.SetKind
import PyProof.SetScanFacts
import PyProof.FactsAll.subtypes_4
import PyProof.FactsAll.set_1
import PyProof.DictDisplay
import KE.KRevIter
import PySem.Challenge.RW_bentrows_k23_rings_known
set_option genSizeOf false
set_option Elab.async false
noncomputable section
set_option linter.all false
set_option maxRecDepth 100000
set_option maxHeartbeats 4000000
section
abbrev FG:=PySem.W.Frag
open PySem PySem.Spec PyProof.Rows
abbrev DZ:=@wpAny_bind
abbrev Ea:=@wpAny_pure
abbrev Eb:=@wpAny_holding
abbrev Ec:=@List.mem_cons_self
abbrev Ed:=@List.mem_cons_of_mem
abbrev Ee:=@Heap.get?_push_of_some
abbrev Ef:=@Option.map_eq_some_iff
abbrev Eg:=@List.mem_append_left
abbrev Eh:=@List.mem_append_right
abbrev Ei:=@List.mem_cons
abbrev Ej:=@List.getElem?_eq_getElem
abbrev Ek:=@Heap.lt_size
abbrev El:=@List.mem_append
abbrev Em:=@Heap.get?_push_size
abbrev En:=@List.length_map
abbrev Eo:=@List.getElem?_eq_some_iff
abbrev Ep:=@List.mem_of_getElem?
abbrev Er:=@List.sublist_append_right
abbrev Es:=@List.mem_map
abbrev Et:=@List.getElem?_map
abbrev Eu:=@Nat.le_refl
abbrev Ev:=@Bool.false_ne_true
abbrev Ew:=@Nat.ne_of_lt
abbrev Ex:=@List.size_toArray
abbrev Ey:=@List.map_cons
abbrev Ez:=@decide_eq_true
abbrev EA:=@decide_eq_false
abbrev EB:=@Nat.lt_of_lt_of_le
abbrev EC:=@Nat.zero_add
abbrev ED:=@Heap.get?_update_self
abbrev EE:=@List.length_append
abbrev EF:=@List.length_cons
abbrev EG:=@List.length_take
abbrev EH:=@Option.map_some
abbrev EI:=@Option.bind_eq_some_iff
abbrev EJ:=@List.mem_singleton
abbrev EK:=@Bool.false_eq_true
abbrev EL:=@List.mem_filter
abbrev EN:=@List.getElem?_append_left
abbrev EO:=@Heap.get?_update_other
abbrev EQ:=@Heap.size_push
abbrev ER:=@wpAny_truthy_bool
abbrev ES:=@Nat.le_trans
abbrev ET:=@List.filter_eq_self
abbrev EU:=@List.mem_flatMap
abbrev EV:=@List.map_map
abbrev EW:=@Option.some.inj
abbrev EX:=@List.length_eq_zero_iff
end
section
namespace L2
open PySem
def bb (s : Stmt) : Arguments := match s with
 | .FunctionDef _ a _ _ _ _ _ _ _ _ => a
 | _ => { posonlyargs := [], args := [], vararg := none, kwonlyargs := [], kw_defaults := [], kwarg := none, defaults := [] }
def aU (s : Stmt) : List Stmt := match s with
 | .FunctionDef _ _ b _ _ _ _ _ _ _ => b
 | _ => []
def ag (s : Stmt) : Scope := match s with
 | .FunctionDef _ _ _ _ _ _ sc _ _ _ => sc
 | _ => { kind := .function, names := [], isGenerator := false, isCoroutine := false }
def yC (h : Heap) : FG := (List.range h.objs.size).filterMap fun a => (h.get? a).map fun o => (a, o)
def refIn (K : FG) (n : Str) : Addr := match PySem.W.nsIn K mainGlobals n with
 | some (some (.ref f)) => f
 | _ => 0
abbrev oN := Str × Str × Arguments × FuncBody × Scope × Addr × List (Str × Addr) × Value × Addr × Bool
def qe (K : FG) (n : Str) : Option oN := match PySem.W.nsIn K mainGlobals n with
 | some (some (.ref f)) => (match K.lookup f with
  | some ⟨_, _, .func fd, _⟩ => some (fd.name, fd.qualname, fd.params, fd.body, fd.scope, fd.globals, fd.closure, fd.defaults, fd.builtins, PySem.W.codeIn K fd.code n)
  | _ => none)
 | _ => none
def lD (n : Str) (st : Stmt) : Option oN := some (n, n, bb st, .stmts (aU st), ag st, mainGlobals, [], .none, builtinsNs, true)
def n9 (K : FG) (n : Str) : Option Int := match PySem.W.nsIn K mainGlobals n with
 | some (some (.int v _)) => some v
 | _ => none
def wg (K : FG) (n : Str) : Option Str := match PySem.W.nsIn K mainGlobals n with
 | some (some (.str v _)) => some v
 | _ => none
open PySem.W PyProof.Rows in
theorem vf {p q : Program} {loose : List Str} {c : Shared → Bool} {α : Type} {d : Shared → α} {g : World → α} {N m : Nat} {ann : Option Value}
  (e : opening p = plainProg p.main.scope.names) (o : Nat.ble 600 N = true) (f : ∀ s, fenceModules? p s = some s)
  (sz : ∀ w : World, ((boot_heap w.params).isNs mainGlobals && (Array.mk [] : Array GenState).size == 0, (boot_heap w.params).objs.size, (boot_heap w.params).nsMap mainGlobals "__annotations__") = (true, m, ann))
  (go : ∀ (w : World) (os : OsState), (PySem.W.Fast.tw14082659384304107361 PySem.W.Fast.tw14364793385576792824 p w m ann N ⟨boot_heap w.params, Array.mk [], boot_drawn, boot_toks, os⟩ (topStub p)).map (fun s => ((staticsOk (importedModules p.main.body) (boot_heap w.params) s.heap && namesBound p s.heap && gensDone s && laidKept (boot_heap w.params) s.heap), PySem.W.Fast.tw4187177175401517315 q loose (importedModules p.main.body) c true s, d s)) = some (true, openGood q loose, g w)) : LeftO p q loose c d g N := fun w => by
 obtain ⟨⟨n, j, i, tk, os⟩, h, l⟩ := Ef.mp (boot_open e o f w)
 obtain ⟨rfl, rfl, rfl, rfl⟩ : n = boot_heap w.params ∧ j = Array.mk [] ∧ i = boot_drawn ∧ tk = boot_toks := by simpa using l
 have sw := sz w
 have a := go w os
 rw [← PySem.W.Fast.te14082659384304107361, ← PySem.W.Fast.te14364793385576792824, ← PySem.W.Fast.te4187177175401517315] at a
 simp only [Prod.mk.injEq] at sw
 obtain ⟨s, k, b⟩ := Ef.mp a
 simp only [Prod.mk.injEq] at b
 have tt : topFrom treeTable p w N ⟨boot_heap w.params, Array.mk [], boot_drawn, boot_toks, os⟩ = some s := by
  unfold topFrom
  dsimp only
  rw [sw.1, sw.2.1, sw.2.2, k]
  change (match staticsOk (importedModules p.main.body) (boot_heap w.params) s.heap && namesBound p s.heap && gensDone s && laidKept (boot_heap w.params) s.heap with | true => some s | false => none) = some s
  rw [b.1]
 unfold openEnds
 rw [h]
 change Option.map _ (topFrom treeTable p w N _) = _
 rw [tt]
 exact congrArg some (Prod.ext b.2.1 b.2.2)
theorem uE {l : PySem.W.OpenLaw} (h : PySem.W.Fast.tw9446332074065402090 l = true) : l.wellSaid = true := by rw [← PySem.W.Fast.te9446332074065402090] at h; exact h
end L2
namespace Bn
open PySem L2
def top (i : Nat) : Stmt := PySem.Challenge.pw_bentrows_k23_rings_known.main.body.getD i (.Pass ⟨0, 0, 0, 0⟩)
abbrev fE : Stmt := top 4
abbrev fG : Stmt := top 5
abbrev fH : Stmt := top 6
abbrev bz : Stmt := top 7
abbrev dw : Stmt := top 10
abbrev cr : Stmt := top 11
abbrev nz : Stmt := top 12
abbrev i5 : Stmt := top 13
abbrev b9 : Stmt := top 14
abbrev fF : Stmt := top 15
abbrev cQ : Stmt := top 16
abbrev iw : Stmt := top 17
abbrev eh : Stmt := top 18
abbrev ee : Stmt := top 22
abbrev fB : Stmt := top 25
abbrev du : Stmt := top 26
abbrev iF : Stmt := top 27
abbrev i9 : Stmt := top 29
abbrev kH : Stmt := top 30
abbrev kI : Stmt := top 31
abbrev i6 : Stmt := top 32
abbrev iy : Stmt := top 33
abbrev iz : Stmt := top 34
abbrev jb : Stmt := top 35
abbrev i8 : Stmt := top 36
abbrev iA : Stmt := top 37
abbrev kG : Stmt := top 38
abbrev nw : Stmt := top 39
abbrev fD : Stmt := top 40
abbrev iD : Stmt := top 41
abbrev iC : Stmt := top 42
abbrev i7 : Stmt := top 43
abbrev eg : Stmt := top 44
abbrev iB : Stmt := top 45
abbrev ja : Stmt := top 46
abbrev gk : Stmt := top 47
abbrev dsL : List (Str × Stmt) := [(("is_whole" : Str), fE), (("is_point" : Str), fG), (("is_place" : Str), fH), (("are_rising_places" : Str), bz), (("are_points" : Str), dw), (("has_rising_x" : Str), cr), (("bend" : Str), nz), (("threes" : Str), i5), (("first_on_line" : Str), b9), (("is_sheet" : Str), fF), (("check_sheet" : Str), cQ), (("turn_at" : Str), iw), (("all_turns" : Str), eh), (("row_bends" : Str), ee), (("side_row" : Str), fB), (("is_ring_by" : Str), du), (("is_ring" : Str), iF), (("_law_cell" : Str), i9), (("_law_mix" : Str), kH), (("_law_box" : Str), kI), (("_law_take" : Str), i6), (("_law_whole" : Str), iy), (("_law_truth" : Str), iz), (("_law_bend" : Str), jb), (("_law_free" : Str), i8), (("_law_sheet" : Str), iA), (("_law_odd" : Str), kG), (("_law_up" : Str), nw), (("_law_rising" : Str), fD), (("_law_bends" : Str), iD), (("_law_parts" : Str), iC), (("_law_side" : Str), i7), (("_law_is_ring" : Str), eg), (("_law_rings" : Str), iB), (("_law_bent" : Str), ja), (("law" : Str), gk)]
abbrev blL : List Str := [("len" : Str), ("range" : Str), ("abs" : Str), ("divmod" : Str), ("enumerate" : Str), ("tuple" : Str), ("isinstance" : Str), ("int" : Str), ("bool" : Str), ("all" : Str), ("str" : Str), ("max" : Str), ("min" : Str), ("list" : Str), ("dict" : Str), ("repr" : Str), ("sorted" : Str), ("set" : Str), ("zip" : Str), ("reversed" : Str)]
abbrev ciL : List (Str × Int) := [(("MOST_POINTS" : Str), (24 : Int)), (("DOWN" : Str), (-1 : Int)), (("LEAST_CORNERS" : Str), (3 : Int)), (("UP" : Str), (1 : Int))]
abbrev csL : List (Str × Str) := []
def zK (K : FG) : List (Option oN) × List (Option (Option Value)) × List (Option Int) × List (Option Str) := (dsL.map (fun p => qe K p.1), blL.map (PySem.W.nsIn K mainGlobals), ciL.map (fun p => n9 K p.1), csL.map (fun p => wg K p.1))
def tW : List (Option oN) × List (Option (Option Value)) × List (Option Int) × List (Option Str) := (dsL.map (fun p => lD p.1 p.2), blL.map (fun _ => some none), ciL.map (fun p => some p.2), csL.map (fun p => some p.2))
theorem okL : PySem.Challenge.rw_bentrows_k23_rings_known.wellSaid = true := uE (by kernel_rfl)
abbrev loL : List Str := [("BentError" : Str), ("NoSheet" : Str), ("is_whole" : Str), ("is_point" : Str), ("is_place" : Str), ("are_rising_places" : Str), ("MOST_POINTS" : Str), ("are_points" : Str), ("has_rising_x" : Str), ("bend" : Str), ("threes" : Str), ("first_on_line" : Str), ("is_sheet" : Str), ("check_sheet" : Str), ("turn_at" : Str), ("all_turns" : Str), ("UP" : Str), ("DOWN" : Str), ("row_bends" : Str), ("LEAST_CORNERS" : Str), ("side_row" : Str), ("is_ring_by" : Str), ("is_ring" : Str), ("_law_cell" : Str), ("_law_mix" : Str), ("_law_box" : Str), ("_law_take" : Str), ("_law_whole" : Str), ("_law_truth" : Str), ("_law_bend" : Str), ("_law_free" : Str), ("_law_sheet" : Str), ("_law_odd" : Str), ("_law_up" : Str), ("_law_rising" : Str), ("_law_bends" : Str), ("_law_parts" : Str), ("_law_side" : Str), ("_law_is_ring" : Str), ("_law_rings" : Str), ("_law_bent" : Str)]
abbrev viL : Program := PySem.W.view PySem.Challenge.rw_bentrows_k23_rings_known.row.prog [47]
theorem leftL : PySem.W.LeftO PySem.Challenge.rw_bentrows_k23_rings_known.row.prog viL loL (fun s => PySem.W.recOk (PySem.W.RowW.records PySem.Challenge.rw_bentrows_k23_rings_known.row.toRowW) s) (fun s => zK (yC s.heap)) (fun _ => tW) 40000 :=
 vf (m := 11) (ann := some (.ref 6)) (by kernel_rfl) rfl (fun _ => rfl) (fun w => by kernel_rfl) (fun w os => by kernel_rfl)
end Bn
end
section
namespace L2
open PySem PySem.Spec PyProof.Rows
abbrev Key:=Sum Int Str
def mS:Key->Value->Bool
 | .inl k,v=>Value.isInt k v
 | .inr x,v=>Value.isStrOf x v
def keyH (w:World):Key->Int
 | .inl k=>hashInt k
 | .inr x=>hashStr w x
theorem bg:∀ {k:Key} {v:Value},mS k v=true->(∃ i t,k=Sum.inl i/\v=Value.int i t)\/(∃ x t,k=Sum.inr x/\v=Value.str x t)
 | .inl i,v,h=>by
  obtain ⟨t,e⟩:=Value.isInt_shape (k:=i) (v:=v) h
  exact .inl ⟨i,t,rfl,e⟩
 | .inr x,v,h=>by
  obtain ⟨t,e⟩:=Value.isStrOf_shape (x:=x) (v:=v) h
  exact .inr ⟨x,t,rfl,e⟩
theorem vj (i:Int) (t:Tok):mS (.inl i) (.int i t)=true:=by simp [mS,Value.isInt]
theorem vi (x:Str) (t:Tok):mS (.inr x) (.str x t)=true:=by simp [mS,Value.isStrOf]
theorem Dt (a b:Int):decide ((Sum.inl a:Key)=Sum.inl b)=(a == b):=by
 by_cases e:a=b
 ·subst e;simp
 ·have h:¬ (Sum.inl a:Key)=Sum.inl b:=fun q=>e (Sum.inl.inj q)
  rw [EA h]
  exact (beq_eq_false_iff_ne.mpr e).symm
theorem Dq (a b:Str):decide ((Sum.inr a:Key)=Sum.inr b)=decide (a=b):=by
 by_cases e:a=b
 ·subst e;simp
 ·have h:¬ (Sum.inr a:Key)=Sum.inr b:=fun q=>e (Sum.inr.inj q)
  rw [EA h,EA e]
theorem Ds (a:Int) (b:Str):decide ((Sum.inl a:Key)=Sum.inr b)=false:=EA (fun q=>nomatch q)
theorem Dr (a:Str) (b:Int):decide ((Sum.inr a:Key)=Sum.inl b)=false:=EA (fun q=>nomatch q)
def bO (prog:Program) (w:World):PySem.KeyKind prog w Key where
 is:=mS
 hash:=keyH w
 inj:=fun v a b f d=>by
  rcases bg f with ⟨i,t,rfl,rfl⟩ | ⟨x,t,rfl,rfl⟩
  ·rcases bg d with ⟨j,u,rfl,e⟩ | ⟨y,u,rfl,e⟩
   ·injection e with e1 _;rw [e1]
   ·exact nomatch e
  ·rcases bg d with ⟨j,u,rfl,e⟩ | ⟨y,u,rfl,e⟩
   ·exact nomatch e
   ·injection e with e1 _;rw [e1]
 byValue:=fun k v h=>by
  rcases bg h with ⟨i,t,rfl,rfl⟩ | ⟨x,t,rfl,rfl⟩ <;> rfl
 pyHash:=fun c h=>by
  rcases bg c with ⟨i,t,rfl,rfl⟩ | ⟨x,t,rfl,rfl⟩
  ·exact wpAny_pyHash_int h
  ·exact wpAny_pyHash_str h
 eqBool:=fun hu c h=>by
  rcases bg hu with ⟨i,t,rfl,rfl⟩ | ⟨x,t,rfl,rfl⟩
  ·rcases bg c with ⟨j,u,rfl,rfl⟩ | ⟨y,u,rfl,rfl⟩
   ·rw [Dt] at h;exact wpAny_eqBool_int h
   ·rw [Ds] at h;exact SeqAt.EqAt.int_str i t y u _ _ _ _ h
  ·rcases bg c with ⟨j,u,rfl,rfl⟩ | ⟨y,u,rfl,rfl⟩
   ·rw [Dr] at h;exact SeqAt.EqAt.str_int x t j u _ _ _ _ h
   ·rw [Dq] at h;exact wpAny_eqBool_str h
 «strs»:=fun k x t v h=>by
  rcases bg h with ⟨i,u,rfl,e⟩ | ⟨y,u,rfl,e⟩
  ·exact nomatch e
  ·injection e with e1 _
   subst e1
   cases v <;> rfl
theorem pM (prog:Program) (w:World) (i:Int) (t:Tok):(bO prog w).is (.inl i) (.int i t)=true:=vj i t
theorem pL (prog:Program) (w:World) (x:Str) (t:Tok):(bO prog w).is (.inr x) (.str x t)=true:=vi x t
end L2
namespace L2
open PySem PySem.Spec PyProof.Rows
inductive V where
 | non | bl (b:Bool) | int (i:Int) | str (x:Str) | byt (b:Array UInt8) | flt (b:UInt64) | ref (a:Addr) | ty (n:String)
 deriving DecidableEq
def RelV:V->Value->Prop
 | .non,u=>u=Value.none
 | .bl b,u=>u=Value.bool b
 | .int i,u=>∃ t,u=Value.int i t
 | .str x,u=>∃ t,u=Value.str x t
 | .byt b,u=>∃ t,u=Value.bytes b t
 | .flt b,u=>∃ t,u=Value.float b t
 | .ref a,u=>u=Value.ref a
 | .ty n,u=>u=Value.type n
abbrev Vals:List V->List Value->Prop:=Paired RelV
theorem Vals.length {xs:List V} {us:List Value} (r:Vals xs us):xs.length=us.length:=Paired.length r
theorem Vals.get:∀ {xs:List V} {us:List Value} {i:Nat} {x:V},Vals xs us->xs[i]?=some x->∃ u,us[i]?=some u/\RelV x u
 | _,_,_,_,.nil,e=>by simp at e
 | _,_,0,_,.cons r _,e=>by simp at e;subst e;exact ⟨_,rfl,r⟩
 | _,_,i+1,x,.cons _ t,e=>by
  obtain ⟨u,h1,h2⟩:=Vals.get (i:=i) (x:=x) t (by simpa using e)
  exact ⟨u,by simpa using h1,h2⟩
theorem Vals.set {x:V} {u:Value} (r:RelV x u):∀ {xs:List V} {us:List Value} (i:Nat),Vals xs us->Vals (xs.set i x) (us.set i u)
 | _,_,_,.nil=>.nil
 | _,_,0,.cons _ t=>.cons r t
 | _,_,i+1,.cons q t=>.cons q (Vals.set r i t)
theorem Vals.append:∀ {xs ys:List V} {us ws:List Value},Vals xs us->Vals ys ws->Vals (xs ++ ys) (us ++ ws)
 | _,_,_,_,.nil,s=>s
 | _,_,_,_,.cons r t,s=>.cons r (Vals.append t s)
theorem Vals.take:∀ {xs:List V} {us:List Value} (n:Nat),Vals xs us->Vals (xs.take n) (us.take n)
 | _,_,0,_=>.nil
 | _,_,_+1,.nil=>.nil
 | _,_,n+1,.cons r t=>.cons r (Vals.take n t)
theorem Vals.drop:∀ {xs:List V} {us:List Value} (n:Nat),Vals xs us->Vals (xs.drop n) (us.drop n)
 | _,_,0,r=>r
 | _,_,_+1,.nil=>.nil
 | _,_,n+1,.cons _ t=>Vals.drop n t
def RelO:Option V->Option Value->Prop
 | some v,some u=>RelV v u
 | none,none=>True
 | _,_=>False
def KV {κ:Type}:List (κ × V)->List (κ × Value)->Prop:=Paired fun (p:κ × V) (q:κ × Value)=>p.1=q.1/\RelV p.2 q.2
def kV:Key->V
 | .inl i=>.int i
 | .inr x=>.str x
inductive HO where
 | lst (xs:List V)
 | tup (xs:List V)
 | dK (kvs:List (Key × V)) | dT (kvs:List (List Key × V))
 | set (S:Int->Bool) (n:Nat)
 | ins (C dx:Addr) (fs:List (Str × V))
 | own (x:Addr)
 | xd (fs:List (Str × V))
 | met (f x:Addr)
 | rng (lo hi:Int)
 | frz (o:Obj) (u:HO)
 | tbl (ps:Array Value)
 | ext (φ:Heap->Prop)
abbrev Hp:=Addr->Option HO
def upd (H:Hp) (a:Addr) (o:HO):Hp:=fun b=>if b=a then some o else H b
theorem aJ {H:Hp} {a:Addr} {o:HO}:upd H a o a=some o:=by unfold upd;rw [if_pos rfl]
theorem aw {H:Hp} {a b:Addr} {o:HO} (h:b ≠ a):upd H a o b=H b:=by unfold upd;rw [if_neg h]
theorem Bw {H:Hp} {a b:Addr} {o u:HO} (h:H a=some o) (h':H b=some u) (d:o ≠ u):a ≠ b:=by
 intro e;subst e;rw [h] at h';exact d (EW h')
theorem aX {H:Hp} {a b:Addr} {o:HO} (h:H a=some o) (h':H b=none):a ≠ b:=by
 intro e;subst e;rw [h] at h';cases h'
def DictOfE {prog:Program} {w:World} {κ:Type} [DecidableEq κ] (knd:KeyKind prog w κ) (h:Heap) (a:Addr) (kvs:List (κ × Value)):Prop :=
 ∃ o es b,h.get? a=some o/\o.ExactDict/\o.data=.dict es b/\KeysOf knd es/\Pairs knd es.toList kvs/\(kvs.map (·.1)).Nodup/\b=es.size
theorem DictOfE.of {prog:Program} {w:World} {κ:Type} [DecidableEq κ] {knd:KeyKind prog w κ} {h:Heap} {a:Addr} {kvs:List (κ × Value)} (x:DictOfE knd h a kvs):h.DictOf knd a kvs:=let ⟨o,es,d,h1,h2,h3,e,c,b,_⟩:=x;⟨o,es,d,h1,h2,h3,e,c,b⟩
def IsTupD (h:Heap) (a:Addr) (items:Array Value):Prop:=∃ o,h.get? a=some o/\o.cls=.type "tuple"/\∃ n,(o.data,o.dict)=(Data.seq items n,none)
theorem IsTupD.tup {h:Heap} {a:Addr} {items:Array Value} (x:IsTupD h a items):IsTup h a items:=let ⟨o,e,c,n,d⟩:=x;⟨o,e,c,n,congrArg Prod.fst d⟩
theorem IsTupD.lt {h:Heap} {a:Addr} {items:Array Value} (x:IsTupD h a items):a < h.objs.size:=x.tup.lt
theorem IsTupD.new (h:Heap) (items:Array Value):IsTupD (h.push { cls:=.type "tuple",data:=.seq items }) h.objs.size items:=⟨_,Em h rfl,rfl,_,rfl⟩
section
variable (P:Program) (w:World)
def ObjOk (H:Hp) (h:Heap) (a:Addr):HO->Prop
 | .lst xs=>xs.length<=sizeLine/\∃ (its:List Value) (n:Nat),Vals xs its/\h.get? a=some { cls:=.type "list",data:=.seq its.toArray n }
 | .tup xs=>xs.length<=sizeLine/\∃ its:List Value,Vals xs its/\IsTupD h a its.toArray
 | .dK kvs=>kvs.length<=sizeLine/\(a == sysModules)=false/\∃ d,KV kvs d/\DictOfE (bO P w) h a d
 | .dT kvs=>kvs.length<=sizeLine/\(a == sysModules)=false/\∃ xs:List (List Key × Addr × Value),
   Paired (fun (p:List Key × V) (q:List Key × Addr × Value)=>p.1=q.1/\H q.2.1=some (.tup (p.1.map kV))/\RelV p.2 q.2.2) kvs xs /\
   ∃ o es c,h.get? a=some o/\o.ExactDict/\o.data=.dict es c/\es.toList=xs.map (entryOfKey (tupleKind (bO P w)))/\(xs.map (·.1)).Nodup/\c=es.size
 | .set S n=>h.SetOf (intKind P w) a S n
 | .ins C dx fs=>H dx=some (.own a)/\fs.length<=1000/\dx ≠ a/\h.get? a=some (PySem.W.instObj C dx) /\
   ∃ b,h.Ns1 dx b/\(∀ f,RelO (fs.lookup f) (b f))/\PySem.Within b (fs.map (·.1))
 | .own _=>∃ o,h.get? a=some o
 | .xd fs=>∃ b,h.Ns1 a b/\∀ f,RelO (fs.lookup f) (b f)
 | .rng lo hi=>∃ t u v,h.get? a=some { cls:=.type "range",data:=.fields #[.int lo t,.int hi u,.int 1 v] }
 | .frz o u=>h.get? a=some o/\ObjOk H h a u
 | .tbl ps=>h.get? a=some { cls:=.none,data:=.fields ps }
 | .met f x=>h.get? a=some (PySem.W.methodObj (.ref f) (.ref x))
 | .ext φ=>φ h/\(∃ o,h.get? a=some o)/\∀ h1 h2:Heap,φ h1->(∀ o,h1.get? a=some o->h2.get? a=some o)->φ h2
def HOk (H:Hp) (h:Heap):Prop:=∀ a o,H a=some o->ObjOk P w H h a o
end
section
variable {P:Program} {w:World} {H H':Hp} {h h':Heap} {a:Addr} {o:HO}
theorem ObjOk.lt (x:ObjOk P w H h a o):a < h.objs.size:=by
 cases o with
 | lst xs=>obtain ⟨_,_,_,_,e⟩:=x;exact Ek e
 | tup xs=>obtain ⟨_,_,_,p⟩:=x;exact p.lt
 | dK kvs=>obtain ⟨_,_,_,_,o,_,_,e,_⟩:=x;exact Ek e
 | dT kvs=>obtain ⟨_,_,_,_,o,_,_,e,_⟩:=x;exact Ek e
 | set S n=>obtain ⟨o,_,_,_,e,_⟩:=x;exact Ek e
 | ins C dx fs=>obtain ⟨_,_,_,e,_⟩:=x;exact Ek e
 | own y=>obtain ⟨_,e⟩:=x;exact Ek e
 | xd fs=>obtain ⟨_,⟨_,_,_,e,_⟩,_⟩:=x;exact Ek e
 | rng lo hi=>obtain ⟨_,_,_,e⟩:=x;exact Ek e
 | frz ob u=>obtain ⟨e,_⟩:=x;exact Ek e
 | tbl ps=>exact Ek (show h.get? a=some _ from x)
 | met f y=>exact Ek (show h.get? a=some _ from x)
 | ext φ=>obtain ⟨_,⟨_,e⟩,_⟩:=x;exact Ek e
theorem Paired.mapP {α β:Type} {F G:α->β->Prop}:∀ {d:List α} {c:List β},Paired F d c->(∀ a b,F a b->G a b)->Paired G d c
 | _,_,.nil,_=>.nil
 | _,_,.cons r t,f=>.cons (f _ _ r) (Paired.mapP t f)
theorem ObjOk.stay (x:ObjOk P w H h a o) (k:∀ b u,(b=a\/H b=some (.own a))->h.get? b=some u->h'.get? b=some u)
  (l:∀ b,H b=some (.own a)->H' b=some (.own a)) (s:∀ b xs,H b=some (.tup xs)->H' b=some (.tup xs)):ObjOk P w H' h' a o:=by
 induction o with
 | lst xs=>obtain ⟨z,its,n,r,e⟩:=x;exact ⟨z,its,n,r,k _ _ (.inl rfl) e⟩
 | tup xs=>obtain ⟨z,its,r,ob,e,c⟩:=x;exact ⟨z,its,r,ob,k _ _ (.inl rfl) e,c⟩
 | dK kvs=>obtain ⟨z,y,m,r,ob,es,g,e,c⟩:=x;exact ⟨z,y,m,r,ob,es,g,k _ _ (.inl rfl) e,c⟩
 | dT kvs =>
  obtain ⟨z,y,xs,r,ob,es,g,e,c⟩:=x
  exact ⟨z,y,xs,Paired.mapP r fun p q z=>⟨z.1,s _ _ z.2.1,z.2.2⟩,ob,es,g,k _ _ (.inl rfl) e,c⟩
 | set S n=>obtain ⟨ob,es,g,t,e,c⟩:=x;exact ⟨ob,es,g,t,k _ _ (.inl rfl) e,c⟩
 | ins C dx fs =>
  obtain ⟨d,z,ne,e,i,⟨j,es,g,A,c⟩,r⟩:=x
  exact ⟨l _ d,z,ne,k _ _ (.inl rfl) e,i,⟨j,es,g,k _ _ (.inr d) A,c⟩,r⟩
 | own y=>obtain ⟨ob,e⟩:=x;exact ⟨ob,k _ _ (.inl rfl) e⟩
 | xd fs=>obtain ⟨i,⟨j,es,g,e,c⟩,r⟩:=x;exact ⟨i,⟨j,es,g,k _ _ (.inl rfl) e,c⟩,r⟩
 | rng lo hi=>obtain ⟨t,u,v,e⟩:=x;exact ⟨t,u,v,k _ _ (.inl rfl) e⟩
 | frz ob u ih=>obtain ⟨e,q⟩:=x;exact ⟨k _ _ (.inl rfl) e,ih q⟩
 | tbl ps =>
  have e:h.get? a=some { cls:=.none,data:=.fields ps }:=x
  show h'.get? a=some { cls:=.none,data:=.fields ps }
  exact k a _ (.inl rfl) e
 | met f y =>
  have e:h.get? a=some (PySem.W.methodObj (.ref f) (.ref y)):=x
  show h'.get? a=some (PySem.W.methodObj (.ref f) (.ref y))
  exact k a _ (.inl rfl) e
 | ext φ=>obtain ⟨p,⟨o,e⟩,st⟩:=x;exact ⟨st _ _ p fun o q=>k _ _ (.inl rfl) q,⟨o,k _ _ (.inl rfl) e⟩,st⟩
theorem HOk.lt (x:HOk P w H h) (e:H a=some o):a < h.objs.size:=(x a o e).lt
theorem HOk.fresh (x:HOk P w H h) (e:h.objs.size<=a):H a=none:=by
 cases q:H a with
 | none=>rfl
 | some u=>exact absurd (EB (x.lt q) e) (Nat.lt_irrefl _)
theorem HOk.kept (x:HOk P w H h) (k:∀ b u,h.get? b=some u->h'.get? b=some u):HOk P w H h':=fun a o e =>
 (x a o e).stay (fun b u _ q=>k b u q) (fun _ q=>q) fun _ _ q=>q
theorem HOk.laid (x:HOk P w H h) (k:∀ b u,h.get? b=some u->h'.get? b=some u) (g:h.objs.size<=a) (new:ObjOk P w (upd H a o) h' a o):HOk P w (upd H a o) h':=fun b u e=>by
 have d:=x.fresh g
 by_cases f:b=a
 ·subst f;rw [aJ] at e;cases e;exact new
 ·rw [aw f] at e
  exact (x b u e).stay (fun c v _ q=>k c v q) (fun c q=>by rw [aw (aX q d)];exact q) fun c xs q=>by rw [aw (aX q d)];exact q
end
def Rd (H:Hp) (a:Addr) (u:HO):Prop:=H a=some u\/∃ o,H a=some (.frz o u)
theorem Rd.ok {P:Program} {w:World} {H:Hp} {h:Heap} {a:Addr} {u:HO} (r:Rd H a u) (x:HOk P w H h):ObjOk P w H h a u:=by
 rcases r with r | ⟨o,r⟩
 ·exact x a u r
 ·obtain ⟨_,q⟩:=x a _ r
  exact q
def Mut:Option HO->Prop
 | some (.lst _)=>True
 | some (.dK _)=>True
 | some (.dT _)=>True
 | some (.set _ _)=>True
 | some (.ins _ _ _)=>True
 | some (.ext _)=>True
 | _=>False
section
variable {P:Program} {w:World} {H:Hp} {h h':Heap} {x e:Addr} {o':HO}
theorem HOk.write (ok:HOk P w H h) (g:Mut (H x)) (he:e=x\/H e=some (.own x)) (k:∀ b u,b ≠ e->h.get? b=some u->h'.get? b=some u) (l:∃ u,h'.get? e=some u)
  (new:ObjOk P w (upd H x o') h' x o'):HOk P w (upd H x o') h':=fun b u q=>by
 have d:∀ c y,H c=some (.own y)->c ≠ x:=fun c y r z=>by subst z;rw [r] at g;exact g
 have f:∀ c xs,H c=some (.tup xs)->c ≠ x:=fun c xs r z=>by subst z;rw [r] at g;exact g
 by_cases i:b=x
 ·subst i;rw [aJ] at q;cases q;exact new
 ·rw [aw i] at q
  by_cases a:b=e
  ·have m:H b=some (.own x):=by
    rcases he with z | z
    ·exact absurd (a.trans z) i
    ·rw [a];exact z
   rw [q] at m;cases m
   obtain ⟨v,n⟩:=l
   exact ⟨v,by rw [a];exact n⟩
  ·refine (ok b u q).stay (fun c v j r=>k c v ?_ r) (fun c r=>by rw [aw (d c b r)];exact r) fun c xs r=>by rw [aw (f c xs r)];exact r
   rcases j with rfl | j
   ·exact a
   ·rintro rfl
    rcases he with z | z
    ·exact d c b j z
    ·rw [j] at z;cases z;exact i rfl
end
structure Un (fs ex:List Addr) (H H':Hp) (h h':Heap):Prop where
 keep:∀ b o,h.get? b=some o->H b=none->b ∉ fs->b ∉ ex->h'.get? b=some o
 slot:∀ b o,h.get? b=some o->H b=none->b ∈ fs->b ∉ ex->∃ sl,h'.get? b=some { o with slots:=sl }
 free:∀ b o,h.get? b=some o->H b=none->b ∉ ex->H' b=none
 there:∀ b o,h.get? b=some o->b ∉ ex->∃ o',h'.get? b=some o'
 tups:∀ b xs,H b=some (.tup xs)->H' b=some (.tup xs)
 frzs:∀ b o u,H b=some (.frz o u)->H' b=some (.frz o u)
 tbls:∀ b ps,H b=some (.tbl ps)->∃ more,H' b=some (.tbl (ps ++ more))
section
variable {fs fs' ex ex':List Addr} {H H1 H2:Hp} {h h1 h2 h':Heap} {a x e:Addr} {o:HO}
theorem Un.any (u:Un fs ex H H1 h h1) {b:Addr} {ob:Obj} (q:h.get? b=some ob) (n:H b=none) (a:b ∉ ex):∃ sl,h1.get? b=some { ob with slots:=sl }:=by
 by_cases c:b ∈ fs
 ·exact u.slot b ob q n c a
 ·exact ⟨ob.slots,u.keep b ob q n c a⟩
theorem Un.trans (a:Un fs ex H H1 h h1) (b:Un fs ex H1 H2 h1 h2):Un fs ex H H2 h h2 where
 keep:=fun c ob q n e d=>b.keep c ob (a.keep c ob q n e d) (a.free c ob q n d) e d
 slot:=fun c ob q n e d=>by
  obtain ⟨sl,e1⟩:=a.slot c ob q n e d
  obtain ⟨g,f⟩:=b.slot c _ e1 (a.free c ob q n d) e d
  exact ⟨g,f⟩
 free:=fun c ob q n d=>by
  obtain ⟨o',e1⟩:=a.there c ob q d
  exact b.free c o' e1 (a.free c ob q n d) d
 there:=fun c ob q d=>by
  obtain ⟨o',e1⟩:=a.there c ob q d
  exact b.there c o' e1 d
 tups:=fun c xs q=>b.tups c xs (a.tups c xs q)
 frzs:=fun c ob xs q=>b.frzs c ob xs (a.frzs c ob xs q)
 tbls:=fun c ps q=>by
  obtain ⟨j,e1⟩:=a.tbls c ps q
  obtain ⟨i,f⟩:=b.tbls c _ e1
  exact ⟨j ++ i,by rw [f,Array.append_assoc]⟩
theorem Un.kept (k:∀ b u,h.get? b=some u->h'.get? b=some u):Un fs ex H H h h' :=
 ⟨fun b ob q _ _ _=>k b ob q,fun b ob q _ _ _=>⟨ob.slots,k b ob q⟩,fun _ _ _ n _=>n,fun b ob q _=>⟨ob,k b ob q⟩,fun _ _ q=>q,fun _ _ _ q=>q,fun _ ps q=>⟨#[],by rw [q];simp⟩⟩
theorem Un.refl:Un fs ex H H h h:=Un.kept fun _ _ q=>q
theorem Un.laid (k:∀ b u,h.get? b=some u->h'.get? b=some u) (d:h.objs.size<=a) (c:H a=none):Un fs ex H (upd H a o) h h' where
 keep:=fun b u q _ _ _=>k b u q
 slot:=fun b u q _ _ _=>⟨u.slots,k b u q⟩
 free:=fun b u q n _=>by rw [aw (Ew (EB (Ek q) d))];exact n
 there:=fun b u q _=>⟨u,k b u q⟩
 tups:=fun b xs q=>by rw [aw (aX q c)];exact q
 frzs:=fun b u xs q=>by rw [aw (aX q c)];exact q
 tbls:=fun b ps q=>⟨#[],by rw [aw (aX q c),q];simp⟩
theorem Un.write (c:Mut (H x)) (he:e=x\/H e=some (.own x)) (k:∀ b u,b ≠ e->h.get? b=some u->h'.get? b=some u) (d:∃ u,h'.get? e=some u):Un fs ex H (upd H x o) h h':=by
 have f:∀ b,H b=none->b ≠ x:=fun b n z=>by subst z;rw [n] at c;exact c
 have g:∀ b,H b=none->b ≠ e:=fun b n z=>by
  subst z
  rcases he with r | r
  ·exact f b n r
  ·rw [n] at r;cases r
 have hm:∀ b u,H b=some u->¬ Mut (some u)->b ≠ x:=fun b u q nm z=>by subst z;rw [q] at c;exact nm c
 refine ⟨fun b u q n _ _=>k b u (g b n) q,fun b u q n _ _=>⟨u.slots,k b u (g b n) q⟩,fun b u q n _=>by rw [aw (f b n)];exact n,fun b u q _=>?_,
  fun b xs q=>by rw [aw (hm b _ q fun z=>z)];exact q,fun b u xs q=>by rw [aw (hm b _ q fun z=>z)];exact q,fun b ps q=>⟨#[],by rw [aw (hm b _ q fun z=>z),q];simp⟩⟩
 by_cases a:b=e
 ·subst a;exact d
 ·exact ⟨u,k b u a q⟩
end
def trk (h:Heap) (H:Hp):List Addr:=(List.range h.objs.size).filter fun a=>(H a).isSome
def oh (h:Heap) (H:Hp):Heap:=PySem.W.hideAll h (trk h H)
theorem vn (h:Heap) (H:Hp):(oh h H).objs.size=h.objs.size:=PySem.W.hideAll_size _ _
theorem yy {h:Heap} {H:Hp} {b:Addr} {o:Obj} (e:h.get? b=some o) (n:H b=none):(oh h H).get? b=some o :=
 PySem.W.hideAll_get _ e fun hm=>by
  have q:(H b).isSome=true:=(EL.mp hm).2
  rw [n] at q;simp at q
theorem Aq {h:Heap} {H:Hp} {b:Addr} {o:Obj} (e:(oh h H).get? b=some o):h.get? b=some o/\H b=none:=by
 have a:h.get? b=some o:=PySem.W.of_hideAll (trk h H) e
 refine ⟨a,?_⟩
 cases q:H b with
 | none=>rfl
 | some x =>
  have hm:b ∈ trk h H:=EL.mpr ⟨List.mem_range.mpr (Ek a),by simp [q]⟩
  have z:(oh h H).get? b=none:=PySem.W.hideAll_none (trk h H) hm
  rw [z] at e;cases e
def Bb (g h:Heap) (L:Addr):List (Addr × Obj):=(List.range h.objs.size).filterMap fun a=>if a=L\/(g.get? a).isSome=true then none else (h.get? a).map fun o=>(a,o)
def d5 (g h:Heap) (L d:Addr):List (Addr × Obj):=(Bb g h L).filter fun p=>decide (p.1 ≠ d)
end L2
namespace L2
open PySem PySem.Spec PyProof.Rows
structure Mod (K:FG) (mg:Str->Option Value) (base:Heap):Prop where
 kin:K.In base
 glob:base.Ns mainGlobals mg
 blt:∃ mb,base.Ns builtinsNs mb/\∀ x:Str,x ≠ "__name__"->mb x=bootBuiltins x
 nolimit:base.NoLimit
structure Cx where
 prog:Program
 w:World
 K:FG
 mg:Str->Option Value
 base:Heap
 A:Around
 N:List Str
 s₀:Shared
 H₀:Hp
 env:Env
 outer:List Env
 stack:List Env
 ex:List Addr
 fn:Str->Bool
 calm:Bool
 pn:List (Addr × Obj)
 xe:Value->Shared->Prop
def frs (l:List Env):List Addr:=l.filterMap (·.frame)
abbrev Cx.fs (X:Cx):List Addr:=frs X.outer
def Vis (sc:Scope) (x:Str):Prop:=sc.names.lookup x=some .local\/sc.names.lookup x=some .cell\/sc.names.lookup x=some .free
def Loc (sc:Scope) (x:Str):Prop:=sc.names.lookup x=some .local\/sc.names.lookup x=some .cell
def Look (env:Env) (h:Heap) (m:Str->Option Value) (x:Str) (u:Value):Prop :=
 (env.kindOf x=some .local/\m x=some u)\/((env.kindOf x=some .cell\/env.kindOf x=some .free)/\∃ c,env.cells.lookup x=some c/\h.IsCell c (some u))
structure Cx.Ok (X:Cx):Prop where
 mod:Mod X.K X.mg X.base
 kind:X.env.scope.kind=.function
 glob:X.env.globals=mainGlobals
 blt:X.env.builtins=builtinsNs
 above:X.s₀.heap.objs.size<=X.env.locals
 inj:∀ x y c,X.env.cells.lookup x=some c->X.env.cells.lookup y=some c->x=y
 has:∀ x,(X.env.kindOf x=some .cell\/X.env.kindOf x=some .free)->∃ c,X.env.cells.lookup x=some c
 cab:∀ x c,X.fn x=true->X.env.cells.lookup x=some c->X.s₀.heap.objs.size<=c
 hd:X.calm=true->X.A.handled=none
 frames:X.A.frames=some X.stack
 stk:X.stack=X.outer\/(X.stack=X.env :: X.outer/\X.env.frame=some X.env.locals)
 exf:∀ b ∈ X.ex,b ≠ X.env.locals/\∀ x c,X.env.cells.lookup x=some c->c ≠ b
 bs:∀ b o,X.base.get? b=some o->X.s₀.heap.get? b=some o/\X.H₀ b=none
 bsz:X.base.objs.size<=X.s₀.heap.objs.size
 noex:∀ b o,X.base.get? b=some o->b ∉ X.ex
 exfs:∀ b ∈ X.ex,b ∉ X.fs
 funs:X.s₀.heap.FunFrames X.base X.outer
 frf:∀ b ∈ X.fs,X.H₀ b=none
structure Inv (X:Cx) (pins:List (Addr × Obj)) (σ:List (Option V)) (H:Hp) (s:Shared):Prop where
 ok:X.Ok
 os:s.os=X.s₀.os
 bare:AllBare s.gens
 base:Un X.fs X.ex X.H₀ H X.s₀.heap s.heap
 loc:∃ m,s.heap.Ns X.env.locals m/\∀ (i:Nat) (x:Str) (v:V),X.N[i]?=some x->σ[i]?=some (some v)->Vis X.env.scope x->∃ u,RelV v u/\Look X.env s.heap m x u
 cell:∀ x c,X.env.cells.lookup x=some c->∃ v,s.heap.IsCell c v
 free:H X.env.locals=none
 freeC:∀ x c,X.env.cells.lookup x=some c->H c=none
 pin:∀ p ∈ X.pn ++ pins,s.heap.get? p.1=some p.2/\H p.1=none/\p.1 ≠ X.env.locals/\p.1 ∉ X.fs/\∀ v,p.2.data ≠ .cell v
 hok:HOk X.prog X.w H s.heap
 len:σ.length=X.N.length
section
variable {X:Cx} {pins:List (Addr × Obj)} {σ:List (Option V)} {H H':Hp} {s:Shared} {h':Heap}
theorem Cx.Ok.nofr (ok:X.Ok) {b:Addr} {o:Obj} (e:X.base.get? b=some o):b ∉ X.fs:=fun a=>by
 have:=(ok.funs.mem a).1
 rw [e] at this;cases this
theorem Inv.bs (I:Inv X pins σ H s):∀ b o,X.base.get? b=some o->s.heap.get? b=some o/\H b=none:=fun b o e =>
 ⟨I.base.keep b o (I.ok.bs b o e).1 (I.ok.bs b o e).2 (I.ok.nofr e) (I.ok.noex b o e),I.base.free b o (I.ok.bs b o e).1 (I.ok.bs b o e).2 (I.ok.noex b o e)⟩
theorem Inv.bk (I:Inv X pins σ H s):∀ b o,X.base.get? b=some o->s.heap.get? b=some o:=fun b o e=>(I.bs b o e).1
theorem Inv.mod (I:Inv X pins σ H s):Mod X.K X.mg X.base:=I.ok.mod
theorem Inv.kIn (I:Inv X pins σ H s):X.K.In s.heap:=I.ok.mod.kin.keeps I.bk
theorem Inv.lt (I:Inv X pins σ H s):X.env.locals < s.heap.objs.size:=let ⟨_,a,_⟩:=I.loc;a.lt
theorem Inv.sz (I:Inv X pins σ H s):X.s₀.heap.objs.size<=s.heap.objs.size:=ES I.ok.above (Nat.le_of_lt I.lt)
theorem Inv.nofs (I:Inv X pins σ H s) {a:Addr} (h:s.heap.objs.size<=a):a ∉ X.fs:=fun c=>by
 obtain ⟨_,o,b,_⟩:=I.ok.funs.mem c
 exact absurd (EB (Ek b) (ES I.sz h)) (Nat.lt_irrefl _)
theorem Inv.cne (I:Inv X pins σ H s):∀ x c,X.env.cells.lookup x=some c->c ≠ X.env.locals:=fun x c e z=>by
 obtain ⟨v,o,d,hd⟩:=I.cell x c e
 obtain ⟨m,⟨o',es,f,a,b,_⟩,_⟩:=I.loc
 rw [z,a] at d;cases d;rw [b] at hd;cases hd
theorem Inv.funs (I:Inv X pins σ H s):s.heap.FunFrames X.base X.outer:=by
 have all:∀ (l:List Env),(∀ b ∈ frs l,b ∈ X.fs)->X.s₀.heap.FunFrames X.base l->s.heap.FunFrames X.base l:=by
  intro l
  induction l with
  | nil=>intro _ _;trivial
  | cons env r ih =>
   intro d f
   obtain ⟨i,⟨L,o,hf,j,g,hd⟩,h⟩:=f
   have a:L ∈ X.fs:=d L (by unfold frs;rw [List.filterMap_cons,hf];exact Ec)
   obtain ⟨sl,e⟩:=I.base.slot L o g (I.ok.frf L a) a fun z=>I.ok.exfs L z a
   exact ⟨i,⟨L,_,hf,j,e,hd⟩,ih (fun b c=>d b (by unfold frs;rw [List.filterMap_cons,hf];exact Ed _ c)) h⟩
 exact all X.outer (fun _ c=>c) I.ok.funs
theorem Inv.stack (I:Inv X pins σ H s):s.heap.FunFrames X.base X.stack:=by
 rcases I.ok.stk with e | ⟨e,hf⟩
 ·rw [e];exact I.funs
 ·rw [e]
  obtain ⟨m,a,_⟩:=I.loc
  refine .cons (by rw [I.ok.kind];decide) hf a ?_ I.funs
  exact Heap.get?_none_of_le (ES I.ok.bsz I.ok.above)
theorem Inv.stkSub (I:Inv X pins σ H s):∀ b ∈ frs X.stack,b ∈ X.env.locals :: X.fs:=fun b a=>by
 rcases I.ok.stk with e | ⟨e,hf⟩
 ·rw [e] at a;exact Ed _ a
 ·rw [e] at a
  unfold frs at a
  rw [List.filterMap_cons,hf] at a
  exact a
theorem Inv.stkFree (I:Inv X pins σ H s):∀ b ∈ frs X.stack,H b=none:=fun b a=>by
 rcases Ei.mp (I.stkSub b a) with e | a
 ·rw [e];exact I.free
 ·obtain ⟨_,o,c,_⟩:=I.ok.funs.mem a
  exact I.base.free b o c (I.ok.frf b a) fun z=>I.ok.exfs b z a
theorem Inv.step {g':Array GenState} {t':Nat} {d':Drawn} {ch:List Addr} (I:Inv X pins σ H s)
  (f:∀ b ∈ ch,(b ∈ X.ex\/X.s₀.heap.objs.size<=b)/\b ≠ X.env.locals/\(∀ x c,X.env.cells.lookup x=some c->c ≠ b)/\∀ p ∈ X.pn ++ pins,p.1 ≠ b)
  (keep:∀ b o,b ≠ X.env.locals->b ∉ X.fs->b ∉ ch->s.heap.get? b=some o->H b=none->h'.get? b=some o)
  (slot:∀ b o,b ≠ X.env.locals->b ∈ X.fs->b ∉ ch->s.heap.get? b=some o->H b=none->∃ sl,h'.get? b=some { o with slots:=sl }) (free:∀ b o,b ∉ ch->s.heap.get? b=some o->H b=none->H' b=none)
  (there:∀ b o,b ∉ ch->s.heap.get? b=some o->∃ o',h'.get? b=some o')
  (tups:∀ b xs,H b=some (.tup xs)->H' b=some (.tup xs)) (frzs:∀ b o u,H b=some (.frz o u)->H' b=some (.frz o u)) (tbls:∀ b ps,H b=some (.tbl ps)->∃ more,H' b=some (.tbl (ps ++ more)))
  (ns:∀ m,s.heap.Ns X.env.locals m->h'.Ns X.env.locals m) (hok:HOk X.prog X.w H' h') (J:AllBare g') :
  Inv X pins σ H' { s with heap:=h',gens:=g',drawn:=d',toks:=t' }:=by
 have y:∀ b o,X.s₀.heap.get? b=some o->b ≠ X.env.locals:=fun b o e=>Ew (EB (Ek e) I.ok.above)
 have h:∀ b o,X.s₀.heap.get? b=some o->b ∉ X.ex->b ∉ ch:=fun b o e a j=>by
  rcases (f b j).1 with z | z
  ·exact a z
  ·exact absurd (EB (Ek e) z) (Nat.lt_irrefl _)
 have cellK:∀ x c,X.env.cells.lookup x=some c->∀ v,s.heap.IsCell c v->h'.IsCell c v:=fun x c e v ⟨o,t,hd⟩=>by
  have g:c ∉ ch:=fun z=>(f c z).2.2.1 x c e rfl
  by_cases D:c ∈ X.fs
  ·obtain ⟨sl,q⟩:=slot c o (I.cne x c e) D g t (I.freeC x c e)
   exact ⟨_,q,hd⟩
  ·exact ⟨o,keep c o (I.cne x c e) D g t (I.freeC x c e),hd⟩
 refine ⟨I.ok,I.os,J,⟨fun b o e n j a=>?_,fun b o e n j a=>?_,fun b o e n a=>?_,fun b o e a=>?_,fun b xs e=>tups b xs (I.base.tups b xs e),fun b o xs e=>frzs b o xs (I.base.frzs b o xs e),fun b ps e=>?_⟩,?_,fun x c e=>?_,?_,fun x c e=>?_,fun p E=>?_,hok,I.len⟩
 ·exact keep b o (y b o e) j (h b o e a) (I.base.keep b o e n j a) (I.base.free b o e n a)
 ·obtain ⟨sl,e1⟩:=I.base.slot b o e n j a
  obtain ⟨B,A⟩:=slot b _ (y b o e) j (h b o e a) e1 (I.base.free b o e n a)
  exact ⟨B,A⟩
 ·obtain ⟨o',e1⟩:=I.base.there b o e a
  exact free b o' (h b o e a) e1 (I.base.free b o e n a)
 ·obtain ⟨o',e1⟩:=I.base.there b o e a
  exact there b o' (h b o e a) e1
 ·obtain ⟨G,e1⟩:=I.base.tbls b ps e
  obtain ⟨M,A⟩:=tbls b _ e1
  exact ⟨G ++ M,by rw [A,Array.append_assoc]⟩
 ·obtain ⟨m,K,F⟩:=I.loc
  refine ⟨m,ns m K,fun i x v e1 A L=>?_⟩
  obtain ⟨u,r,l⟩:=F i x v e1 A L
  refine ⟨u,r,?_⟩
  rcases l with l | ⟨k,c,e,z⟩
  ·exact .inl l
  ·exact .inr ⟨k,c,e,cellK x c e _ z⟩
 ·obtain ⟨v,z⟩:=I.cell x c e
  exact ⟨v,cellK x c e v z⟩
 ·obtain ⟨m,⟨o,_,_,t,_⟩,_⟩:=I.loc
  exact free _ o (fun z=>(f _ z).2.1 rfl) t I.free
 ·obtain ⟨v,o,t,hd⟩:=I.cell x c e
  exact free c o (fun z=>(f c z).2.2.1 x c e rfl) t (I.freeC x c e)
 ·obtain ⟨e,n,ne,C,d⟩:=I.pin p E
  have g:p.1 ∉ ch:=fun z=>(f p.1 z).2.2.2 p E rfl
  exact ⟨keep p.1 p.2 ne C g e n,free p.1 p.2 g e n,ne,C,d⟩
theorem Inv.un {t':Nat} (I:Inv X pins σ H s) (u:Un X.fs [] H H' s.heap h') (hok:HOk X.prog X.w H' h'):Inv X pins σ H' { s with heap:=h',toks:=t' }:=by
 obtain ⟨m,⟨o,es,k,g,r⟩,_⟩:=id I.loc
 obtain ⟨sl,h⟩:=u.any g I.free (by simp)
 exact I.step (g':=s.gens) (d':=s.drawn) (ch:=[]) (fun _ z=>nomatch z) (fun b o _ f _ e n=>u.keep b o e n f (by simp)) (fun b o _ f _ e n=>u.slot b o e n f (by simp)) (fun b o _ e n=>u.free b o e n (by simp)) (fun b o _ e=>u.there b o e (by simp)) u.tups u.frzs u.tbls (fun j hm=>by
  obtain ⟨o',c,d,a,i⟩:=hm
  rw [g] at a;cases a
  exact ⟨_,c,d,h,i⟩) hok I.bare
theorem Inv.call {g':Array GenState} {t':Nat} {d':Drawn} {ch:List Addr} (I:Inv X pins σ H s) (u:Un (frs X.stack) ch H H' s.heap h') (hok:HOk X.prog X.w H' h') (q:AllBare g')
  (f:∀ b ∈ ch,(b ∈ X.ex\/X.s₀.heap.objs.size<=b)/\b ≠ X.env.locals/\(∀ x c,X.env.cells.lookup x=some c->c ≠ b)/\∀ p ∈ X.pn ++ pins,p.1 ≠ b) :
  Inv X pins σ H' { s with heap:=h',gens:=g',drawn:=d',toks:=t' }:=by
 obtain ⟨m,⟨o,es,v,j,r⟩,_⟩:=id I.loc
 obtain ⟨sl,i⟩:=u.any j I.free fun z=>(f _ z).2.1 rfl
 exact I.step (ch:=ch) f (fun b o i l a e n=>u.keep b o e n (fun z=>(Ei.mp (I.stkSub b z)).elim i l) a) (fun b o _ _ a e n=>u.any e n a) (fun b o a e n=>u.free b o e n a) (fun b o a e=>u.there b o e a) u.tups u.frzs u.tbls (fun t hm=>by
  obtain ⟨o',g,h,d,k⟩:=hm
  rw [j] at d;cases d
  exact ⟨_,g,h,i,k⟩) hok q
theorem Inv.turned {t':Nat} {it:Addr} (I:Inv X pins σ H s) (k:∀ b o,b ≠ it->s.heap.get? b=some o->h'.get? b=some o) (i:H it=none) (f:it ≠ X.env.locals)
  (h1:it ∈ X.ex\/X.s₀.heap.objs.size<=it) (h2:∀ x c,X.env.cells.lookup x=some c->c ≠ it) (h3:∀ p ∈ X.pn ++ pins,p.1 ≠ it):Inv X pins σ H { s with heap:=h',toks:=t' }:=by
 have d:∀ b u,H b=some u->b ≠ it:=fun b u e z=>by rw [z,i] at e;cases e
 refine I.step (g':=s.gens) (d':=s.drawn) (ch:=[it]) (fun b g=>?_) (fun b o _ _ a e _=>k b o (fun z=>a (by simp [z])) e) (fun b o _ _ a e _=>⟨o.slots,k b o (fun z=>a (by simp [z])) e⟩) (fun _ _ _ _ n=>n)
  (fun b o a e=>⟨o,k b o (fun z=>a (by simp [z])) e⟩) (fun _ _ e=>e) (fun _ _ _ e=>e) (fun b ps e=>⟨#[],by rw [e];simp⟩) (fun m hm=>?_) (fun b u e=>?_) I.bare
 ·have e:b=it:=by simpa using g
  subst e
  exact ⟨h1,f,h2,h3⟩
 ·obtain ⟨o,es,j,h,r⟩:=hm
  exact ⟨o,es,j,k _ o (Ne.symm f) h,r⟩
 ·refine (I.hok b u e).stay (fun c v a q=>k c v ?_ q) (fun _ q=>q) fun _ _ q=>q
  rcases a with z | z
  ·rw [z];exact d b u e
  ·exact d c _ z
theorem Inv.tok (I:Inv X pins σ H s) (t:Nat):Inv X pins σ H { s with toks:=t }:=I.un (h':=s.heap) (t':=t) Un.refl I.hok
theorem Inv.kept {t':Nat} (I:Inv X pins σ H s) (k:∀ b u,s.heap.get? b=some u->h'.get? b=some u):Inv X pins σ H { s with heap:=h',toks:=t' }:=I.un (Un.kept k) (I.hok.kept k)
theorem Inv.laid {a:Addr} {o:HO} {t':Nat} (I:Inv X pins σ H s) (k:∀ b u,s.heap.get? b=some u->h'.get? b=some u) (c:s.heap.objs.size<=a) (new:ObjOk X.prog X.w (upd H a o) h' a o) :
  Inv X pins σ (upd H a o) { s with heap:=h',toks:=t' }:=I.un (Un.laid k c (I.hok.fresh c)) (I.hok.laid k c new)
theorem Inv.write {x e:Addr} {o:HO} {t':Nat} (I:Inv X pins σ H s) (c:Mut (H x)) (he:e=x\/H e=some (.own x)) (k:∀ b u,b ≠ e->s.heap.get? b=some u->h'.get? b=some u) (a:∃ u,h'.get? e=some u)
  (new:ObjOk X.prog X.w (upd H x o) h' x o):Inv X pins σ (upd H x o) { s with heap:=h',toks:=t' }:=I.un (Un.write c he k a) (I.hok.write c he k a new)
theorem Inv.pins_of {pins':List (Addr × Obj)} (I:Inv X pins σ H s) (h:∀ p ∈ pins',s.heap.get? p.1=some p.2/\H p.1=none/\p.1 ≠ X.env.locals/\p.1 ∉ X.fs/\∀ v,p.2.data ≠ .cell v):Inv X pins' σ H s :=
 ⟨I.ok,I.os,I.bare,I.base,I.loc,I.cell,I.free,I.freeC,fun p a=>(El.mp a).elim (fun z=>I.pin p (Eg _ z)) (h p),I.hok,I.len⟩
theorem pI {N:List Str} (c:N.Nodup) {i j:Nat} {x:Str} (a:N[i]?=some x) (b:N[j]?=some x):i=j:=by
 obtain ⟨h1,e1⟩:=Eo.mp a
 obtain ⟨h2,d⟩:=Eo.mp b
 exact (List.getElem_inj c).mp (e1.trans d.symm)
theorem mf {M:Model} {A:Around} {E:Value->Shared->Prop} {i:Nat} {x:Str} {v:V} {u:Value} {Q:Unit->Shared->Prop} (I:Inv X pins σ H s) (hN:X.N.Nodup) (hi:X.N[i]?=some x) (t:Loc X.env.scope x) (r:RelV v u)
  (h:∀ s',Inv X pins (σ.set i (some v)) H s'->(∃ a,Heap.SameBut a s.heap s'.heap/\(a=X.env.locals\/X.env.cells.lookup x=some a))->Q () s') (hf:X.fn x=true\/X.env.scope.names.lookup x=some .local:=by first | exact .inl rfl | exact .inr rfl | assumption):wpAny M A (storeName X.env x u) Q E s:=by
 obtain ⟨m,hn,hl⟩:=id I.loc
 have L:(X.env.scope.kind == .class || (X.env.scope.kind == .module && X.env.locals != X.env.globals))=false:=by rw [I.ok.kind];rfl
 have hiσ:i < σ.length:=by rw [I.len];exact (Eo.mp hi).1
 have cne:=I.cne
 have g:∀ {a:Addr} {h':Heap},(∃ o,s.heap.get? a=some o/\H a=none)->Heap.SameBut a s.heap h'->HOk X.prog X.w H h':=fun {a h'} ha f b ob e=>by
  obtain ⟨_,_,B⟩:=ha
  refine (I.hok b ob e).stay (fun c T l q=>(f.2 c ?_).trans q) (fun _ q=>q) fun _ _ q=>q
  rintro rfl
  rcases l with rfl | l
  ·rw [B] at e;cases e
  ·rw [B] at l;cases l
 rcases t with D | D
 ·refine wpAny_storeName_local D hn (fun h' ab f=>?_) L
  obtain ⟨oL,_,_,W,_⟩:=id hn
  refine h _ ⟨I.ok,I.os,I.bare,⟨fun b o e n F t=>?_,fun b o e n F t=>?_,I.base.free,fun b o e t=>?_,I.base.tups,I.base.frzs,I.base.tbls⟩,⟨_,ab,fun j y Y e1 C e3=>?_⟩,fun y c e=>?_,I.free,I.freeC,fun p hp=>?_,g ⟨oL,W,I.free⟩ f,by simpa using I.len⟩ ⟨_,f,.inl rfl⟩
  ·exact (f.2 b (Ew (EB (Ek e) I.ok.above))).trans (I.base.keep b o e n F t)
  ·obtain ⟨sl,e1⟩:=I.base.slot b o e n F t
   exact ⟨sl,(f.2 b (Ew (EB (Ek e) I.ok.above))).trans e1⟩
  ·obtain ⟨o',e1⟩:=I.base.there b o e t
   exact ⟨o',(f.2 b (Ew (EB (Ek e) I.ok.above))).trans e1⟩
  ·by_cases G:j=i
   ·subst G
    rw [hi] at e1;cases e1
    rw [List.getElem?_set_self hiσ] at C
    cases C
    exact ⟨u,r,.inl ⟨D,by simp⟩⟩
   ·rw [List.getElem?_set_ne (Ne.symm G)] at C
    obtain ⟨U,Z,q⟩:=hl j y Y e1 C e3
    refine ⟨U,Z,?_⟩
    rcases q with ⟨k,e⟩ | ⟨k,c,e,z⟩
    ·refine .inl ⟨k,?_⟩
     have:y ≠ x:=fun e=>G (pI hN e1 (e ▸ hi))
     simp [this,e]
    ·exact .inr ⟨k,c,e,z.sameBut f (cne y c e)⟩
  ·obtain ⟨T,z⟩:=I.cell y c e
   exact ⟨T,z.sameBut f (cne y c e)⟩
  ·obtain ⟨e,n,ne,nf,d⟩:=I.pin p hp
   exact ⟨(f.2 p.1 ne).trans e,n,ne,nf,d⟩
 ·have J:X.fn x=true:=by
   rcases hf with z | z
   ·exact z
   ·rw [z] at D;cases D
  obtain ⟨c,l⟩:=I.ok.has x (.inl D)
  obtain ⟨T,z⟩:=I.cell x c l
  refine wpAny_storeName_cell I.ok.kind D l z (fun h' K f=>?_)
  obtain ⟨oc,R,O⟩:=id z
  refine h { s with heap:=h' } ⟨I.ok,I.os,I.bare,⟨fun b o e n F t=>?_,fun b o e n F t=>?_,I.base.free,fun b o e t=>?_,I.base.tups,I.base.frzs,I.base.tbls⟩,⟨m,hn.sameBut f (Ne.symm (cne x c l)),fun j y Y e1 C e3=>?_⟩,fun y S e=>?_,I.free,I.freeC,fun p hp=>?_,g ⟨oc,R,I.freeC x c l⟩ f,by simpa using I.len⟩ ⟨c,f,.inr l⟩
  ·exact (f.2 b (Ew (EB (Ek e) (I.ok.cab x c J l)))).trans (I.base.keep b o e n F t)
  ·obtain ⟨sl,e1⟩:=I.base.slot b o e n F t
   exact ⟨sl,(f.2 b (Ew (EB (Ek e) (I.ok.cab x c J l)))).trans e1⟩
  ·obtain ⟨o',e1⟩:=I.base.there b o e t
   exact ⟨o',(f.2 b (Ew (EB (Ek e) (I.ok.cab x c J l)))).trans e1⟩
  ·by_cases G:j=i
   ·subst G
    rw [hi] at e1;cases e1
    rw [List.getElem?_set_self hiσ] at C
    cases C
    exact ⟨u,r,.inr ⟨.inl D,c,l,K⟩⟩
   ·rw [List.getElem?_set_ne (Ne.symm G)] at C
    obtain ⟨U,Z,q⟩:=hl j y Y e1 C e3
    refine ⟨U,Z,?_⟩
    rcases q with q | ⟨k,S,e,z'⟩
    ·exact .inl q
    ·refine .inr ⟨k,S,e,z'.sameBut f ?_⟩
     rintro rfl
     exact G (pI hN e1 (I.ok.inj _ _ _ e l ▸ hi))
  ·by_cases P:S=c
   ·subst P;exact ⟨_,K⟩
   ·obtain ⟨w2,z2⟩:=I.cell y S e
    exact ⟨w2,z2.sameBut f P⟩
  ·obtain ⟨e,n,ne,nf,d⟩:=I.pin p hp
   refine ⟨(f.2 p.1 ?_).trans e,n,ne,nf,d⟩
   intro q
   rw [q,R] at e
   have q':oc=p.2:=EW e
   exact d T (by rw [<- q'];exact O)
theorem oW {M:Model} {A:Around} {E:Value->Shared->Prop} {i:Nat} {x:Str} {v:V} {u:Value} {Q:Unit->Shared->Prop} (I:Inv X pins σ H s) (b:X.N.Nodup) (hi:X.N[i]?=some x) (a:Loc X.env.scope x) (r:RelV v u)
  (h:∀ s',Inv X pins (σ.set i (some v)) H s'->Q () s') (hf:X.fn x=true\/X.env.scope.names.lookup x=some .local:=by first | exact .inl rfl | exact .inr rfl | assumption):wpAny M A (storeName X.env x u) Q E s :=
 mf I b hi a r (fun s' c _=>h s' c) hf
theorem Inv.call' {s':Shared} {ch:List Addr} (I:Inv X pins σ H s) (d:s'.os=s.os) (u:Un (frs X.stack) ch H H' s.heap s'.heap) (hok:HOk X.prog X.w H' s'.heap) (f:AllBare s'.gens)
  (a:∀ b ∈ ch,(b ∈ X.ex\/X.s₀.heap.objs.size<=b)/\b ≠ X.env.locals/\(∀ x c,X.env.cells.lookup x=some c->c ≠ b)/\∀ p ∈ X.pn ++ pins,p.1 ≠ b):Inv X pins σ H' s':=by
 obtain ⟨h',g',d',t',o'⟩:=s'
 have e:o'=s.os:=d
 subst e
 exact I.call (g':=g') (t':=t') (d':=d') u hok f a
end
abbrev XK:=Value->Option Addr->Hp->Prop
abbrev St:=List (Option V)
abbrev VK:=V->Hp->Prop
abbrev TE:=St->Hp->VK->Prop
abbrev TT:=St->Hp->(Bool->Hp->Prop)->Prop
abbrev TA:=St->Hp->(List V->Hp->Prop)->Prop
structure Ends where
 nx:St->Hp->Prop
 rt:VK
 bk:St->Hp->Prop:=fun _ _=>False
 ct:St->Hp->Prop:=fun _ _=>False
abbrev TS:=Ends->St->Hp->Prop
def EP (X:Cx) (pins:List (Addr × Obj)) (σ:St) (Q:VK) (u:Value) (s':Shared):Prop:=∃ v H',Inv X pins σ H' s'/\RelV v u/\Q v H'
def TP (X:Cx) (pins:List (Addr × Obj)) (σ:St) (Q:Bool->Hp->Prop) (b:Bool) (s':Shared):Prop:=∃ H',Inv X pins σ H' s'/\Q b H'
def AP (X:Cx) (pins:List (Addr × Obj)) (σ:St) (Q:List V->Hp->Prop) (us:List Value) (s':Shared):Prop:=∃ a H',Inv X pins σ H' s'/\Vals a us/\Q a H'
def SP (X:Cx) (pins:List (Addr × Obj)) (D:Ends) (f:Flow) (s':Shared):Prop :=
 match f with
 | .next=>∃ σ' H',Inv X pins σ' H' s'/\D.nx σ' H'
 | .brk=>∃ σ' H',Inv X pins σ' H' s'/\D.bk σ' H'
 | .cont=>∃ σ' H',Inv X pins σ' H' s'/\D.ct σ' H'
 | .ret u=>∃ v σ' H',Inv X pins σ' H' s'/\RelV v u/\D.rt v H'
def PE (X:Cx) (e:Expr) (t:TE):Prop :=
 ∀ (pins:List (Addr × Obj)) (s:Shared) (σ:St) (H:Hp) (Q:VK),Inv X pins σ H s->t σ H Q->wpAny (model X.prog X.w) X.A (eval e X.env) (EP X pins σ Q) X.xe s
def PT (X:Cx) (e:Expr) (t:TT):Prop :=
 ∀ (pins:List (Addr × Obj)) (s:Shared) (σ:St) (H:Hp) (Q:Bool->Hp->Prop),Inv X pins σ H s->t σ H Q->wpAny (model X.prog X.w) X.A (isTrue e X.env (eval e X.env)) (TP X pins σ Q) X.xe s
def PW (X:Cx) (e:Expr) (t:TT):Prop :=
 ∀ (whole:Sem Value) (pins:List (Addr × Obj)) (s:Shared) (σ:St) (H:Hp) (Q:Bool->Hp->Prop),Inv X pins σ H s->t σ H Q->wpAny (model X.prog X.w) X.A (isTrue e X.env whole) (TP X pins σ Q) X.xe s
theorem PW.pt {X:Cx} {e:Expr} {t:TT} (h:PW X e t):PT X e t:=h _
def PA (X:Cx) (es:List Expr) (t:TA):Prop :=
 ∀ (pos:Pos) (pins:List (Addr × Obj)) (s:Shared) (σ:St) (H:Hp) (Q:List V->Hp->Prop),Inv X pins σ H s->t σ H Q->wpAny (model X.prog X.w) X.A (spliced (backTo pos (starEach es X.env))) (AP X pins σ Q) X.xe s
def PS (X:Cx) (st:Stmt) (t:TS):Prop :=
 ∀ (pins:List (Addr × Obj)) (s:Shared) (σ:St) (H:Hp) (D:Ends),Inv X pins σ H s->t D σ H->wpAny (model X.prog X.w) X.A (exec st X.env) (SP X pins D) X.xe s
def PSs (X:Cx) (st:List Stmt) (t:TS):Prop :=
 ∀ (pins:List (Addr × Obj)) (s:Shared) (σ:St) (H:Hp) (D:Ends),Inv X pins σ H s->t D σ H->wpAny (model X.prog X.w) X.A (execs st X.env) (SP X pins D) X.xe s
theorem thn {α:Type} {t:Sem α} {Q b:α->Shared->Prop} {M:Model} {A:Around} {E:Value->Shared->Prop} {s:Shared} (h:wpAny M A t Q E s) (c:∀ a s,Q a s->b a s):wpAny M A t b E s:=wpAny_mono h c fun _ _ x=>x
end L2
namespace L2
open PySem PySem.Spec PyProof.Rows
section
variable {X:Cx}
theorem bin {a b:Expr} {ta tb:TE} (j:PE X a ta) (i:PE X b tb) {pins:List (Addr × Obj)} {s:Shared} {σ:St} {H:Hp} {R:V->V->Hp->Prop} (I:Inv X pins σ H s) (h:ta σ H fun x H1=>tb σ H1 fun y H2=>R x y H2)
  {α:Type} {Q:α->Shared->Prop} {f:Value->Value->Sem α}
  (hf:∀ v u s2 x y H2,Inv X pins σ H2 s2->RelV x v->RelV y u->R x y H2->wpAny (model X.prog X.w) X.A (f v u) Q X.xe s2) :
  wpAny (model X.prog X.w) X.A (eval a X.env) (fun v l=>wpAny (model X.prog X.w) X.A (eval b X.env) (fun u d=>wpAny (model X.prog X.w) X.A (f v u) Q X.xe d) X.xe l) X.xe s:=by
 refine thn (j pins s σ H _ I h) fun v s1 ⟨x,H1,n,g,e⟩=>?_
 refine thn (i pins s1 σ H1 _ n e) fun u s2 ⟨y,H2,c,k,m⟩=>?_
 exact hf v u s2 x y H2 c g k m
def uy (i:Nat):TE:=fun σ H Q=>∃ v,σ[i]?=some (some v)/\Q v H
def tC (v:V):TE:=fun _ H Q=>Q v H
theorem nJ {i:Nat} {x:Str} {pos:Pos} (n:X.N[i]?=some x) (j:Vis X.env.scope x) (hd:(x == ("__debug__":Str))=false:=by decide) (d:(x == ("__classdict__":Str))=false:=by decide):PE X (.Name x pos) (uy i):=by
 intro pins s σ H Q I h
 obtain ⟨v,e,h⟩:=h
 obtain ⟨m,k,g⟩:=I.loc
 obtain ⟨u,r,l⟩:=g i x v n e j
 have fin:EP X pins σ Q u s:=⟨v,H,I,r,h⟩
 rcases l with ⟨b,hm⟩ | ⟨b,c,f,a⟩
 ·exact wpAny_Name (wpAny_loadName_local I.ok.kind b k hm fin) hd
 ·rcases b with b | b
  ·exact wpAny_Name (wpAny_loadName_cell I.ok.kind b f a fin) hd
  ·exact wpAny_Name (wpAny_loadName_free I.ok.kind b f a fin d) hd
theorem nK {i j pos}:PE X (.Constant (.int i) j pos) (tC (.int i)):=fun _ _ _ H _ I h=>wpAny_Constant_int ⟨.int i,H,I.tok _,⟨_,rfl⟩,h⟩
theorem pe_bl {b j pos}:PE X (.Constant (.bool b) j pos) (tC (.bl b)):=fun _ _ _ H _ I h=>Constant_bool ⟨.bl b,H,I,rfl,h⟩
theorem CW {j pos}:PE X (.Constant .none j pos) (tC .non):=fun _ _ _ H _ I h=>Constant_none ⟨.non,H,I,rfl,h⟩
theorem xy {x j pos}:PE X (.Constant (.str x) j pos) (tC (.str x)):=fun _ _ _ H _ I h=>Calls.Constant_str ⟨.str x,H,I.tok _,⟨_,rfl⟩,h⟩
def Gl (X:Cx) (x:Str):Prop:=X.env.kindOf x=some .globalImplicit
theorem tO {E:Value->Shared->Prop} {pins:List (Addr × Obj)} {s:Shared} {σ:St} {H:Hp} {x:Str} {u:Value} {pos:Pos} {Q:Value->Shared->Prop} (I:Inv X pins σ H s) (a:Gl X x) (hm:X.mg x=some u) (h:Q u s)
  (hd:(x == ("__debug__":Str))=false:=by decide):wpAny (model X.prog X.w) X.A (eval (.Name x pos) X.env) Q E s :=
 Calls.Name_function_global I.ok.kind a (Calls.loadGlobal_global (by rw [I.ok.glob];exact I.mod.glob.keeps I.bk) hm h) hd
theorem jJ {E:Value->Shared->Prop} {pins:List (Addr × Obj)} {s:Shared} {σ:St} {H:Hp} {x:Str} {u:Value} {pos:Pos} {Q:Value->Shared->Prop} (I:Inv X pins σ H s) (b:Gl X x) (hm:X.mg x=none) (c:bootBuiltins x=some u) (h:Q u s)
  (a:x ≠ "__name__":=by decide) (hd:(x == ("__debug__":Str))=false:=by decide):wpAny (model X.prog X.w) X.A (eval (.Name x pos) X.env) Q E s:=by
 obtain ⟨mb,h1,h2⟩:=I.mod.blt
 exact Calls.Name_function_global I.ok.kind b (Calls.loadGlobal_builtin (by rw [I.ok.glob];exact I.mod.glob.keeps I.bk) hm (by rw [I.ok.blt];exact h1.keeps I.bk) ((h2 x a).trans c) h) hd
theorem Ak {x:Str} {v:V} {u:Value} {pos:Pos} (a:Gl X x) (hm:X.mg x=some u) (r:RelV v u) (hd:(x == ("__debug__":Str))=false:=by decide):PE X (.Name x pos) (tC v) :=
 fun _ _ _ H _ I h=>tO I a hm ⟨v,H,I,r,h⟩ hd
theorem nM {x:Str} {v:V} {u:Value} {pos:Pos} (b:Gl X x) (hm:X.mg x=none) (c:bootBuiltins x=some u) (r:RelV v u) (a:x ≠ "__name__":=by decide) (hd:(x == ("__debug__":Str))=false:=by decide):PE X (.Name x pos) (tC v) :=
 fun _ _ _ H _ I h=>jJ I b hm c ⟨v,H,I,r,h⟩ a hd
variable {a b:Expr} {ta tb:TE} {pos:Pos}
def PC (X:Cx) (op:CmpOp) (a b:Expr) (t:TE):Prop :=
 ∀ (pins:List (Addr × Obj)) (s:Shared) (σ:St) (H:Hp) (Q:VK),Inv X pins σ H s->t σ H Q ->
  wpAny (model X.prog X.w) X.A (eval a X.env) (fun v c=>wpAny (model X.prog X.w) X.A (eval b X.env) (fun u d=>wpAny (model X.prog X.w) X.A (compareOp op v u) (EP X pins σ Q) X.xe d) X.xe c) X.xe s
def tB (t:TE):TT:=fun σ H Q=>t σ H fun x H1=>∃ c,x=.bl c/\Q c H1
theorem CM {e:Expr} {t:TE} (h:PE X e t) (he:∀ whole,isTrue e X.env whole=(do let v <- whole;standAt e.pos;holding [v] (truthy v)):=by intro _;rfl):PT X e (tB t):=by
 intro pins s σ H Q I hw
 refine isTrue_plain (thn (h pins s σ H _ I hw) fun v s1 ⟨x,H1,c,b,a⟩=>?_) (he _)
 obtain ⟨d,rfl,q⟩:=a
 cases b
 exact ER ⟨H1,c,q⟩
variable {tA tB':TT} {d5:List Expr}
def tOr (t u:TT):TT:=fun σ H Q=>t σ H fun c H1=>if c=true then Q true H1 else u σ H1 Q
def tNot (t:TT):TT:=fun σ H Q=>t σ H fun c H1=>Q (!c) H1
theorem CK (b:PT X a tA):PW X (.BoolOp .Or [a] pos) tA:=by
 intro wh pins s σ H Q I h
 refine isTrue_or (thn (b pins s σ H Q I h) fun c s1 e=>?_)
 cases c with
 | false=>exact isTrue_or_nil e
 | true=>exact e
theorem pw_or (g:PT X a tA) (f:PW X (.BoolOp .Or (b :: d5) pos) tB'):PW X (.BoolOp .Or (a :: b :: d5) pos) (tOr tA tB'):=by
 intro wh pins s σ H Q I h
 refine isTrue_or (thn (g pins s σ H _ I h) fun c s1 ⟨H1,d,e⟩=>?_)
 cases c with
 | true=>exact ⟨H1,d,e⟩
 | false=>exact f wh pins s1 σ H1 Q d e
theorem CN (b:PT X a tA):PT X (.UnaryOp .Not a pos) (tNot tA):=by
 intro pins s σ H Q I h
 exact isTrue_not (b pins s σ H (fun c H1=>Q (!c) H1) I h)
def Bm (ta tb:TE):TE:=fun σ H Q=>ta σ H fun x H1=>∃ c,x=.bl c/\if c=true then tb σ H1 Q else Q (.bl false) H1
def Bf (ta:TE):TE:=fun σ H Q=>ta σ H fun x H1=>∃ c,x=.bl c/\Q (.bl (!c)) H1
theorem CU {op} {t:TE} (h:PE X a t):PE X (.BoolOp op [a] pos) t:=fun pins s σ H Q I hw=>BoolOp_one (h pins s σ H Q I hw)
theorem C4 (i:PE X a ta) (g:PE X (.BoolOp .And (b :: d5) pos) tb):PE X (.BoolOp .And (a :: b :: d5) pos) (Bm ta tb):=by
 intro pins s σ H Q I h
 refine BoolOp_and (thn (i pins s σ H _ I h) fun v s1 ⟨x,H1,e,f,d⟩=>?_)
 obtain ⟨c,rfl,d⟩:=d
 cases f
 refine ER ?_
 cases c with
 | true=>exact g pins s1 σ H1 Q e d
 | false=>exact ⟨.bl false,H1,e,rfl,d⟩
theorem CV (e:PE X a ta):PE X (.UnaryOp .Not a pos) (Bf ta):=by
 intro pins s σ H Q I h
 refine UnaryOp_ (thn (e pins s σ H _ I h) fun v s1 ⟨x,H1,f,d,b⟩=>?_)
 obtain ⟨c,rfl,b⟩:=b
 cases d
 exact not_of (ER ⟨.bl (!c),H1,f,rfl,b⟩)
def tIf (t:TT) (ta tb:TE):TE:=fun σ H Q=>t σ H fun c H1=>if c=true then ta σ H1 Q else tb σ H1 Q
theorem xA {c:Expr} (j:PT X c tA) (i:PE X a ta) (g:PE X b tb):PE X (.IfExp c a b pos) (tIf tA ta tb):=by
 intro pins s σ H Q I h
 refine wpAny_IfExp (thn (j pins s σ H _ I h) fun d s1 ⟨H1,e,f⟩=>?_)
 cases d with
 | true=>exact i pins s1 σ H1 Q e f
 | false=>exact g pins s1 σ H1 Q e f
end
end L2
namespace L2
open PySem PySem.Spec PyProof.Rows
def SqL (K:FG) (H:Hp) (a:Addr) (xs:List V):Prop :=
 Rd H a (.lst xs) \/
  ∃ (o:Obj) (its:Array Value) (n:Nat),K.lookup a=some o/\o.cls=.type "list"/\o.dict=none/\o.data=.seq its n/\its.size<=sizeLine/\Vals xs its.toList
def SqT (K:FG) (H:Hp) (a:Addr) (xs:List V):Prop :=
 Rd H a (.tup xs) \/
  ∃ (o:Obj) (its:Array Value) (n:Nat),K.lookup a=some o/\o.cls=.type "tuple"/\o.data=.seq its n/\its.size<=sizeLine/\Vals xs its.toList
def absV:Value->Option V
 | .none=>some .non
 | .bool b=>some (.bl b)
 | .int i _=>some (.int i)
 | .str x _=>some (.str x)
 | .bytes b _=>some (.byt b)
 | .float b _=>some (.flt b)
 | .ref a=>some (.ref a)
 | .type n=>some (.ty n)
 | _=>none
theorem RelV.abs {x:V} {u:Value} (r:RelV x u):absV u=some x:=by
 cases x with
 | non=>cases r;rfl
 | bl _=>cases r;rfl
 | int _=>obtain ⟨t,rfl⟩:=r;rfl
 | str _=>obtain ⟨t,rfl⟩:=r;rfl
 | byt _=>obtain ⟨t,rfl⟩:=r;rfl
 | flt _=>obtain ⟨t,rfl⟩:=r;rfl
 | ref _=>cases r;rfl
 | ty _=>cases r;rfl
theorem RelV.inj {x y:V} {u:Value} (r:RelV x u) (q:RelV y u):x=y:=EW (r.abs.symm.trans q.abs)
theorem Vals.inj:∀ {xs ys:List V} {us:List Value},Vals xs us->Vals ys us->xs=ys
 | _,_,_,.nil,.nil=>rfl
 | _,_,_,.cons r t,.cons r' t'=>by rw [r.inj r',Vals.inj t t']
section
variable {X:Cx} {pins:List (Addr × Obj)} {σ:St} {H:Hp} {s:Shared} {a:Addr} {xs ys:List V}
theorem SqL.of {K:FG} (h:H a=some (.lst xs)):SqL K H a xs:=.inl (.inl h)
theorem SqT.of {K:FG} (h:H a=some (.tup xs)):SqT K H a xs:=.inl (.inl h)
theorem Inv.list (I:Inv X pins σ H s) (h:SqL X.K H a xs):∃ its:List Value,Vals xs its/\PlainL s.heap a its.toArray/\xs.length<=sizeLine:=by
 rcases h with h | ⟨o,its,n,c,d,hd,b,hz,r⟩
 ·obtain ⟨z,its,n,r,e⟩:=h.ok I.hok
  exact ⟨its,r,⟨_,n,e,rfl,rfl,rfl⟩,z⟩
 ·refine ⟨its.toList,r,⟨o,n,I.kIn a o c,d,hd,by simpa using b⟩,?_⟩
  have e:=r.length
  simp only [Array.length_toList] at e
  omega
theorem Inv.tuple (I:Inv X pins σ H s) (h:SqT X.K H a xs):∃ its:List Value,Vals xs its/\IsTup s.heap a its.toArray/\xs.length<=sizeLine:=by
 rcases h with h | ⟨o,its,n,c,d,b,hz,r⟩
 ·obtain ⟨z,its,r,p⟩:=h.ok I.hok
  exact ⟨its,r,p.tup,z⟩
 ·refine ⟨its.toList,r,⟨o,I.kIn a o c,d,n,by simpa using b⟩,?_⟩
  have e:=r.length
  simp only [Array.length_toList] at e
  omega
theorem Inv.list_inj (I:Inv X pins σ H s) (h:SqL X.K H a xs) (h':SqL X.K H a ys):xs=ys:=by
 obtain ⟨its,r,⟨o,n,e,_,_,d⟩,_⟩:=I.list h
 obtain ⟨its',c,⟨o',f,b,_,_,d'⟩,_⟩:=I.list h'
 rw [e] at b;cases b
 rw [d] at d'
 injection d' with d1 _
 have:its=its':=by simpa using congrArg Array.toList d1
 subst this
 exact r.inj c
theorem Inv.tuple_inj (I:Inv X pins σ H s) (h:SqT X.K H a xs) (h':SqT X.K H a ys):xs=ys:=by
 obtain ⟨its,r,⟨o,e,_,n,d⟩,_⟩:=I.tuple h
 obtain ⟨its',c,⟨o',b,_,f,d'⟩,_⟩:=I.tuple h'
 rw [e] at b;cases b
 rw [d] at d'
 injection d' with d1 _
 have:its=its':=by simpa using congrArg Array.toList d1
 subst this
 exact r.inj c
end
abbrev Cx.wish (X:Cx) (E:Value->Shared->Prop):Cx:={ X with xe:=E }
abbrev Cx.nox (X:Cx):Cx:=X.wish fun _ _=>False
theorem Cx.Ok.wish {X:Cx} (ok:X.Ok) (E:Value->Shared->Prop):(X.wish E).Ok :=
 ⟨ok.mod,ok.kind,ok.glob,ok.blt,ok.above,ok.inj,ok.has,ok.cab,ok.hd,ok.frames,ok.stk,ok.exf,ok.bs,ok.bsz,ok.noex,ok.exfs,ok.funs,ok.frf⟩
theorem Cx.Ok.unwish {X:Cx} {E:Value->Shared->Prop} (ok:(X.wish E).Ok):X.Ok :=
 ⟨ok.mod,ok.kind,ok.glob,ok.blt,ok.above,ok.inj,ok.has,ok.cab,ok.hd,ok.frames,ok.stk,ok.exf,ok.bs,ok.bsz,ok.noex,ok.exfs,ok.funs,ok.frf⟩
section
variable {X:Cx} {pins:List (Addr × Obj)} {σ:St} {H:Hp} {s:Shared} {E:Value->Shared->Prop}
theorem Inv.wish (I:Inv X pins σ H s) (E:Value->Shared->Prop):Inv (X.wish E) pins σ H s:=⟨I.ok.wish E,I.os,I.bare,I.base,I.loc,I.cell,I.free,I.freeC,I.pin,I.hok,I.len⟩
theorem Inv.unwish (I:Inv (X.wish E) pins σ H s):Inv X pins σ H s:=⟨I.ok.unwish,I.os,I.bare,I.base,I.loc,I.cell,I.free,I.freeC,I.pin,I.hok,I.len⟩
theorem SP.unwish {D:Ends} {f:Flow} {s':Shared} (h:SP (X.wish E) pins D f s'):SP X pins D f s':=by
 cases f with
 | next=>obtain ⟨σ',H',I,q⟩:=h;exact ⟨σ',H',I.unwish,q⟩
 | brk=>obtain ⟨σ',H',I,q⟩:=h;exact ⟨σ',H',I.unwish,q⟩
 | cont=>obtain ⟨σ',H',I,q⟩:=h;exact ⟨σ',H',I.unwish,q⟩
 | ret u=>obtain ⟨v,σ',H',I,r,q⟩:=h;exact ⟨v,σ',H',I.unwish,r,q⟩
theorem PSs.nox {st:List Stmt} {t:TS} (h:PSs X.nox st t):PSs X st t:=fun pins s σ H D I hw =>
 wpAny_mono (h pins s σ H D (I.wish _) hw) (fun _ _ q=>q.unwish) fun _ _ z=>False.elim z
end
section
variable {X:Cx} {st:Stmt} {d5:List Stmt} {t u:TS} {e:Expr} {te:TE} {pos:Pos}
def Bg:TS:=fun D σ H=>D.nx σ H
def tSeq (t u:TS):TS:=fun D σ H=>t { D with nx:=u D } σ H
theorem Ac:PSs X [] Bg:=fun _ _ σ H _ I h=>wpAny_execs_nil ⟨σ,H,I,h⟩
theorem xo (h1:PS X st t) (h2:PSs X d5 u):PSs X (st :: d5) (tSeq t u):=by
 intro pins s σ H D I h
 refine wpAny_execs_cons (thn (h1 pins s σ H { D with nx:=u D } I h) fun f s1 q=>?_)
 cases f with
 | next =>
  obtain ⟨σ',H',a,q⟩:=q
  exact h2 pins s1 σ' H' D a q
 | ret v=>exact q
 | brk=>exact q
 | cont=>exact q
theorem Ab (h1:PS X st t):PSs X [st] t:=by
 intro pins s σ H D I h
 refine wpAny_execs_cons (thn (h1 pins s σ H D I h) fun f s1 q=>?_)
 cases f with
 | next=>exact wpAny_execs_nil q
 | ret v=>exact q
 | brk=>exact q
 | cont=>exact q
theorem Inv.quiet {pins:List (Addr × Obj)} {σ:St} {H:Hp} {s:Shared} (I:Inv X pins σ H s):interactive X.env=false:=by simp [interactive,I.ok.kind]
def Bi (te:TE):TS:=fun D σ H=>te σ H fun _ H1=>D.nx σ H1
theorem Ad (he:PE X e te) (a:swapsWith e none pos.line X.env=pure false:=by rfl):PS X (.Expr e pos) (Bi te):=by
 intro pins s σ H D I h
 exact wpAny_Expr_any (thn (he pins s σ H _ I h) fun v s1 ⟨x,H1,b,d,c⟩=>⟨σ,H1,b,c⟩) I.quiet a
def tRet (te:TE):TS:=fun D σ H=>te σ H D.rt
theorem CP (he:PE X e te):PS X (.Return (some e) pos) (tRet te):=by
 intro pins s σ H D I h
 exact wpAny_Return_some (thn (he pins s σ H _ I h) fun v s1 ⟨x,H1,b,a,c⟩=>⟨x,σ,H1,b,a,c⟩)
def tIfS (c:TT) (t u:TS):TS:=fun D σ H=>c σ H fun b H1=>if b=true then t D σ H1 else u D σ H1
theorem ps_if {c:Expr} {a b:List Stmt} {tc:TT} (j:PT X c tc) (i:PSs X a t) (g:PSs X b u):PS X (.If c a b pos) (tIfS tc t u):=by
 intro pins s σ H D I h
 refine wpAny_If (thn (j pins s σ H _ I h) fun d s1 ⟨H1,e,f⟩=>?_)
 cases d with
 | true=>exact i pins s1 σ H1 D e f
 | false=>exact g pins s1 σ H1 D e f
def BW:TS:=fun _ _ _=>False
theorem xq:PS X st BW:=fun _ _ _ _ _ _ h=>h.elim
end
abbrev TG:=V->St->Hp->(St->Hp->Prop)->Prop
abbrev TGs:=List V->St->Hp->(St->Hp->Prop)->Prop
def PG (X:Cx) (target:Expr) (t:TG):Prop :=
 ∀ (pins:List (Addr × Obj)) (s:Shared) (σ:St) (H:Hp) (v:V) (u:Value) (Q:St->Hp->Prop),Inv X pins σ H s->RelV v u->t v σ H Q ->
  wpAny (model X.prog X.w) X.A (assign target X.env u) (fun _ s'=>∃ σ' H',Inv X pins σ' H' s'/\Q σ' H') X.xe s
def PGs (X:Cx) (ts:List Expr) (t:TGs):Prop :=
 ∀ (pins:List (Addr × Obj)) (s:Shared) (σ:St) (H:Hp) (a:List V) (us:List Value) (Q:St->Hp->Prop),Inv X pins σ H s->Vals a us->t a σ H Q ->
  wpAny (model X.prog X.w) X.A (assignInOrder ((assignEach ts X.env).map (·.2)) us) (fun _ s'=>∃ σ' H',Inv X pins σ' H' s'/\Q σ' H') X.xe s
abbrev vO:=V->V->V->Hp->(Hp->Prop)->Prop
def ze (X:Cx) (t:vO):Prop :=
 ∀ (pins:List (Addr × Obj)) (s:Shared) (σ:St) (H:Hp) (o i v:V) (ov a u:Value) (Q:Hp->Prop),Inv X pins σ H s->RelV o ov->RelV i a->RelV v u->t o i v H Q ->
  wpAny (model X.prog X.w) X.A (setItem ov a u) (fun _ s'=>∃ H',Inv X pins σ H' s'/\Q H') X.xe s
section
variable {X:Cx} {pos:Pos}
def tY (i:Nat):TG:=fun v σ H Q=>Q (σ.set i (some v)) H
theorem je {i:Nat} {x:Str} (b:X.N.Nodup) (hi:X.N[i]?=some x) (a:Loc X.env.scope x) (hf:X.fn x=true\/X.env.scope.names.lookup x=some .local:=by first | exact .inl rfl | exact .inr rfl | assumption):PG X (.Name x pos) (tY i):=by
 intro pins s σ H v u Q I r h
 exact wpAny_assign_Name (oW I b hi a r (fun s' c=>⟨_,H,c,h⟩) hf)
def gNil:TGs:=fun a σ H Q=>a=[]/\Q σ H
def BD (t:TG) (u:TGs):TGs:=fun a σ H Q=>∃ v r,a=v :: r/\t v σ H fun σ' H'=>u r σ' H' Q
theorem tG:PGs X [] gNil:=by
 intro pins s σ H a us Q I r h
 obtain ⟨e,h⟩:=h
 subst e
 cases r
 exact assignInOrder_nil ⟨σ,H,I,h⟩
theorem lf {e:Expr} {es:List Expr} {t:TG} {u:TGs} (h1:PG X e t) (h2:PGs X es u)
  (a:(assignEach (e :: es) X.env).map (·.2)=assign e X.env :: (assignEach es X.env).map (·.2):=by rfl):PGs X (e :: es) (BD t u):=by
 intro pins s σ H f us Q I r h
 obtain ⟨v,d,e1,h⟩:=h
 subst e1
 cases r with
 | cons r rr =>
  rw [a]
  refine assignInOrder_cons (thn (h1 pins s σ H _ _ _ I r h) fun _ s1 ⟨σ1,H1,c,b⟩=>?_)
  exact h2 pins s1 σ1 H1 _ _ Q c rr b
def gTup (K:FG) (n:Nat) (t:TGs):TG:=fun v σ H Q=>∃ a xs,v=.ref a/\SqT K H a xs/\xs.length=n/\t xs σ H Q
theorem xw {es:List Expr} {k:Nat} {t:TGs} {n:Nat} (m:X.calm=true) (h:PGs X es t)
  (j:(assignEach es X.env).length=n:=by rfl) (c:(assignEach es X.env).findIdx? (·.1)=none:=by rfl):PG X (.Tuple es k pos) (gTup X.K n t):=by
 intro pins s σ H v u Q I r hw
 obtain ⟨a,xs,e1,p,f,hw⟩:=hw
 subst e1
 cases r
 obtain ⟨its,d,l,hz⟩:=I.tuple p
 refine assign_Tuple_tuple (I.ok.hd m) l (by simp [j,<- f,d.length]) c fun h' i=>?_
 have g:Inv X pins σ H { s with heap:=h' }:=I.kept (t':=s.toks) fun b o e=>i b o (Ew (Ek e)) e
 exact h pins _ σ H xs _ Q g (by simpa using d) hw
def gSub (to b:TE) (t:vO):TG:=fun v σ H Q=>to σ H fun o H1=>b σ H1 fun i H2=>t o i v H2 fun a=>Q σ a
theorem CT {o i:Expr} {to b:TE} {t:vO} (k:PE X o to) (hi:PE X i b) (e:ze X t)
  (n:∀ v,assign (.Subscript o i pos) X.env v=(do
   let ov <- holding [v] (eval o X.env)
   let a <- holding [v,ov] (eval i X.env)
   standAt pos
   holding [v,ov,a] (setItem ov a v)
   release [v,ov,a] []):=by intro _;rfl):PG X (.Subscript o i pos) (gSub to b t):=by
 intro pins s σ H v u Q I r h
 rw [n]
 refine DZ (Eb (thn (k pins s σ H _ I h) fun ov s1 ⟨x,H1,j,f,m⟩=>?_))
 refine DZ (Eb (thn (hi pins s1 σ H1 _ j m) fun a s2 ⟨y,H2,c,p,g⟩=>?_))
 refine DZ (wpAny_standAt (DZ (Eb (thn (e pins s2 σ H2 x y v ov a u _ c f p r g) fun _ s3 ⟨d,q,l⟩=>?_))))
 exact wpAny_release ⟨σ,d,q,l⟩
def wc (te:TE) (g:TG):TS:=fun D σ H=>te σ H fun x H1=>g x σ H1 D.nx
theorem xr {tg e:Expr} {te:TE} {g:TG} (he:PE X e te) (b:PG X tg g) (a:swapsWithSole [tg] e pos.line X.env=pure false:=by rfl) (hw:swappedStores [tg] e X.env=pure none:=by rfl)
  (h1:(assignEach [tg] X.env).map (·.2)=[assign tg X.env]:=by rfl):PS X (.Assign [tg] e pos) (wc te g):=by
 intro pins s σ H D I h
 refine wpAny_Assign_stores (thn (he pins s σ H _ I h) fun v s1 ⟨x,H1,f,d,c⟩=>?_) a hw
 rw [h1]
 exact thn (b pins s1 σ H1 x v _ f d c) fun _ s2 q=>q
theorem CO {i:Nat} {x:Str} {e:Expr} {te:TE} {pos':Pos} (g:X.N.Nodup) (hi:X.N[i]?=some x) (b:Loc X.env.scope x) (he:PE X e te) (c:swapsWith e (some (.Name x pos')) pos.line X.env=pure false:=by rfl) (hf:X.fn x=true\/X.env.scope.names.lookup x=some .local:=by first | exact .inl rfl | exact .inr rfl | assumption) :
  PS X (.Assign [.Name x pos'] e pos) (wc te (tY i)):=by
 intro pins s σ H D I h
 refine wpAny_Assign_Name (thn (he pins s σ H _ I h) fun v s1 ⟨y,H1,j,f,d⟩=>?_) c
 exact oW j g hi b f (fun s2 a=>⟨_,H1,a,d⟩) hf
end
section
variable {X:Cx} {pos:Pos}
def vY (c:TT) (tb:TS):TS:=fun D σ H=>∃ W:Nat->St->Hp->Prop,(∃ m,W m σ H)/\∀ m σ H,W m σ H ->
 c σ H fun b H1=>if b=true then ∃ N:St->Hp->Prop,(∀ σ' H',N σ' H'->∃ a,a < m/\W a σ' H')/\tb { D with nx:=N,ct:=N,bk:=D.nx } σ H1 else D.nx σ H1
theorem xp {c:Expr} {body:List Stmt} {tc:TT} {tb:TS} (m:PassesOwn (model X.prog X.w) X.A X.env X.xe) (t:PT X c tc) (p:PSs X body tb):PS X (.While c body [] pos) (vY tc tb):=by
 intro pins s σ H D I h
 obtain ⟨W,⟨m0,u⟩,turn⟩:=h
 refine wpAny_While (codeAny_whileLoop (fun n s'=>∃ σ' H',Inv X pins σ' H' s'/\W n σ' H') ?_ m0 ⟨σ,H,I,u⟩)
 rintro n s1 ⟨σ1,H1,r,q⟩
 refine wpAny_passesOwn m (thn (t pins s1 σ1 H1 _ r (turn n σ1 H1 q)) fun b s2 ⟨H2,l,d⟩=>?_)
 cases b with
 | true =>
  obtain ⟨N,o,d⟩:=d
  rw [if_pos rfl]
  refine wpAny_passesOwn m (thn (p pins s2 σ1 H2 _ l d) fun f s3 e=>?_)
  cases f with
  | next =>
   obtain ⟨σ3,a,k,j⟩:=e
   obtain ⟨i,hm,g⟩:=o σ3 a j
   exact ⟨i,hm,σ3,a,k,g⟩
  | cont =>
   obtain ⟨σ3,a,k,j⟩:=e
   obtain ⟨i,hm,g⟩:=o σ3 a j
   exact ⟨i,hm,σ3,a,k,g⟩
  | brk=>exact e
  | ret v=>exact e
 | false =>
  rw [if_neg Ev]
  exact wpAny_execs_nil ⟨σ1,H2,l,d⟩
end
structure It where
 go:Nat->Hp->Prop
 yld:Nat->Hp->V->Hp->Prop
 stop:Nat->Hp->Prop
def FpOk (X:Cx) (pins:List (Addr × Obj)) (H:Hp) (b:Addr):Prop :=
 H b=none/\b ≠ X.env.locals/\b ∉ X.fs/\(b ∈ X.ex\/X.s₀.heap.objs.size<=b)/\(∀ x c,X.env.cells.lookup x=some c->c ≠ b)/\∀ p ∈ X.pn ++ pins,p.1 ≠ b
theorem Inv.fpOk {X:Cx} {pins:List (Addr × Obj)} {σ:St} {H H':Hp} {s:Shared} {b:Addr} (I:Inv X pins σ H s) (a:s.heap.objs.size<=b) (d:H' b=none):FpOk X pins H' b:=by
 refine ⟨d,Nat.ne_of_gt (EB I.lt a),I.nofs a,.inr (ES I.sz a),fun x c e z=>?_,fun p f z=>?_⟩
 ·obtain ⟨v,q⟩:=I.cell x c e
  exact absurd (EB q.lt (by rw [z];exact a)) (Nat.lt_irrefl _)
 ·exact absurd (EB (Ek (I.pin p f).1) (by rw [z];exact a)) (Nat.lt_irrefl _)
structure Turn (P:Program) (w:World) (K:FG) (tg:Expr) (J:It) (fp:List Addr) (it:Addr) (tn:Nat->Heap->Prop):Prop where
 mem:it ∈ fp
 obj:∀ i h,tn i h->∀ b ∈ fp,∃ o,h.get? b=some o/\∀ v,o.data ≠ .cell v
 keep:∀ i h h',tn i h->(∀ b ∈ fp,∀ o,h.get? b=some o->h'.get? b=some o)->tn i h'
 item:∀ (X:Cx),X.prog=P->X.w=w->X.K=K->X.calm=true->∀ (i:Nat) (pins:List (Addr × Obj)) (s:Shared) (σ:St) (H:Hp) (E:Value->Shared->Prop),Inv X pins σ H s->(∀ b ∈ fp,FpOk X pins H b)->tn i s.heap->J.go i H ->
  wpAny (model P w) X.A (pyNext (.ref it)) (fun r s1=>∃ u,r=some u /\
   wpAny (model P w) X.A (letOwnedTupleGo tg (.ref it) u) (fun _ s2=>∃ x H',Inv X pins σ H' s2/\RelV x u/\J.yld i H x H'/\tn (i+1) s2.heap/\∀ b ∈ fp,H' b=none) E s1) E s
 done:∀ (X:Cx),X.prog=P->X.w=w->X.K=K->X.calm=true->∀ (i:Nat) (pins:List (Addr × Obj)) (s:Shared) (σ:St) (H:Hp) (E:Value->Shared->Prop),Inv X pins σ H s->(∀ b ∈ fp,FpOk X pins H b)->tn i s.heap->J.stop i H ->
  wpAny (model P w) X.A (pyNext (.ref it)) (fun r s1=>r=none/\Inv X pins σ H s1) E s
 self:∀ (A:Around) (i:Nat) (s:Shared) (Q:Value->Shared->Prop) (E:Value->Shared->Prop),tn i s.heap->Q (.ref it) s->wpAny (model P w) A (pyIter (.ref it)) Q E s
abbrev TI:=St->Hp->(It->Hp->Prop)->Prop
def PIE (X:Cx) (pins:List (Addr × Obj)) (σ:St) (tg:Expr) (R:It->Hp->Prop) (a:Value) (s2:Shared):Prop :=
 ∃ (it:Addr) (fp:List Addr) (c:Nat->Heap->Prop) (J:It) (H':Hp),a=.ref it/\Inv X pins σ H' s2/\Turn X.prog X.w X.K tg J fp it c/\c 0 s2.heap/\(∀ b ∈ fp,FpOk X pins H' b)/\R J H'
def PI (X:Cx) (tg iter:Expr) (a:TI):Prop :=
 ∀ (pins:List (Addr × Obj)) (s:Shared) (σ:St) (H:Hp) (R:It->Hp->Prop),Inv X pins σ H s->a σ H R ->
  wpAny (model X.prog X.w) X.A (eval iter X.env) (fun v s1=>wpAny (model X.prog X.w) X.A (pyIter v) (PIE X pins σ tg R) X.xe s1) X.xe s
theorem yz {M : Model} {A : Around} {E : Value -> Shared -> Prop} {s : Shared} {tg : Expr} {it : Addr} {u : Value} {o : Obj} {n : String} {b : Array Value} {Q : Unit -> Shared -> Prop} (d : s.heap.get? it = some o) (e : o.cls = .type n) (hd : o.data = .fields b)
    (c : ["enumerate", "zip", "dict_itemiterator", "dict_reverseitemiterator", "odict_iterator", "itertools.zip_longest", "itertools.pairwise"].contains n = false) (a : Q () s) : wpAny M A (letOwnedTupleGo tg (.ref it) u) Q E s := by
  unfold letOwnedTupleGo
  cases tg <;> first
    | exact Ea a
    | (cases u <;> first
        | exact Ea a
        | (refine DZ (wpAny_load d ?_)
           rw [e, hd]
           show wpAny M A (if (["enumerate", "zip", "dict_itemiterator", "dict_reverseitemiterator", "odict_iterator", "itertools.zip_longest", "itertools.pairwise"].contains n && b[0]? == some (rawInt _)) = true then _ else _) Q E s
           rw [if_neg (by intro h; rw [c, Bool.false_and] at h; cases h)]
           exact Ea a))
def Itl (K:FG) (a:Addr):It :=
 ⟨fun i H=>∃ xs x,SqL K H a xs/\xs[i]?=some x,fun i H x H'=>H'=H/\∀ xs,SqL K H a xs->xs[i]?=some x,fun i H=>∃ xs,SqL K H a xs/\xs.length<=i⟩
def Itt (K:FG) (a:Addr):It :=
 ⟨fun i H=>∃ xs x,SqT K H a xs/\xs[i]?=some x,fun i H x H'=>H'=H/\∀ xs,SqT K H a xs->xs[i]?=some x,fun i H=>∃ xs,SqT K H a xs/\xs.length<=i⟩
def Itr (lo:Int) (n:Nat):It:=⟨fun i _=>i < n,fun i H x H'=>H'=H/\x=.int (lo+i),fun i _=>n<=i⟩
theorem ut {P:Program} {w:World} {K:FG} {tg:Expr} (a it:Addr):Turn P w K tg (Itl K a) [it] it (fun i h=>h.IsListIter it a i) where
 mem:=by simp
 obj:=fun i h st b f=>by
  have e:b=it:=by simpa using f
  subst e
  obtain ⟨o,e,c,d⟩:=st
  exact ⟨o,e,fun v z=>by rw [d] at z;cases z⟩
 keep:=fun i h h' st k=>st.at fun o e=>k it (by simp) o e
 item:=by
  intro X y hw m A i pins s σ H E I hf st t
  subst y hw m
  obtain ⟨xs,x,j,l⟩:=t
  obtain ⟨its,n,p,hz⟩:=I.list j
  obtain ⟨u,hu,B⟩:=n.get l
  obtain ⟨f0,f1,f2,q,f4,r⟩:=hf it (by simp)
  refine wpAny_pyNext_list_item st p.isList (x:=u) (by simpa using hu) fun h' g sb=>?_
  have D:Inv X pins σ H { s with heap:=h' }:=I.turned (t':=s.toks) (fun b o f e=>(sb.2 b f).trans e) f0 f1 q f4 r
  obtain ⟨o,e,c,d⟩:=id g
  exact ⟨u,rfl,yz (s:={ s with heap:=h' }) e c d (by decide) ⟨x,H,D,B,⟨rfl,fun ys F=>by rw [I.list_inj F j];exact l⟩,g,fun b f=>(hf b f).1⟩⟩
 done:=by
  intro X y hw m A i pins s σ H E I hf st t
  subst y hw m
  obtain ⟨xs,j,l⟩:=t
  obtain ⟨its,n,p,hz⟩:=I.list j
  obtain ⟨f0,f1,f2,q,f4,r⟩:=hf it (by simp)
  have G:=n.length
  exact wpAny_pyNext_list_end (I.ok.hd A) st p.isList (by simp;omega) fun h' C=>⟨rfl,I.turned (t':=s.toks) (fun b o f e=>C b o f e) f0 f1 q f4 r⟩
 self:=fun _ _ _ _ _ st h=>wpAny_pyIter_listiter st h
theorem qM {P:Program} {w:World} {K:FG} {tg:Expr} (a it:Addr):Turn P w K tg (Itt K a) [it] it (fun i h=>h.IsTupleIter it a i) where
 mem:=by simp
 obj:=fun i h st b f=>by
  have e:b=it:=by simpa using f
  subst e
  obtain ⟨o,e,c,d⟩:=st
  exact ⟨o,e,fun v z=>by rw [d] at z;cases z⟩
 keep:=fun i h h' st k=>st.at fun o e=>k it (by simp) o e
 item:=by
  intro X y hw m A i pins s σ H E I hf st t
  subst y hw m
  obtain ⟨xs,x,j,l⟩:=t
  obtain ⟨its,n,p,hz⟩:=I.tuple j
  obtain ⟨u,hu,B⟩:=n.get l
  obtain ⟨f0,f1,f2,q,f4,r⟩:=hf it (by simp)
  refine wpAny_pyNext_tuple_item st (show s.heap.IsTuple a its.toArray from p) (x:=u) (by simpa using hu) fun h' g sb=>?_
  have D:Inv X pins σ H { s with heap:=h' }:=I.turned (t':=s.toks) (fun b o f e=>(sb.2 b f).trans e) f0 f1 q f4 r
  obtain ⟨o,e,c,d⟩:=id g
  exact ⟨u,rfl,yz (s:={ s with heap:=h' }) e c d (by decide) ⟨x,H,D,B,⟨rfl,fun ys F=>by rw [I.tuple_inj F j];exact l⟩,g,fun b f=>(hf b f).1⟩⟩
 done:=by
  intro X y hw m A i pins s σ H E I hf st t
  subst y hw m
  obtain ⟨xs,j,l⟩:=t
  obtain ⟨its,n,p,hz⟩:=I.tuple j
  obtain ⟨f0,f1,f2,q,f4,r⟩:=hf it (by simp)
  have G:=n.length
  exact wpAny_pyNext_tuple_end (I.ok.hd A) st (show s.heap.IsTuple a its.toArray from p) (by simp;omega) fun h' C=>⟨rfl,I.turned (t':=s.toks) (fun b o f e=>C b o f e) f0 f1 q f4 r⟩
 self:=fun _ _ _ _ _ st h=>wpAny_pyIter_tupleiter st h
theorem qN {P:Program} {w:World} {K:FG} {tg:Expr} (it:Addr) (lo:Int) (n:Nat):Turn P w K tg (Itr lo n) [it] it (fun i h=>IsRangeIter h it (lo+(i:Nat) * 1) ((n:Int) - (i:Nat)) 1) where
 mem:=by simp
 obj:=fun i h st b a=>by
  have e:b=it:=by simpa using a
  subst e
  exact ⟨_,st,fun v z=>by
   have x:Data.fields _=Data.cell v:=z
   cases x⟩
 keep:=fun i h h' st k=>k it (by simp) _ st
 item:=by
  intro X m hw d f i pins s σ H E I hf st l
  subst m hw d
  obtain ⟨f0,f1,f2,g,f4,j⟩:=hf it (by simp)
  have W:=Walks.range (prog:=X.prog) (w:=X.w) (I.ok.hd f) it lo 1 n
  refine W.item i s _ _ l st fun v h' tk p c u=>?_
  obtain ⟨t,rfl⟩:=p
  have r:Inv X pins σ H { s with heap:=h',toks:=tk }:=I.turned (fun b o a e=>u b o (by simpa using a) e) f0 f1 g f4 j
  refine ⟨_,rfl,yz (s:={ s with heap:=h',toks:=tk }) (n:="range_iterator") c rfl rfl (by decide) ⟨.int (lo+i),H,r,⟨t,?_⟩,⟨rfl,rfl⟩,c,fun b a=>(hf b a).1⟩⟩
  rw [Int.mul_one]
 done:=by
  intro X m hw d f i pins s σ H E I hf st l
  subst m hw d
  obtain ⟨f0,f1,f2,g,f4,j⟩:=hf it (by simp)
  exact wpAny_pyNext_range_end (I.ok.hd f) st (by have:n<=i:=l;omega) fun h' q=>⟨rfl,I.turned (t':=s.toks) (fun b o a e=>q b o a e) f0 f1 g f4 j⟩
 self:=fun _ _ _ _ _ st h=>wpAny_pyIter_rangeiter st h
end L2
namespace L2
open PySem PySem.Spec PyProof.Rows
section
variable {X:Cx} {tg:Expr}
theorem pi {pins:List (Addr × Obj)} {σ:St} {H:Hp} {s:Shared} {R:It->Hp->Prop} {E:Value->Shared->Prop} {lo hi:Int} {t u v:Tok} {tk:Nat} (I:Inv X pins σ H s) (h1:-(2 ^ 62)<=lo) (h2:lo < 2 ^ 62) (h3:-(2 ^ 62)<=hi) (f:hi < 2 ^ 62)
  (q:R (Itr lo (hi - lo).toNat) H):wpAny (model X.prog X.w) X.A (pyIter (.ref s.heap.objs.size)) (PIE X pins σ tg R) E { s with heap:=s.heap.push { cls:=.type "range",data:=.fields #[.int lo t,.int hi u,.int 1 v] },toks:=tk }:=by
 refine wpAny_pyIter_range (IsRange.new ..) (small_one h1 h2 h3 f) ?_
 have a:Inv X pins σ H { s with heap:=s.heap.push { cls:=.type "range",data:=.fields #[.int lo t,.int hi u,.int 1 v] },toks:=tk }:=I.kept fun b o e=>Ee _ e
 refine ⟨(s.heap.push { cls:=.type "range",data:=.fields #[.int lo t,.int hi u,.int 1 v] }).objs.size,[(s.heap.push { cls:=.type "range",data:=.fields #[.int lo t,.int hi u,.int 1 v] }).objs.size],_,_,H,rfl,
  a.kept (t':=tk) fun b o e=>Ee _ e,qN _ lo (hi - lo).toNat,?_,fun b c=>?_,q⟩
 ·have e1:lo+((0:Nat):Int) * 1=lo:=by simp
  have d:(((hi - lo).toNat:Nat):Int) - ((0:Nat):Int)=Builtin.Range.rangeSize lo hi 1:=by rw [rangeSize_one];split <;> omega
  show IsRangeIter _ _ (lo+((0:Nat):Int) * 1) ((((hi - lo).toNat:Nat):Int) - ((0:Nat):Int)) 1
  rw [e1,d]
  exact Em _ rfl
 ·have e:b=(s.heap.push { cls:=.type "range",data:=.fields #[.int lo t,.int hi u,.int 1 v] }).objs.size:=by simpa using c
  subst e
  exact a.fpOk (Eu _) (a.hok.fresh (Eu _))
def BB (ta:TA):TI:=fun σ H R=>ta σ H fun a H1=>∃ j:Int,a=[.int j]/\-(2 ^ 62)<=j/\j < 2 ^ 62/\R (Itr 0 j.toNat) H1
def BA (ta:TA):TI:=fun σ H R=>ta σ H fun a H1=>∃ i j:Int,a=[.int i,.int j]/\(-(2 ^ 62)<=i/\i < 2 ^ 62/\-(2 ^ 62)<=j/\j < 2 ^ 62)/\R (Itr i (j - i).toNat) H1
theorem uR {a:Expr} {ta:TA} {p pos:Pos} (d:Gl X "range") (hm:X.mg "range"=none) (g:PA X [a] ta) (c:starEach [a] X.env=[(false,eval a X.env)]:=by rfl):PI X tg (.Call (.Name "range" p) [a] [] pos) (BB ta):=by
 intro pins s σ H R I h
 refine Call_ (jJ I d hm boot_range (PyProof.Rows.callWith_type1 (thn (g pos pins s σ H _ I h) fun us s1 ⟨l,H1,k,f,b⟩=>?_) c rfl))
 obtain ⟨j,e,b,i,q⟩:=b
 subst e
 cases f with
 | cons r rr =>
  cases rr
  obtain ⟨t,rfl⟩:=r
  exact call_range_1 (pi k (by omega) (by omega) b i (by simpa using q))
theorem uQ {a b:Expr} {ta:TA} {p pos:Pos} (g:Gl X "range") (hm:X.mg "range"=none) (m:PA X [a,b] ta) (f:starEach [a,b] X.env=[(false,eval a X.env),(false,eval b X.env)]:=by rfl) (c:starEach [b] X.env=[(false,eval b X.env)]:=by rfl) :
  PI X tg (.Call (.Name "range" p) [a,b] [] pos) (BA ta):=by
 intro pins s σ H R I h
 refine Call_ (jJ I g hm boot_range (PyProof.Rows.callWith_type1 (thn (m pos pins s σ H _ I h) fun us s1 ⟨v,H1,u,l,d⟩=>?_) (by rw [f,c]) (by rw [c];rfl)))
 obtain ⟨i,j,e,⟨d,o,k,n⟩,q⟩:=d
 subst e
 cases l with
 | cons r rr =>
  cases rr with
  | cons r' rr =>
   cases rr
   obtain ⟨t,rfl⟩:=r
   obtain ⟨t',rfl⟩:=r'
   exact call_range_2 (pi u d o k n q)
def tFor (b:TI) (g:TG) (tb:TS):TS:=fun D σ H=>b σ H fun J H1=>∃ W:Nat->Nat->St->Hp->Prop,(∃ m,W 0 m σ H1)/\∀ i m σ H,W i m σ H ->
 (J.stop i H/\D.nx σ H)\/(J.go i H/\∃ N:St->Hp->Prop,(∀ σ' H',N σ' H'->∃ a,a < m/\W (i+1) a σ' H')/\∀ x H',J.yld i H x H'->g x σ H' fun σ2 H2=>tb { D with nx:=N,ct:=N,bk:=D.nx } σ2 H2)
def ld (fp:List Addr) (h:Heap):List (Addr × Obj):=fp.filterMap fun b=>(h.get? b).map fun o=>(b,o)
theorem fL {fp:List Addr} {h:Heap} {b:Addr} {o:Obj} (a:b ∈ fp) (e:h.get? b=some o):(b,o) ∈ ld fp h:=List.mem_filterMap.mpr ⟨b,a,by rw [e];rfl⟩
theorem uU {fp:List Addr} {h:Heap} {p:Addr × Obj} (c:p ∈ ld fp h):p.1 ∈ fp/\h.get? p.1=some p.2:=by
 obtain ⟨b,d,e⟩:=List.mem_filterMap.mp c
 cases q:h.get? b with
 | none=>rw [q] at e;cases e
 | some o =>
  rw [q] at e
  have a:(b,o)=p:=EW e
  subst a
  exact ⟨d,q⟩
theorem Inv.pinned {pins:List (Addr × Obj)} {σ:St} {H:Hp} {s:Shared} {fp:List Addr} (I:Inv X pins σ H s) (hf:∀ b ∈ fp,FpOk X pins H b) (f:∀ b ∈ fp,∃ o,s.heap.get? b=some o/\∀ v,o.data ≠ .cell v):Inv X (pins ++ ld fp s.heap) σ H s :=
 I.pins_of fun p g=>(El.mp g).elim (fun z=>I.pin p (Eh _ z)) fun z=>by
  obtain ⟨c,e⟩:=uU z
  obtain ⟨f0,f1,f2,_⟩:=hf p.1 c
  obtain ⟨o,a,d⟩:=f p.1 c
  rw [e] at a;cases a
  exact ⟨e,f0,f1,f2,d⟩
theorem Inv.unpinned {pins pl:List (Addr × Obj)} {σ:St} {H:Hp} {s:Shared} (I:Inv X (pins ++ pl) σ H s):Inv X pins σ H s:=I.pins_of fun p a=>I.pin p (Eh _ (Eg _ a))
theorem CQ {iter:Expr} {body:List Stmt} {P:TI} {g:TG} {tb:TS} {pos:Pos} (z:PassesOwn (model X.prog X.w) X.A X.env X.xe) (M:X.calm=true) (hi:PI X tg iter P) (hg:PG X tg g) (a:PSs X body tb)
  (hs:∀ x,foldedSetIterable iter X.env x=pure x:=by intro _;rfl):PS X (.For tg iter body [] pos) (tFor P g tb):=by
 intro pins s σ H D I h
 refine wpAny_For (thn (hi pins s σ H _ I h) fun v s1 h1=>thn h1 fun ab s2 h2=>?_) hs
 obtain ⟨it,fp,O,J,H2,e,R,T,C,f2,W,⟨m0,w0⟩,turn⟩:=h2
 subst e
 have k:∀ {H':Hp},(∀ b ∈ fp,H' b=none)->∀ b ∈ fp,FpOk X pins H' b:=fun hn b a=>⟨hn b a,(f2 b a).2⟩
 refine codeAny_forLoop_any (fun n s'=>∃ i σ' H',Inv X pins σ' H' s'/\O i s'.heap/\(∀ b ∈ fp,H' b=none)/\W i n σ' H') ?_ m0 ⟨0,σ,H2,R,C,fun b a=>(f2 b a).1,w0⟩
 rintro n s3 ⟨i,σ3,B,Q,q,t,w3⟩
 rcases turn i n σ3 B w3 with ⟨stop,qn⟩ | ⟨go,N,hN,step⟩
 ·refine wpAny_passesOwn z (thn (T.done X rfl rfl rfl M i pins s3 σ3 B X.xe Q (k t) q stop) fun r s4 ⟨F,Y⟩=>?_)
  subst F
  exact wpAny_execs_nil ⟨σ3,B,Y,qn⟩
 ·refine wpAny_passesOwn z (thn (T.item X rfl rfl rfl M i pins s3 σ3 B X.xe Q (k t) q go) fun r s4 ⟨u,F,h4⟩=>?_)
  subst F
  refine wpAny_passesOwn z (thn h4 fun _ s5 ⟨x,L,I5,V,y5,p,K⟩=>?_)
  have G:=I5.pinned (k K) (T.obj _ _ p)
  refine wpAny_passesOwn z (thn (hg _ s5 σ3 L x u _ G V (step x L y5)) fun _ s6 ⟨σ6,H6,I6,q6⟩=>?_)
  refine wpAny_passesOwn z (thn (a _ s6 σ6 H6 _ I6 q6) fun f E l=>?_)
  have again:∀ {σ7:St} {j:Hp},Inv X (pins ++ ld fp s5.heap) σ7 j E->N σ7 j->∃ m,m < n/\∃ i σ' H',Inv X pins σ' H' E/\O i E.heap/\(∀ b ∈ fp,H' b=none)/\W i m σ' H':=fun {σ7 j} c y=>by
   obtain ⟨U,hm,S⟩:=hN σ7 j y
   refine ⟨U,hm,i+1,σ7,j,c.unpinned,T.keep _ _ _ p fun b a o e=>(c.pin (b,o) (Eh _ (Eh _ (fL a e)))).1,fun b a=>?_,S⟩
   obtain ⟨o,e,d⟩:=T.obj _ _ p b a
   exact (c.pin (b,o) (Eh _ (Eh _ (fL a e)))).2.1
  cases f with
  | next=>obtain ⟨σ7,j,c,y⟩:=l;exact again c y
  | cont=>obtain ⟨σ7,j,c,y⟩:=l;exact again c y
  | brk=>obtain ⟨σ7,j,c,l⟩:=l;exact ⟨σ7,j,c.unpinned,l⟩
  | ret v=>obtain ⟨x7,σ7,j,c,Z,l⟩:=l;exact ⟨x7,σ7,j,c.unpinned,Z,l⟩
end
end L2
namespace L2
open PySem PySem.Spec PyProof.Rows
abbrev R2:=V->V->Hp->VK->Prop
def OpR (X:Cx) (f:Value->Value->Sem Value) (r:R2):Prop :=
 ∀ (pins:List (Addr × Obj)) (s:Shared) (σ:St) (H:Hp) (x y:V) (v u:Value) (Q:VK),Inv X pins σ H s->RelV x v->RelV y u->r x y H Q ->
  wpAny (model X.prog X.w) X.A (f v u) (EP X pins σ Q) X.xe s
def UnR (X:Cx) (f:Value->Sem Value) (r:V->Hp->VK->Prop):Prop :=
 ∀ (pins:List (Addr × Obj)) (s:Shared) (σ:St) (H:Hp) (x:V) (v:Value) (Q:VK),Inv X pins σ H s->RelV x v->r x H Q ->
  wpAny (model X.prog X.w) X.A (f v) (EP X pins σ Q) X.xe s
def cp (X:Cx) (f:Value) (r:List V->Hp->VK->Prop):Prop :=
 ∀ (pins:List (Addr × Obj)) (s:Shared) (σ:St) (H:Hp) (xs:List V) (us:List Value) (Q:VK),Inv X pins σ H s->Vals xs us->r xs H Q ->
  wpAny (model X.prog X.w) X.A (call f us) (EP X pins σ Q) X.xe s
def tOp (r:R2) (ta tb:TE):TE:=fun σ H Q=>ta σ H fun x H1=>tb σ H1 fun y H2=>r x y H2 Q
def tUn (r:V->Hp->VK->Prop) (ta:TE):TE:=fun σ H Q=>ta σ H fun x H1=>r x H1 Q
def rI (C:Int->Int->Prop) (g:Int->Int->V):R2:=fun x y H Q=>∃ i j,x=.int i/\y=.int j/\C i j/\Q (g i j) H
def rI0 (g:Int->Int->V):R2:=fun x y H Q=>∃ i j,x=.int i/\y=.int j/\Q (g i j) H
def rU (g:Int->V):V->Hp->VK->Prop:=fun x H Q=>∃ i,x=.int i/\Q (g i) H
section
variable {X:Cx} {a b c:Expr} {ta tb tc:TE} {pos:Pos}
theorem DN (j:PE X a ta) (i:PE X b tb) {pins:List (Addr × Obj)} {s:Shared} {σ:St} {H:Hp} {R:V->V->Hp->Prop} (I:Inv X pins σ H s)
  (h:ta σ H fun x H1=>tb σ H1 fun y H2=>R x y H2) {Q:Value->Shared->Prop} {f:Value->Value->Sem Value}
  (hf:∀ v u s2 x y H2,Inv X pins σ H2 s2->RelV x v->RelV y u->R x y H2->wpAny (model X.prog X.w) X.A (f v u) Q X.xe s2) :
  wpAny (model X.prog X.w) X.A (eval a X.env) (fun v l=>wpAny (model X.prog X.w) X.A (eval b X.env) (fun u d=>wpAny (model X.prog X.w) X.A (f v u) Q X.xe d) X.xe l) X.xe s:=by
 refine thn (j pins s σ H _ I h) fun v s1 ⟨x,H1,n,g,e⟩=>?_
 refine thn (i pins s1 σ H1 _ n e) fun u s2 ⟨y,H2,c,k,m⟩=>?_
 exact hf v u s2 x y H2 c g k m
theorem pe_op {op:Operator} {r:R2} (d:OpR X (binaryOp op) r) (g:PE X a ta) (f:PE X b tb):PE X (.BinOp a op b pos) (tOp r ta tb):=by
 intro pins s σ H Q I h
 exact wpAny_BinOp (DN g f I h fun v u s2 x y H2 c i e q=>d pins s2 σ H2 x y v u Q c i e q)
theorem pe_un {op:UnaryOp} {r:V->Hp->VK->Prop} (c:UnR X (unaryOp op) r) (e:PE X a ta):PE X (.UnaryOp op a pos) (tUn r ta):=by
 intro pins s σ H Q I h
 exact UnaryOp_ (thn (e pins s σ H _ I h) fun v s1 ⟨x,H1,f,b,d⟩=>c pins s1 σ H1 x v Q f b d)
theorem opI {f:Value->Value->Sem Value} {C:Int->Int->Prop} {g:Int->Int->Int}
  (rule:∀ (i j:Int) (t u:Tok) (s:Shared) (Q:Value->Shared->Prop) (E:Value->Shared->Prop),C i j->Q (.int (g i j) s.toks) { s with toks:=s.toks+1 }->wpAny (model X.prog X.w) X.A (f (.int i t) (.int j u)) Q E s) :
  OpR X f (rI C fun i j=>.int (g i j)):=by
 intro pins s σ H x y v u Q I b a h
 obtain ⟨i,j,rfl,rfl,c,q⟩:=h
 obtain ⟨t,rfl⟩:=b
 obtain ⟨t',rfl⟩:=a
 exact rule i j t t' s _ _ c ⟨.int (g i j),H,I.tok _,⟨_,rfl⟩,q⟩
theorem opI0 {f:Value->Value->Sem Value} {g:Int->Int->Int}
  (rule:∀ (i j:Int) (t u:Tok) (s:Shared) (Q:Value->Shared->Prop) (E:Value->Shared->Prop),Q (.int (g i j) s.toks) { s with toks:=s.toks+1 }->wpAny (model X.prog X.w) X.A (f (.int i t) (.int j u)) Q E s) :
  OpR X f (rI0 fun i j=>.int (g i j)):=by
 intro pins s σ H x y v u Q I b a h
 obtain ⟨i,j,rfl,rfl,q⟩:=h
 obtain ⟨t,rfl⟩:=b
 obtain ⟨t',rfl⟩:=a
 exact rule i j t t' s _ _ ⟨.int (g i j),H,I.tok _,⟨_,rfl⟩,q⟩
theorem Ap {f:Value->Value->Sem Value} {g:Int->Int->Bool}
  (rule:∀ (i j:Int) (t u:Tok) (s:Shared) (Q:Value->Shared->Prop) (E:Value->Shared->Prop),Q (.bool (g i j)) s->wpAny (model X.prog X.w) X.A (f (.int i t) (.int j u)) Q E s) :
  OpR X f (rI0 fun i j=>.bl (g i j)):=by
 intro pins s σ H x y v u Q I b a h
 obtain ⟨i,j,rfl,rfl,q⟩:=h
 obtain ⟨t,rfl⟩:=b
 obtain ⟨t',rfl⟩:=a
 exact rule i j t t' s _ _ ⟨.bl (g i j),H,I,rfl,q⟩
def vP (i j:Int):Prop:=0 < j/\j < 1073741824
def zj (i j:Int):Prop:=0<=j/\j<=1000000/\i.natAbs < 2 ^ 64
def CMul (i j:Int):Prop:=(-(2 ^ 64) < i/\i < 2 ^ 64)\/(-(2 ^ 64) < j/\j < 2 ^ 64)
theorem CMul.ok {i j:Int} (h:CMul i j):IntMulOk i j:=by
 rcases h with ⟨h1,h2⟩ | ⟨h1,h2⟩
 ·exact .of_left (intBits_le_64 h1 h2)
 ·exact .of_right (intBits_le_64 h1 h2)
theorem op_add:OpR X (binaryOp .Add) (rI0 fun i j=>.int (i+j)):=opI0 fun _ _ _ _ _ _ _ q=>add_int q
theorem C5:OpR X (binaryOp .Sub) (rI0 fun i j=>.int (i - j)):=opI0 fun _ _ _ _ _ _ _ q=>sub_int q
theorem C8:OpR X (binaryOp .Mult) (rI CMul fun i j=>.int (i * j)):=opI fun _ _ _ _ _ _ _ a q=>mul_int q a.ok
theorem C9:OpR X (binaryOp .Mod) (rI (fun _ j=>0 < j) fun i j=>.int (i % j)):=opI fun i j _ _ _ _ _ a q=>by
 have h1:(0:Int) < j:=a
 exact mod_int' (by omega) (by rw [Int.fmod_eq_emod_of_nonneg i (by omega)];exact q)
theorem C6:OpR X (binaryOp .Pow) (rI zj fun i j=>.int (i ^ j.toNat)):=opI fun _ _ _ _ _ _ _ a q=>pow_int_small a.1 a.2.1 a.2.2 q
theorem unI {f:Value->Sem Value} {g:Int->Int}
  (rule:∀ (i:Int) (t:Tok) (s:Shared) (Q:Value->Shared->Prop) (E:Value->Shared->Prop),Q (.int (g i) s.toks) { s with toks:=s.toks+1 }->wpAny (model X.prog X.w) X.A (f (.int i t)) Q E s) :
  UnR X f (rU fun i=>.int (g i)):=by
 intro pins s σ H x v Q I a h
 obtain ⟨i,rfl,q⟩:=h
 obtain ⟨t,rfl⟩:=a
 exact rule i t s _ _ ⟨.int (g i),H,I.tok _,⟨_,rfl⟩,q⟩
theorem BK:UnR X (unaryOp .USub) (rU fun i=>.int (-i)):=unI fun _ _ _ _ _ q=>neg_int q
end
def Cf:V->V->Bool
 | .non,.non=>true | .non,.int _=>true | .int _,.non=>true | .non,.bl _=>true | .bl _,.non=>true | .non,.str _=>true | .str _,.non=>true
 | .int _,.int _=>true | .bl _,.bl _=>true | .str _,.str _=>true | .byt _,.byt _=>true
 | .int _,.str _=>true | .str _,.int _=>true | .bl _,.str _=>true | .str _,.bl _=>true
 | _,_=>false
def rEq:R2:=fun x y H Q=>Cf x y=true/\Q (.bl (decide (x=y))) H
def rNe:R2:=fun x y H Q=>Cf x y=true/\Q (.bl (!decide (x=y))) H
theorem t8 {i j:Int}:decide (V.int i=V.int j)=(i == j):=by
 rw [Bool.eq_iff_iff]
 simp
theorem yP {i j:Bool}:decide (V.bl i=V.bl j)=(i == j):=by
 rw [Bool.eq_iff_iff]
 simp
theorem t7 {i j:Str}:decide (V.str i=V.str j)=(i == j):=by
 rw [Bool.eq_iff_iff]
 simp
theorem t9 {i j:Array UInt8}:decide (V.byt i=V.byt j)=(i.toList == j.toList):=by
 rw [Bool.eq_iff_iff]
 cases i
 cases j
 simp
section
variable {X:Cx} {a b c:Expr} {ta tb tc:TE} {pos:Pos}
theorem aQ {pins:List (Addr × Obj)} {σ:St} {H:Hp} {s:Shared} {Q:VK} {k a:Bool} (I:Inv X pins σ H s) (q:Q (.bl k) H) (e:k=a):EP X pins σ Q (.bool a) s:=by
 subst e
 exact ⟨.bl k,H,I,rfl,q⟩
theorem op_eq:OpR X (compareOp .Eq) rEq:=by
 intro pins s σ H x y v u Q I c a h
 obtain ⟨b,q⟩:=h
 cases x with
 | non =>
  cases c
  cases y with
  | non=>cases a;exact PySem.EqNone.eq_none_none (aQ I q (by simp))
  | bl j=>cases a;exact PySem.EqNone.eq_none_bool (aQ I q (by simp))
  | int j=>obtain ⟨t',rfl⟩:=a;exact PySem.EqNone.eq_none_int (aQ I q (by simp))
  | str j=>obtain ⟨t',rfl⟩:=a;exact PySem.EqNone.eq_none_str (aQ I q (by simp))
  | _=>exact absurd (show false=true from b) Ev
 | bl i =>
  cases c
  cases y with
  | non=>cases a;exact PySem.EqNone.eq_bool_none (aQ I q (by simp))
  | bl j=>cases a;exact eq_bool (aQ I q yP)
  | str j=>obtain ⟨t',rfl⟩:=a;exact PySem.EqMixed.eq_bool_str (aQ I q (by simp))
  | _=>exact absurd (show false=true from b) Ev
 | int i =>
  obtain ⟨t,rfl⟩:=c
  cases y with
  | non=>cases a;exact PySem.EqNone.eq_int_none (aQ I q (by simp))
  | int j=>obtain ⟨t',rfl⟩:=a;exact eq_int (aQ I q t8)
  | str j=>obtain ⟨t',rfl⟩:=a;exact PySem.EqMixed.eq_int_str (aQ I q (by simp))
  | _=>exact absurd (show false=true from b) Ev
 | str i =>
  obtain ⟨t,rfl⟩:=c
  cases y with
  | non=>cases a;exact PySem.EqNone.eq_str_none (aQ I q (by simp))
  | bl j=>cases a;exact PySem.EqMixed.eq_str_bool (aQ I q (by simp))
  | int j=>obtain ⟨t',rfl⟩:=a;exact PySem.EqMixed.eq_str_int (aQ I q (by simp))
  | str j=>obtain ⟨t',rfl⟩:=a;exact eq_str (aQ I q t7)
  | _=>exact absurd (show false=true from b) Ev
 | byt i =>
  obtain ⟨t,rfl⟩:=c
  cases y with
  | byt j=>obtain ⟨t',rfl⟩:=a;exact PySem.W.eq_bytes (aQ I q t9)
  | _=>exact absurd (show false=true from b) Ev
 | _=>cases y <;> exact absurd (show false=true from b) Ev
theorem op_ne:OpR X (compareOp .NotEq) rNe:=by
 intro pins s σ H x y v u Q I c a h
 obtain ⟨b,q⟩:=h
 cases x with
 | non =>
  cases c
  cases y with
  | non=>cases a;exact PySem.EqNone.ne_none_none (aQ I q (by simp))
  | bl j=>cases a;exact PySem.EqNone.ne_none_bool (aQ I q (by simp))
  | int j=>obtain ⟨t',rfl⟩:=a;exact PySem.EqNone.ne_none_int (aQ I q (by simp))
  | str j=>obtain ⟨t',rfl⟩:=a;exact PySem.EqNone.ne_none_str (aQ I q (by simp))
  | _=>exact absurd (show false=true from b) Ev
 | bl i =>
  cases c
  cases y with
  | non=>cases a;exact PySem.EqNone.ne_bool_none (aQ I q (by simp))
  | bl j=>cases a;exact ne_bool (aQ I q (congrArg not yP))
  | str j=>obtain ⟨t',rfl⟩:=a;exact PySem.EqMixed.ne_bool_str (aQ I q (by simp))
  | _=>exact absurd (show false=true from b) Ev
 | int i =>
  obtain ⟨t,rfl⟩:=c
  cases y with
  | non=>cases a;exact PySem.EqNone.ne_int_none (aQ I q (by simp))
  | int j=>obtain ⟨t',rfl⟩:=a;exact ne_int (aQ I q (congrArg not t8))
  | str j=>obtain ⟨t',rfl⟩:=a;exact PySem.EqMixed.ne_int_str (aQ I q (by simp))
  | _=>exact absurd (show false=true from b) Ev
 | str i =>
  obtain ⟨t,rfl⟩:=c
  cases y with
  | non=>cases a;exact PySem.EqNone.ne_str_none (aQ I q (by simp))
  | bl j=>cases a;exact PySem.EqMixed.ne_str_bool (aQ I q (by simp))
  | int j=>obtain ⟨t',rfl⟩:=a;exact PySem.EqMixed.ne_str_int (aQ I q (by simp))
  | str j=>obtain ⟨t',rfl⟩:=a;exact ne_str (aQ I q (congrArg not t7))
  | _=>exact absurd (show false=true from b) Ev
 | byt i =>
  obtain ⟨t,rfl⟩:=c
  cases y with
  | byt j=>obtain ⟨t',rfl⟩:=a;exact PySem.W.ne_bytes (aQ I q (congrArg not t9))
  | _=>exact absurd (show false=true from b) Ev
 | _=>cases y <;> exact absurd (show false=true from b) Ev
theorem tJ:OpR X (compareOp .Lt) (rI0 fun i j=>.bl (decide (i < j))):=Ap fun _ _ _ _ _ _ _ q=>lt_int q
theorem mH:OpR X (compareOp .LtE) (rI0 fun i j=>.bl (decide (i<=j))):=Ap fun _ _ _ _ _ _ _ q=>le_int q
theorem Bu:OpR X (compareOp .Gt) (rI0 fun i j=>.bl (decide (j < i))):=Ap fun _ _ _ _ _ _ _ q=>gt_int q
theorem op_ge:OpR X (compareOp .GtE) (rI0 fun i j=>.bl (decide (j<=i))):=Ap fun _ _ _ _ _ _ _ q=>ge_int q
theorem Da : OpR X (compareOp .Is) (fun x y H Q => y = .non /\ Q (.bl (decide (x = .non))) H) := by
  intro pins s σ H x y v u Q I a b h
  obtain ⟨rfl, q⟩ := h
  cases b
  refine is_none_gen (aQ I q ?_)
  cases x <;> first
    | (cases a; rfl)
    | (obtain ⟨t, rfl⟩ := a; rfl)
theorem OpR.or {f:Value->Value->Sem Value} {r a:R2} (h:OpR X f r) (h':OpR X f a):OpR X f (fun x y H Q=>r x y H Q\/a x y H Q):=by
 intro pins s σ H x y v u Q I c b q
 rcases q with q | q
 ·exact h pins s σ H x y v u Q I c b q
 ·exact h' pins s σ H x y v u Q I c b q
theorem fK (b : Expr) {op : CmpOp} (h : op ≠ .In := by decide) (h2 : op ≠ .NotIn := by decide) : behindInMarks op b = false := by
  have e1 : (op == CmpOp.In) = false := by cases op <;> first | rfl | exact absurd rfl h
  have a : (op == CmpOp.NotIn) = false := by cases op <;> first | rfl | exact absurd rfl h2
  cases b <;> simp [behindInMarks, e1, a]
theorem Am {op:CmpOp} {r:R2} (d:OpR X (compareOp op) r) (g:PE X a ta) (f:PE X b tb) (hm:behindInMarks op b=false):PE X (.Compare a [op] [b] pos) (tOp r ta tb):=by
 intro pins s σ H Q I h
 exact wpAny_Compare1 (DN g f I h fun v u s2 x y H2 c i e q=>d pins s2 σ H2 x y v u Q c i e q) hm
def tTest (t:TE):TT:=fun σ H Q=>t σ H fun x H'=>∃ k,x=.bl k/\Q k H'
theorem Aa {op:CmpOp} {r:R2} (g:OpR X (compareOp op) r) (o:PE X a ta) (n:PE X b tb) (hm:behindInMarks op b=false):PT X (.Compare a [op] [b] pos) (tTest (tOp r ta tb)):=by
 intro pins s σ H Q I h
 refine wpAny_isTrue_Compare1 (thn (o pins s σ H _ I h) fun v s1 ⟨x,H1,w,m,l⟩=>thn (n pins s1 σ H1 _ w l) fun u s2 ⟨y,H2,d,p,q⟩ =>
  thn (g pins s2 σ H2 x y v u _ d m p q) fun c s3 ⟨z,f,t,i,k,e,j⟩=>?_) hm
 subst e
 cases i
 exact ER ⟨f,t,j⟩
def qT (r d:R2) (ta tb tc:TE):TE:=fun σ H Q=>ta σ H fun x H1=>tb σ H1 fun y H2=>r x y H2 fun z a=>∃ k,z=.bl k /\
 (if k=true then tc σ a fun c b=>d y c b Q else Q (.bl false) a)
theorem pD {op f:CmpOp} {r j:R2} (F:OpR X (compareOp op) r) (g:OpR X (compareOp f) j) (L:PE X a ta) (w:PE X b tb) (B:PE X c tc)
  (hm:lastMarks [op,f] [b,c]=false:=by with_unfolding_all rfl):PE X (.Compare a [op,f] [b,c] pos) (qT r j ta tb tc):=by
 intro pins s σ H Q I h
 refine Compare_chain (thn (L pins s σ H _ I h) fun v s1 ⟨x,H1,D,t,J⟩=>chain_link (thn (w pins s1 σ H1 _ D J) fun u s2 ⟨y,H2,o,m,C⟩ =>
  thn (F pins s2 σ H2 x y v u _ o t m C) fun d s3 ⟨z,i,n,p,k,e,l⟩=>?_)) hm
 subst e
 cases p
 refine ER ?_
 cases k with
 | false=>exact ite_ff ⟨.bl false,i,n,rfl,l⟩
 | true=>exact ite_tt (chain_last (thn (B pins s3 σ i _ n l) fun K s4 ⟨E,q,A,G,M⟩=>g pins s4 σ q y E u K Q A m G M))
theorem nW:(sizeLine:Nat) < 2 ^ 63:=by rw [sizeLine_eq];decide
theorem op_add_str:OpR X (binaryOp .Add) (fun x y H Q=>∃ i j,x=.str i/\y=.str j/\i.length+j.length<=sizeLine/\Q (.str (i ++ j)) H):=by
 intro pins s σ H x y v u Q I b a h
 obtain ⟨i,j,rfl,rfl,hz,q⟩:=h
 obtain ⟨t,rfl⟩:=b
 obtain ⟨t',rfl⟩:=a
 exact add_str (fun t' tk=>⟨.str (i ++ j),H,I.tok _,⟨_,rfl⟩,q⟩) hz
theorem d8 {x:V} {us:List Value} (r:Vals [x] us):∃ u,us=[u]/\RelV x u:=by
 cases r with
 | cons r1 r2=>cases r2;exact ⟨_,rfl,r1⟩
theorem l7 {x y:V} {us:List Value} (r:Vals [x,y] us):∃ u a,us=[u,a]/\RelV x u/\RelV y a:=by
 cases r with
 | cons r1 r2 =>
  cases r2 with
  | cons r3 r4=>cases r4;exact ⟨_,_,rfl,r1,r3⟩
theorem yX:cp X (.builtin "abs") (fun xs H Q=>∃ i,xs=[.int i]/\Q (.int (if i < 0 then -i else i)) H):=by
 intro pins s σ H xs us Q I r h
 obtain ⟨i,rfl,q⟩:=h
 obtain ⟨u,rfl,t,rfl⟩:=d8 r
 exact call_abs_int fun u tk=>⟨.int (if i < 0 then -i else i),H,I.tok _,⟨_,rfl⟩,q⟩
theorem vF (b:X.calm=true):cp X (.builtin "max") (fun xs H Q=>∃ i j,xs=[.int i,.int j]/\Q (.int (if j > i then j else i)) H):=by
 intro pins s σ H xs us Q I r h
 obtain ⟨i,j,rfl,q⟩:=h
 obtain ⟨u,c,rfl,⟨t,rfl⟩,⟨t',rfl⟩⟩:=l7 r
 refine max_two_ints (I.ok.hd b) fun h' tk k=>⟨_,H,I.kept k,?_,q⟩
 by_cases a:j > i
 ·rw [if_pos a,if_pos a];exact ⟨_,rfl⟩
 ·rw [if_neg a,if_neg a];exact ⟨_,rfl⟩
theorem vE (b:X.calm=true):cp X (.builtin "min") (fun xs H Q=>∃ i j,xs=[.int i,.int j]/\Q (.int (if j < i then j else i)) H):=by
 intro pins s σ H xs us Q I r h
 obtain ⟨i,j,rfl,q⟩:=h
 obtain ⟨u,c,rfl,⟨t,rfl⟩,⟨t',rfl⟩⟩:=l7 r
 refine min_two_ints (I.ok.hd b) fun h' tk k=>⟨_,H,I.kept k,?_,q⟩
 by_cases a:j < i
 ·rw [if_pos a,if_pos a];exact ⟨_,rfl⟩
 ·rw [if_neg a,if_neg a];exact ⟨_,rfl⟩
theorem qu:cp X (.builtin "divmod") (fun xs H Q=>∃ i j,xs=[.int i,.int j]/\vP i j/\∀ p,H p=none->Q (.ref p) (upd H p (.tup [.int (i / j),.int (i % j)]))):=by
 intro pins s σ H xs us Q I r h
 obtain ⟨i,j,rfl,⟨h1,h2⟩,q⟩:=h
 obtain ⟨u,c,rfl,⟨t,rfl⟩,⟨t',rfl⟩⟩:=l7 r
 refine divmod_int (by omega) ?_ (.inl (PyProof.noPylong_small (by omega)))
 rw [Int.fdiv_eq_ediv_of_nonneg i (by omega),Int.fmod_eq_emod_of_nonneg i (by omega)]
 have a:H s.heap.objs.size=none:=I.hok.fresh (Eu _)
 refine ⟨.ref s.heap.objs.size,_,?_,rfl,q _ a⟩
 refine I.laid (fun b o e=>Ee _ e) (Eu _) ⟨by simp only [EF,List.length_nil];rw [sizeLine_eq];decide,[.int (i / j) s.toks,.int (i % j) (s.toks+1)],.cons ⟨_,rfl⟩ (.cons ⟨_,rfl⟩ .nil),?_⟩
 exact ⟨_,Em s.heap rfl,rfl,0,rfl⟩
end
end L2
namespace L2
open PySem PySem.Spec PyProof.Rows
theorem RelO.some_of {v:V} {o:Option Value} (r:RelO (some v) o):∃ u,o=some u/\RelV v u:=by
 cases o with
 | none=>exact (show False from r).elim
 | some u=>exact ⟨u,rfl,r⟩
end L2
namespace L2
open PySem PySem.Spec PyProof.Rows
structure Room (k:Nat) (A:Around):Prop where
 hd:A.handled=none
 dp:A.depth+3 * k+5 < recursionLimit
 un:A.units+16 * k+200 < cLine
 gd:A.guards=some []
theorem Room.mono {j k:Nat} {A:Around} (r:Room k A) (h:j<=k):Room j A:=⟨r.hd,by have:=r.dp;omega,by have:=r.un;omega,r.gd⟩
theorem Room.deeper {k:Nat} {A:Around} (r:Room (k+1) A) (env:Env):Room k (A.deeper env) :=
 ⟨r.hd,by have:=r.dp;show A.depth+1+3 * k+5 < _;omega,by have:=r.un;show A.units+3+16 * k+200 < _;omega,r.gd⟩
theorem Room.depth {k:Nat} {A:Around} (r:Room k A):A.depth < recursionLimit:=by have:=r.dp;omega
theorem Room.units {k:Nat} {A:Around} (r:Room k A):A.units+64 < cLine:=by have:=r.un;omega
def tNil:TA:=fun _ H Q=>Q [] H
def Bj (ta:TE) (a:TA):TA:=fun σ H Q=>ta σ H fun x H1=>a σ H1 fun xs H2=>Q (x :: xs) H2
section
variable {X:Cx} {e:Expr} {es:List Expr} {te:TE} {t:TA} {pos:Pos}
theorem nO:PA X [] tNil:=fun _ _ _ _ H Q I h=>Calls.spliced_nil ⟨[],H,I,.nil,h⟩
theorem jf (i:PE X e te) (c:PA X es t) (d:starEach (e :: es) X.env=(false,eval e X.env) :: starEach es X.env:=by rfl):PA X (e :: es) (Bj te t):=by
 intro pos pins s σ H Q I h
 rw [d]
 show wpAny _ _ (spliced ((false,eval e X.env) :: backTo pos (starEach es X.env))) _ _ s
 refine Calls.spliced_cons (thn (i pins s σ H _ I h) fun u s1 ⟨x,H1,b,g,f⟩=>?_)
 exact thn (c pos pins s1 σ H1 _ b f) fun us s2 ⟨xs,H2,a,j,k⟩=>⟨x :: xs,H2,a,.cons g j,k⟩
def tTup (t:TA):TE:=fun σ H Q=>t σ H fun xs H1=>xs.length<=sizeLine/\∀ p,H1 p=none->Q (.ref p) (upd H1 p (.tup xs))
def tLst (t:TA):TE:=fun σ H Q=>t σ H fun xs H1=>xs.length<=sizeLine/\∀ p,H1 p=none->Q (.ref p) (upd H1 p (.lst xs))
theorem xx {x1} (h:PA X es t):PE X (.Tuple es x1 pos) (tTup t):=by
 intro pins s σ H Q I c
 refine wpAny_Tuple_spliced (thn (h pos pins s σ H _ I c) fun us s1 ⟨xs,H1,a,r,z,q⟩=>⟨by rw [<- r.length];exact z,?_⟩)
 have hf:H1 s1.heap.objs.size=none:=a.hok.fresh (Eu _)
 refine ⟨.ref s1.heap.objs.size,upd H1 s1.heap.objs.size (.tup xs),a.laid (t':=s1.toks) (fun b u e=>Ee _ e) (Eu _) ?_,rfl,q _ hf⟩
 exact ⟨z,us,r,⟨_,Em _ rfl,rfl,_,rfl⟩⟩
theorem CY (h:PA X es t):PE X (.List es pos) (tLst t):=by
 intro pins s σ H Q I c
 refine wpAny_List_spliced (thn (h pos pins s σ H _ I c) fun us s1 ⟨xs,H1,a,r,z,q⟩=>⟨by rw [<- r.length];exact z,?_⟩)
 have hf:H1 s1.heap.objs.size=none:=a.hok.fresh (Eu _)
 refine ⟨.ref s1.heap.objs.size,upd H1 s1.heap.objs.size (.lst xs),a.laid (t':=s1.toks) (fun b u e=>Ee _ e) (Eu _) ?_,rfl,q _ hf⟩
 exact ⟨z,us,0,r,Em _ rfl⟩
end
abbrev Sp:=List V->Hp->VK->XK->Prop
abbrev CXT:=List Env->Hp->Shared->XK->Value->Shared->Prop
structure Env0 (P:Program) (w:World) (K:FG) (mg:Str->Option Value) (base:Heap) (A:Around) (outer:List Env) (s:Shared) (H:Hp):Prop where
 frames:A.frames=some outer
 mod:Mod K mg base
 bs:∀ b o,base.get? b=some o->s.heap.get? b=some o/\H b=none
 bsz:base.objs.size<=s.heap.objs.size
 funs:s.heap.FunFrames base outer
 frf:∀ b ∈ frs outer,H b=none
 hok:HOk P w H s.heap
 bare:AllBare s.gens
def CE (outer:List Env) (P:Program) (w:World) (H:Hp) (s:Shared) (Q:VK) (u:Value) (s':Shared):Prop :=
 ∃ v H',s'.os=s.os/\AllBare s'.gens/\Un (frs outer) [] H H' s.heap s'.heap/\HOk P w H' s'.heap/\RelV v u/\Q v H'
def CR (CX:CXT) (outer:List Env) (P:Program) (w:World) (H:Hp) (s:Shared) (Q:VK) (E:XK) (r:Result) (s':Shared):Prop :=
 match r with
 | .ok (.ret u)=>CE outer P w H s Q u s'
 | .ok _=>False
 | .error e=>CX outer H s E e s'
structure FnOk (P:Program) (w:World) (K:FG) (mg:Str->Option Value) (base:Heap) (CX:CXT) (k:Nat) (f:Addr) (fd:FuncData) (ps:List Str) (sp:Sp):Prop where
 len:∀ vs H Q E,sp vs H Q E->vs.length=ps.length
 run:∀ (A:Around) (outer:List Env) (s:Shared) (H:Hp) (args:Args) (us:List Value) (vs:List V) (Q:VK) (E:XK),Room k A->Env0 P w K mg base A outer s H->BindsTo s fd args (ps.zip us)->Vals vs us->sp vs H Q E ->
  codeAny (model P w) A (.call (.ref f) args) (CR CX outer P w H s Q E) s
theorem FnOk.imp {P:Program} {w:World} {K:FG} {mg:Str->Option Value} {base:Heap} {CX:CXT} {k:Nat} {f:Addr} {fd:FuncData} {ps:List Str} {sp b:Sp} (F:FnOk P w K mg base CX k f fd ps sp)
  (h:∀ a H Q E,b a H Q E->sp a H Q E):FnOk P w K mg base CX k f fd ps b :=
 ⟨fun a H Q E q=>F.len a H Q E (h _ _ _ _ q),fun A outer s H args us a Q E c he g e d=>F.run A outer s H args us a Q E c he g e (h _ _ _ _ d)⟩
section
variable {X:Cx} {pins:List (Addr × Obj)} {σ:St} {H:Hp} {s s':Shared}
theorem Inv.env0 (I:Inv X pins σ H s):Env0 X.prog X.w X.K X.mg X.base X.A X.stack s H :=
 ⟨I.ok.frames,I.ok.mod,I.bs,ES I.ok.bsz I.sz,I.stack,I.stkFree,I.hok,I.bare⟩
theorem Inv.after {Q:VK} {u:Value} (I:Inv X pins σ H s) (h:CE X.stack X.prog X.w H s Q u s'):EP X pins σ Q u s':=by
 obtain ⟨v,H',os,bare,un,hok,r,q⟩:=h
 obtain ⟨c,g,d,t,a⟩:=s'
 obtain rfl:a=s.os:=os
 exact ⟨v,H',I.call (h':=c) (g':=g) (d':=d) (t':=t) (ch:=[]) un hok bare (fun b z=>absurd z (by simp)),r,q⟩
end
def tCall (sp:Sp) (dvs:List V) (E:XK) (t:TA):TE:=fun σ H Q=>t σ H fun a H1=>sp (a ++ dvs) H1 Q E
def Binds (K:FG) (fd:FuncData) (ps:List Str) (ds:List Value):Prop :=
 ∀ (s:Shared) (us:List Value),K.In s.heap->(us ++ ds).length=ps.length->BindsTo s fd ⟨us,[]⟩ (ps.zip (us ++ ds))
theorem Binds.all {K:FG} {fd:FuncData} {ps:List Str} (h:∀ us:List Value,us.length=ps.length->bindArgs fd ⟨us,[]⟩=pure (ps.zip us)):Binds K fd ps []:=fun s us _ a=>by
 rw [List.append_nil] at a ⊢
 exact .of_eq (h us a)
def sM (CX:CXT) (X:Cx) (E:XK):Prop:=∀ (pins:List (Addr × Obj)) (σ:St) (H:Hp) (s:Shared) (e:Value) (s':Shared),Inv X pins σ H s->CX X.stack H s E e s'->X.xe e s'
section
variable {X:Cx} {CX:CXT} {k:Nat} {f C:Addr} {fd:FuncData} {ps:List Str} {sp:Sp} {dvs:List V} {ds:List Value} {E:XK} {x m:Str} {p pos apos:Pos} {e o:Expr} {es:List Expr} {ta:TE} {t:TA}
theorem Cl {pins:List (Addr × Obj)} {σ:St} {H:Hp} {s:Shared} {Q:VK} {us:List Value} {b:List V} (F:FnOk X.prog X.w X.K X.mg X.base CX k f fd ps sp) (i:Room k X.A) (j:Binds X.K fd ps ds) (hd:Vals dvs ds) (g:sM CX X E)
  (I:Inv X pins σ H s) (r:Vals b us) (h:sp (b ++ dvs) H Q E):wpAny (model X.prog X.w) X.A (call (.ref f) us) (EP X pins σ Q) X.xe s:=by
 have c:Vals (b ++ dvs) (us ++ ds):=r.append hd
 have d:(us ++ ds).length=ps.length:=by rw [<- c.length];exact F.len _ _ _ _ h
 refine wpAny_call (codeAny_mono (F.run X.A X.stack s H ⟨us,[]⟩ (us ++ ds) (b ++ dvs) Q E i I.env0 (j s us I.kIn d) c h) fun r s' a=>?_)
 cases r with
 | error e=>exact g pins σ H s e s' I a
 | ok fl =>
  cases fl with
  | ret u=>exact I.after a
  | next=>exact False.elim a
  | brk=>exact False.elim a
  | cont=>exact False.elim a
theorem An (F:FnOk X.prog X.w X.K X.mg X.base CX k f fd ps sp) (g:Room k X.A) (j:Gl X x) (hm:X.mg x=some (.ref f)) (i:PySem.W.keepIn X.K (.ref f)=true) (l:Binds X.K fd ps ds) (hd:Vals dvs ds) (d:sM CX X E)
  (m:PA X (e :: es) t) (a:(x == ("__debug__":Str))=false:=by decide) (he:starEach (e :: es) X.env=(false,eval e X.env) :: starEach es X.env:=by rfl) (b:(backTo pos (starEach es X.env)).any (·.1)=false:=by rfl) :
  PE X (.Call (.Name x p) (e :: es) [] pos) (tCall sp dvs E t):=by
 intro pins s σ H Q I h
 refine wpAny_Call_Name_kw (tO I j hm ?_ a)
 refine PySem.W.callWith_K (h₀:=X.base) I.ok.mod.kin i (thn (m pos pins s σ H _ I h) fun us s1 ⟨n,H1,c,r,q⟩=>⟨c.kIn,?_⟩) he b
 exact Cl F g l hd d c r q
end
structure FnScope (N P:List Str) (sc:Scope):Prop where
 kind:sc.kind=.function
 co:sc.isCoroutine=false
 gen:sc.isGenerator=false
 nd:N.Nodup
 pre:N.take P.length=P
 par:∀ x ∈ P,sc.names.lookup x=some .local\/sc.names.lookup x=some .cell
 nofree:∀ y ∈ sc.names,y.2 ≠ .free
theorem m7 {kindOf:Str->Option NameKind} {x:Str}:∀ {binds:List (Str × Value)} {m:Str->Option Value},(∀ v,(x,v) ∉ binds)->bindL kindOf binds m x=m x
 | [],_,_=>rfl
 | (n,v) :: r,m,h=>by
  unfold bindL
  rw [m7 fun w hw=>h w (Ed _ hw)]
  split
  ·have:x ≠ n:=by rintro rfl;exact h v Ec
   simp [this]
  ·rfl
theorem m9 {kindOf:Str->Option NameKind} {x:Str}:∀ {binds:List (Str × Value)} {m:Str->Option Value},(∀ v,(x,v) ∉ binds)->bindC kindOf binds m x=m x
 | [],_,_=>rfl
 | (n,v) :: r,m,h=>by
  unfold bindC
  rw [m9 fun w hw=>h w (Ed _ hw)]
  split
  ·rfl
  ·have:x ≠ n:=by rintro rfl;exact h v Ec
   simp [this]
theorem m8 {kindOf:Str->Option NameKind} {x:Str} {v:Value}:∀ {P:List Str} {a:List Value} {i:Nat} {m:Str->Option Value},P.Nodup->P[i]?=some x->a[i]?=some v->kindOf x=some .local ->
  bindL kindOf (P.zip a) m x=some v
 | [],_,_,_,_,h,_,_=>by simp at h
 | _ :: _,[],_,_,_,_,h,_=>by simp at h
 | p :: P,w :: a,0,m,nd,h1,h2,hk=>by
  simp at h1 h2;subst h1;subst h2
  show bindL kindOf ((p,w) :: P.zip a) m p=_
  unfold bindL
  rw [m7 fun v b=>(List.nodup_cons.mp nd).1 (List.of_mem_zip b).1,if_pos hk]
  simp
 | p :: P,w :: a,i+1,m,nd,h1,h2,hk=>by
  show bindL kindOf ((p,w) :: P.zip a) m x=_
  unfold bindL
  exact m8 (i:=i) (List.nodup_cons.mp nd).2 (by simpa using h1) (by simpa using h2) hk
theorem nc {kindOf:Str->Option NameKind} {x:Str} {v:Value}:∀ {P:List Str} {a:List Value} {i:Nat} {m:Str->Option Value},P.Nodup->P[i]?=some x->a[i]?=some v->kindOf x ≠ some .local ->
  bindC kindOf (P.zip a) m x=some v
 | [],_,_,_,_,h,_,_=>by simp at h
 | _ :: _,[],_,_,_,_,h,_=>by simp at h
 | p :: P,w :: a,0,m,nd,h1,h2,hk=>by
  simp at h1 h2;subst h1;subst h2
  show bindC kindOf ((p,w) :: P.zip a) m p=_
  unfold bindC
  rw [m9 fun v b=>(List.nodup_cons.mp nd).1 (List.of_mem_zip b).1,if_neg hk]
  simp
 | p :: P,w :: a,i+1,m,nd,h1,h2,hk=>by
  show bindC kindOf ((p,w) :: P.zip a) m x=_
  unfold bindC
  exact nc (i:=i) (List.nodup_cons.mp nd).2 (by simpa using h1) (by simpa using h2) hk
def j4 (N:List Str) (a:List V):St:=a.map some ++ List.replicate (N.length - a.length) none
def qh (CX:CXT) (P:Program) (w:World) (K:FG) (mg:Str->Option Value) (base:Heap) (N:List Str) (qual:Str) (scope:Scope) (f:Addr) (cd:Value) (A:Around) (outer:List Env) (s:Shared) (H:Hp) (E:XK):Cx where
 prog:=P
 w:=w
 K:=K
 mg:=mg
 base:=base
 A:=A.deeper (envOfC qual scope s.heap.objs.size f cd)
 N:=N
 s₀:=s
 H₀:=H
 env:=envOfC qual scope s.heap.objs.size f cd
 outer:=outer
 stack:=envOfC qual scope s.heap.objs.size f cd :: outer
 ex:=[]
 calm:=true
 fn:=fun _=>true
 pn:=[]
 xe:=fun e s'=>wpAny (model P w) (A.deeper (envOfC qual scope s.heap.objs.size f cd)) (leaving (envOfC qual scope s.heap.objs.size f cd) e) (fun _ a=>CX outer H s E e a) (fun b a=>CX outer H s E b a) s'
theorem qo {sc:Scope} {n:Nat} {x:Str} (h:sc.names.lookup x=some .cell):∃ c,(cellsFrom n sc.names []).lookup x=some c:=by
 have q:=PySem.W.cellsFrom_some sc.names n [] (.inl h)
 exact Option.isSome_iff_exists.mp q
theorem vm {CX:CXT} {P:Program} {w:World} {K:FG} {mg:Str->Option Value} {base:Heap} {N ps:List Str} {qual:Str} {scope:Scope} {f:Addr} {cd:Value} {A:Around} {outer:List Env} {s s1:Shared} {H:Hp} {E:XK} {us:List Value} {g:List V}
  (S:FnScope N ps scope) (hd:A.handled=none) (d:Env0 P w K mg base A outer s H) (F:g.length=ps.length) (r:Vals g us)
  (x:InCallC s s.heap.objs.size (bindL (envOfC qual scope s.heap.objs.size f cd).kindOf (ps.zip us) fun _=>none) (cellsFrom (s.heap.objs.size+1) scope.names []) (bindC (envOfC qual scope s.heap.objs.size f cd).kindOf (ps.zip us) fun _=>none) s1) :
  Inv (qh CX P w K mg base N qual scope f cd A outer s H E) [] (j4 N g) H s1:=by
 have B:ps.length<=N.length:=by have:=congrArg List.length S.pre;rw [EG] at this;omega
 obtain ⟨h1,tk,rfl,t⟩:=x.done
 have l:∀ b:Addr,b ∉ (qh CX P w K mg base N qual scope f cd A outer s H E).ex:=fun b z=>absurd (show b ∈ ([]:List Addr) from z) (by simp)
 refine ⟨⟨d.mod,S.kind,rfl,rfl,Eu _,fun y z c h1 h2=>?_,fun y j=>?_,fun y c _ h=>?_,fun _=>hd,Around.frames_deeper d.frames,.inr ⟨rfl,rfl⟩,fun b z=>absurd z (l b),d.bs,d.bsz,fun b _ _=>l b,fun b z=>absurd z (l b),d.funs,d.frf⟩,
  rfl,d.bare,Un.kept t,⟨_,x.toInCall.ns,fun i y v h1 h2 h3=>?_⟩,fun y c h=>⟨_,x.cell y c h⟩,d.hok.fresh (Eu _),fun y c h=>?_,fun p o=>absurd (show p ∈ ([]:List (Addr × Obj)) from o) (by simp),d.hok.kept t,?_⟩
 ·exact name_of_addr x.apart (PySem.mem_of_lookup h1) (PySem.mem_of_lookup h2)
 ·have j:scope.names.lookup y=some .cell\/scope.names.lookup y=some .free:=j
  rcases j with j | j
  ·exact qo j
  ·exact absurd rfl (S.nofree _ (PySem.mem_of_lookup j))
 ·exact Nat.le_of_lt (x.above y c (PySem.mem_of_lookup h))
 ·have hi:i < g.length:=by
   unfold j4 at h2
   by_cases hi:i < g.length
   ·exact hi
   ·rw [List.getElem?_append_right (by simpa using hi)] at h2
    rw [List.getElem?_replicate] at h2
    split at h2 <;> cases h2
  have D:g[i]?=some v:=by
   unfold j4 at h2
   rw [EN (by simpa using hi),Et] at h2
   cases e:g[i]? with
   | none=>rw [e] at h2;cases h2
   | some a=>rw [e] at h2;cases h2;rfl
  obtain ⟨u,hu,C⟩:=r.get D
  have o:ps[i]?=some y:=by
   rw [<- S.pre,List.getElem?_take_of_lt (by omega)];exact h1
  have m:ps.Nodup:=by rw [<- S.pre];exact S.nd.sublist (List.take_sublist _ _)
  refine ⟨u,C,?_⟩
  rcases S.par y (Ep o) with k | k
  ·exact .inl ⟨k,m8 m o hu k⟩
  ·obtain ⟨c,e⟩:=qo (n:=s.heap.objs.size+1) k
   refine .inr ⟨.inl k,c,e,?_⟩
   have q:=x.cell y c e
   rw [nc m o hu (by show scope.names.lookup y ≠ _;rw [k];decide)] at q
   exact q
 ·exact d.hok.fresh (Nat.le_of_lt (x.above y c (PySem.mem_of_lookup h)))
 ·unfold j4
  show _=N.length
  rw [EE,En,List.length_replicate]
  omega
theorem fn_of {CX:CXT} {P:Program} {w:World} {K:FG} {mg:Str->Option Value} {base:Heap} {k:Nat} {f:Addr} {name qual:Str} {params:Arguments} {body:List Stmt} {scope:Scope} {C kV doc pm a ct R:Value} {an D:Option Addr}
  {m:Array (Option Value)} {N ps:List Str} {sp:Sp} (G:K.lookup f=some ⟨R,D,.func (PySem.W.fnOf name qual params body scope C kV doc pm an a ct),m⟩) (p:PySem.W.codeIn K a qual=true) (S:FnScope N ps scope)
  (len:∀ c H Q E,sp c H Q E->c.length=ps.length)
  (g:∀ (A:Around) (outer:List Env) (s:Shared) (H:Hp) (c:List V) (Q:VK) (E:XK),Room k (A.deeper (envOfC qual scope s.heap.objs.size f a))->sp c H Q E ->
   ∃ t,PSs (qh CX P w K mg base N qual scope f a A outer s H E) body t/\t { nx:=fun _ H'=>Q .non H',rt:=Q } (j4 N c) H) :
  FnOk P w K mg base CX (k+1) f (PySem.W.fnOf name qual params body scope C kV doc pm an a ct) ps sp:=by
 refine ⟨len,fun A outer s H args us c Q E l i F r j=>?_⟩
 have M:=len _ _ _ _ j
 have B:K.In s.heap:=i.mod.kin.keeps fun b o e=>(i.bs b o e).1
 have lim:s.heap.NoLimit:=i.mod.nolimit.keeps fun b o e=>(i.bs b o e).1
 have d:∀ y ∈ ps.zip us,scope.names.lookup y.1=some .local\/(scope.names.lookup y.1=some .cell/\((cellsFrom (s.heap.objs.size+1) scope.names []).lookup y.1).isSome=true):=fun ⟨n,v⟩ T=>by
  rcases S.par n (List.of_mem_zip T).1 with q | q
  ·exact .inl q
  ·exact .inr ⟨q,PySem.W.cellsFrom_some _ _ _ (.inl q)⟩
 refine codeAny_call_function l.depth (B _ _ G) rfl S.co S.gen rfl (PySem.W.codeRec_of B p) (F _ _ _ _ ?_)
 refine wpAny_newFunctionEnv_cells S.kind d fun env he s1 x=>?_
 subst he
 refine ⟨lim.keeps x.toInCall.keep,codeAny_func ?_⟩
 obtain ⟨t,L,O⟩:=g A outer s H c Q E (l.deeper _) j
 have I:Inv (qh CX P w K mg base N qual scope f a A outer s H E) [] (j4 N c) H s1:=vm S l.hd i M r x
 refine wpAny_mono (L [] s1 (j4 N c) H _ I O) (fun fl s' h=>?_) fun e s' h=>h
 have fin:∀ {σ':St} {H':Hp} {v:V} {u:Value},Inv (qh CX P w K mg base N qual scope f a A outer s H E) [] σ' H' s'->RelV v u->Q v H'->CE outer P w H s Q u s' :=
  fun {σ' H' v u} J z q=>⟨v,H',J.os,J.bare,J.base,J.hok,z,q⟩
 cases fl with
 | ret u =>
  obtain ⟨v,σ',H',J,z,q⟩:=h
  exact fin J z q
 | next =>
  obtain ⟨σ',H',J,q⟩:=h
  exact fin (v:=V.non) (u:=Value.none) J rfl q
 | brk =>
  obtain ⟨_,_,_,q⟩:=h
  exact False.elim q
 | cont =>
  obtain ⟨_,_,_,q⟩:=h
  exact False.elim q
end L2
namespace L2
open PySem PySem.Spec PyProof.Rows
section
variable {X:Cx} {x:Str} {p pos:Pos} {e:Expr} {es:List Expr} {t:TA} {id T:String} {r:List V->Hp->VK->Prop}
def tCB (r:List V->Hp->VK->Prop) (t:TA):TE:=fun σ H Q=>t σ H fun a H1=>r a H1 Q
theorem lg (l:cp X (.builtin id) r) (c:Gl X x) (hm:X.mg x=none) (d:bootBuiltins x=some (.builtin id)) (j:PA X (e :: es) t) (g:x ≠ "__name__":=by decide) (a:(x == ("__debug__":Str))=false:=by decide)
  (he:starEach (e :: es) X.env=(false,eval e X.env) :: starEach es X.env:=by rfl) (b:(backTo pos (starEach es X.env)).any (·.1)=false:=by rfl):PE X (.Call (.Name x p) (e :: es) [] pos) (tCB r t):=by
 intro pins s σ H Q I h
 refine wpAny_Call_Name_kw (jJ I c hm d ?_ g a)
 exact PyProof.Rows.callWith_builtin1 (thn (j pos pins s σ H _ I h) fun us s1 ⟨k,H1,m,i,f⟩=>l pins s1 σ H1 k us Q m i f) he b
theorem mF (l:cp X (.type T) r) (c:Gl X x) (hm:X.mg x=none) (d:bootBuiltins x=some (.type T)) (j:PA X (e :: es) t) (g:x ≠ "__name__":=by decide) (a:(x == ("__debug__":Str))=false:=by decide)
  (he:starEach (e :: es) X.env=(false,eval e X.env) :: starEach es X.env:=by rfl) (b:(backTo pos (starEach es X.env)).any (·.1)=false:=by rfl):PE X (.Call (.Name x p) (e :: es) [] pos) (tCB r t):=by
 intro pins s σ H Q I h
 refine wpAny_Call_Name_kw (jJ I c hm d ?_ g a)
 exact PyProof.Rows.callWith_type1 (thn (j pos pins s σ H _ I h) fun us s1 ⟨k,H1,m,i,f⟩=>l pins s1 σ H1 k us Q m i f) he b
end
end L2
namespace HT
open PySem PyProof.Rows
def lexLt:List Int->List Int->Bool
 | [],[]=>false
 | [],_ :: _=>true
 | _ :: _,[]=>false
 | x :: xs,y :: ys=>if x=y then lexLt xs ys else decide (x < y)
theorem lexLt_cons (x y:Int) (xs ys:List Int):lexLt (x :: xs) (y :: ys)=if x=y then lexLt xs ys else decide (x < y):=rfl
theorem lexLt_nil_nil:lexLt [] []=false:=rfl
theorem lexLt_nil_cons (y:Int) (ys:List Int):lexLt [] (y :: ys)=true:=rfl
theorem lexLt_cons_nil (x:Int) (xs:List Int):lexLt (x :: xs) []=false:=rfl
theorem yJ (A:Around) (s:Shared) (a:Int) (t:Tok) (c:Int) (u:Tok):∃ e,SeqAt.EqAt A s (.int a t) (.int c u) e/\(e=true ↔ a=c) :=
 ⟨(a == c),SeqAt.EqAt.int_int a t c u,by simp⟩
theorem rcLt_int (A:Around) (s:Shared) (a:Int) (t:Tok) (c:Int) (u:Tok) (prog:Program) (w:World) (E:Value->Shared->Prop) (Q:Value->Shared->Prop) (h:Q (.bool (decide (a < c))) s) :
  wpAny (model prog w) A (richCompare .Lt (.int a t) (.int c u)) Q E s :=
 (PyProof.Rows.lt_int h:wpAny (model prog w) A (compareOp .Lt (.int a t) (.int c u)) Q E s)
section
open PySem.SeqAt
open PySem.AutoSeq1 (wpAny_loadPart')
open PySem.MeetsSeq PySem.MeetsSeq2 PySem.MeetsSeq3
theorem tuple_lt_ints (l b:Addr) (items f:Array Value) (n J:Nat) (H B:Option Addr) (sl C:Array (Option Value)) (ns ms:List Int) (hi:IntsAre items.toList ns) (F:IntsAre f.toList ms) :
  Meets (Builtin.«tuple.__lt__» ⟨[.ref l,.ref b],[]⟩)
   (fun _ R s=>s.heap.get? l=some { cls:=.type "tuple",dict:=H,data:=.seq items n,slots:=sl }/\s.heap.get? b=some { cls:=.type "tuple",dict:=B,data:=.seq f J,slots:=C } /\
    R (.ok (.ret (.bool (lexLt ns ms)))) s) :=
 .of_wp fun prog w A R s h=>by
  obtain ⟨z,g,d,tk,os⟩:=s;obtain ⟨G,I,h⟩:=h
  have f2:=AutoSeq1.sub_tuple_tuple
  have K:items.size=ns.length:=by rw [<- hi.length];simp
  have L:f.size=ms.length:=by rw [<- F.length];simp
  wp_walk using wpAny_loadPart' G,wpAny_loadPart' I,wpAny_forIn_list _ (fun d5 b s'=>b.1=none/\s'=⟨z,g,d,tk,os⟩/\∃ (v ws:List Value) (i j:List Int),d5=v.zip ws /\
   IntsAre v i/\IntsAre ws j/\i.length+f.size=j.length+items.size/\R (.ok (.ret (.bool (lexLt i j)))) ⟨z,g,d,tk,os⟩) _
  case turn =>
   rintro ⟨y,x⟩ d5 b s' ⟨p,rfl,v,ws,i,j,hz,r,k,hlen,o⟩
   cases r with
   | nil=>rw [List.zip_nil_left] at hz;cases hz
   | cons a t hvi' =>
    cases k with
    | nil=>rw [List.zip_nil_right] at hz;cases hz
    | cons c u hwi' =>
     rw [List.zip_cons_cons] at hz
     injection hz with hyx hrest
     injection hyx with hy hx
     subst hy hx
     rw [lexLt_cons] at o
     simp only [EF] at hlen
     obtain ⟨e,he,m⟩:=yJ A.in1 ⟨z,g,d,tk,os⟩ a t c u
     refine DZ (he prog w _ _ ?_)
     cases e with
     | true =>
      rw [if_pos (m.mp rfl)] at o
      wp_walk
      exact ⟨rfl,rfl,_,_,_,_,hrest,hvi',hwi',by omega,o⟩
     | false =>
      rw [if_neg (fun q=>absurd (m.mpr q) Ev)] at o
      have D:=rcLt_int A.in1 ⟨z,g,d,tk,os⟩ a t c u prog w
      wp_walk using D
      exact ⟨_,rfl,by simpa using o⟩
  case fin =>
   rintro ⟨b1,b2⟩ s' ⟨p,rfl,v,ws,i,j,hz,r,k,hlen,o⟩
   simp only at p
   subst p
   have E:lexLt i j=decide (items.size < f.size):=by
    cases r with
    | nil =>
     cases k with
     | nil =>
      simp only [List.length_nil] at hlen
      rw [lexLt_nil_nil]
      exact (EA (by omega)).symm
     | cons c u hw =>
      simp only [List.length_nil,EF] at hlen
      rw [lexLt_nil_cons]
      exact (Ez (by omega)).symm
    | cons a t E =>
     cases k with
     | nil =>
      simp only [List.length_nil,EF] at hlen
      rw [lexLt_cons_nil]
      exact (EA (by omega)).symm
     | cons c u hw =>
      rw [List.zip_cons_cons] at hz
      cases hz
   rw [E] at o
   wp_walk
   exact ⟨_,rfl,by simpa [Builtin.Tuple.tupleCompareSizes] using o⟩
  case h =>
   exact ⟨rfl,rfl,items.toList,f.toList,ns,ms,rfl,hi,F,by omega,h⟩
end
section
variable {prog:Program} {w:World} {A:Around} {E:Value->Shared->Prop} {s:Shared}
theorem cat_tup {t b:Addr} {c ws:List Value} {Q:Value->Shared->Prop} (p:IsTup s.heap t c.toArray) (o:IsTup s.heap b ws.toArray) (l:c ≠ [])
  (h1:ws=[]->Q (.ref t) s) (h2:ws ≠ []->Q (.ref s.heap.objs.size) { s with heap:=s.heap.push { cls:=.type "tuple",data:=.seq (c ++ ws).toArray } })
  (hsz:c.length+ws.length<=sizeLine):wpAny (model prog w) A (binaryOp .Add (.ref t) (.ref b)) Q E s:=by
 obtain ⟨⟨cls,j,data,sl⟩,h,m,n,hd⟩:=id p
 obtain ⟨⟨i,d,data2,g⟩,a,f,k,hd2⟩:=id o
 simp only at m hd f hd2
 subst m hd f hd2
 have e:c.toArray ++ ws.toArray=(c ++ ws).toArray:=by simp
 by_cases hw:ws=[]
 ·exact concat_meets ⟨_,h,rfl⟩ ⟨_,a,rfl⟩ noFill_tuple_add seq_tuple_add PySem.F.slot_tuple_add PySem.F.entry_tuple_add (PySem.F.args_tuple_add_2 _ _)
   (tuple_addW1 t b c.toArray ws.toArray n k j d sl g (by simpa using l) (by simp [hw])) ⟨h,a,h1 hw⟩
 ·refine concat_meets ⟨_,h,rfl⟩ ⟨_,a,rfl⟩ noFill_tuple_add seq_tuple_add PySem.F.slot_tuple_add PySem.F.entry_tuple_add (PySem.F.args_tuple_add_2 _ _)
   (tuple_addW2 t b c.toArray ws.toArray n k j d sl g (by simpa using l) (by simpa using hw) (by rw [Ex,Ex];exact hsz)) ⟨h,a,?_⟩
  rw [e]
  exact h2 hw
def sIx (n d:Nat):Option Int->Nat
 | none=>d
 | some v=>if v < 0 then (v+(n:Int)).toNat else min v.toNat n
theorem sIx_nat (n d k:Nat):sIx n d (some (k:Int))=min k n:=by
 show (if (k:Int) < 0 then ((k:Int)+(n:Int)).toNat else min (k:Int).toNat n)=min k n
 rw [if_neg (by omega),Int.toNat_natCast]
theorem Cg (n d:Nat) (hd:d<=n) (o:Option Int):sIx n d o<=n:=by
 cases o with
 | none=>exact hd
 | some v =>
  show (if v < 0 then (v+(n:Int)).toNat else min v.toNat n)<=n
  by_cases a:v < 0
  ·rw [if_pos a];omega
  ·rw [if_neg a];exact Nat.min_le_right _ _
theorem uc (v:Int) (n d:Nat):(if v < 0 then max (v+(n:Int)) 0 else min v (n:Int))=((sIx n d (some v):Nat):Int):=by
 show (if v < 0 then max (v+(n:Int)) 0 else min v (n:Int))=(((if v < 0 then (v+(n:Int)).toNat else min v.toNat n):Nat):Int)
 by_cases a:v < 0
 ·simp only [if_pos a];omega
 ·simp only [if_neg a];omega
theorem sL (lo hi:Option Int) (n:Nat):Builtin.Slice.sliceAdjust lo hi 1 (n:Int)=(((sIx n 0 lo:Nat):Int),((sIx n n hi:Nat):Int)):=by
 have h1:¬ ((1:Int) < 0):=by omega
 unfold Builtin.Slice.sliceAdjust
 simp only [h1,if_false]
 refine Prod.ext ?_ ?_
 ·cases lo with
  | none=>rfl
  | some v=>exact uc v n 0
 ·cases hi with
  | none=>rfl
  | some v=>exact uc v n n
theorem rC (i j:Nat):Builtin.Slice.slicePlaces (i:Int) (j:Int) 1=j - i:=by
 unfold Builtin.Slice.slicePlaces
 have h1:(1:Int) > 0:=by omega
 simp only [h1,if_true,Int.ediv_one]
 split <;> omega
theorem slicePart_ {v:Value} {o:Option Int} {Q:Option Int->Shared->Prop} (p:IsPart v o) (h:Q o s):wpAny (model prog w) A (Builtin.Slice.slicePartIndex v) Q E s:=by
 cases p with
 | none=>exact slicePart_none h
 | int i t=>exact slicePart_int h
theorem eW {sl:Addr} {c d:Value} {lo hi:Option Int} {n:Nat} {Q:Int × Int × Nat->Shared->Prop} (f:s.heap.IsSliceOf sl c d .none) (pl:IsPart c lo) (pu:IsPart d hi)
  (h:Q (((sIx n 0 lo:Nat):Int),1,sIx n n hi - sIx n 0 lo) s):wpAny (model prog w) A (Builtin.Slice.sliceApplied (.ref sl) (pure (n:Int))) Q E s:=by
 obtain ⟨os,b,e,a⟩:=id f
 unfold Builtin.Slice.sliceApplied Builtin.Slice.sliceFields
 refine DZ (DZ (wpAny_field b a (x:=c) rfl (DZ (wpAny_field b a (x:=d) rfl (DZ (wpAny_field b a (x:=.none) rfl (Ea ?_)))))))
 refine DZ (slicePart_none ?_)
 show wpAny _ _ (if ((1:Int) == 0)=true then _ else _) _ _ s
 rw [if_neg (by decide)]
 refine DZ (slicePart_ pl (DZ (slicePart_ pu (DZ (Ea ?_)))))
 show wpAny _ _ (match Builtin.Slice.sliceAdjust lo hi 1 (n:Int) with | (lo,hi)=>pure (lo,(1:Int),Builtin.Slice.slicePlaces lo hi 1)) _ _ s
 rw [sL lo hi n]
 show wpAny _ _ (pure (((sIx n 0 lo:Nat):Int),(1:Int),Builtin.Slice.slicePlaces ((sIx n 0 lo:Nat):Int) ((sIx n n hi:Nat):Int) 1)) _ _ s
 rw [rC]
 exact Ea h
theorem xv (xs:Array Value) (i k:Nat):((List.range k).filterMap fun (m:Nat)=>xs[((i:Int)+(m:Int) * 1).toNat]?).toArray=((xs.toList.drop i).take k).toArray:=by
 have e:(fun (m:Nat)=>xs[((i:Int)+(m:Int) * 1).toNat]?)=fun m=>xs[i+m]?:=by
  funext m
  have:((i:Int)+(m:Int) * 1).toNat=i+m:=by omega
  rw [this]
 rw [e]
 have:=pick_run xs i k
 rw [List.filterMap_map] at this
 have a:((fun x=>xs[x]?) ∘ fun x=>i+x)=fun m=>xs[i+m]?:=rfl
 rw [a] at this
 rw [this]
theorem getItem_tuple_cut {t sl:Addr} {items:Array Value} {g j:Value} {lo hi:Option Int} {Q:Value->Shared->Prop} (b:IsTup s.heap t items) (i:s.heap.IsSliceOf sl g j .none) (pl:IsPart g lo) (pu:IsPart j hi)
  (hw:¬ (sIx items.size 0 lo=0/\sIx items.size items.size hi=items.size))
  (h:Q (.ref s.heap.objs.size) { s with heap:=s.heap.push { cls:=.type "tuple",data:=.seq ((items.toList.drop (sIx items.size 0 lo)).take (sIx items.size items.size hi - sIx items.size 0 lo)).toArray } })
  (hsz:items.size<=sizeLine):wpAny (model prog w) A (getItem (.ref t) (.ref sl)) Q E s:=by
 have a:sizeOk (.seq ((items.toList.drop (sIx items.size 0 lo)).take (sIx items.size items.size hi - sIx items.size 0 lo)).toArray):=by
  show ((items.toList.drop (sIx items.size 0 lo)).take (sIx items.size items.size hi - sIx items.size 0 lo)).toArray.size<=sizeLine
  rw [Ex,EG,List.length_drop,Array.length_toList]
  omega
 have n:sIx items.size items.size hi<=items.size:=Cg _ _ (Eu _) hi
 obtain ⟨os,c,d,k⟩:=id i
 have e:s.TypeIs (.ref sl) "slice":=⟨os,c,d⟩
 unfold getItem
 try with_reducible refine Eb ?_
 first | refine DZ (Ea ?_) | skip
 refine DZ (wpAny_sequenceKey b.typeIs (by decide) ?_)
 refine DZ (wpAny_callSpecial?_slot (name:=Str.ofString "__getitem__") b.typeIs PyProof.Rows.slot_tuple_getitem
  (wpAny_call_entry PyProof.Rows.slot_tuple_getitem b.typeIs entry_tuple_getitem ?_ (args_tuple_getitem _ _)))
 show wpAny _ _ (Builtin.Tuple.tupleItemsOf (.ref t) >>= _) _ _ s
 refine DZ (tupleItemsOf_ b ?_)
 refine DZ (wpAny_typeOf e ?_)
 rw [if_pos (by decide)]
 refine DZ (eW i pl pu ?_)
 have f:¬ ((((sIx items.size 0 lo:Nat):Int) == 0 && (1:Int) == 1 && (sIx items.size items.size hi - sIx items.size 0 lo) == items.size)=true):=by
  intro q
  rw [Bool.and_eq_true,Bool.and_eq_true] at q
  have l:((sIx items.size 0 lo:Nat):Int)=0:=eq_of_beq q.1.1
  have o:sIx items.size items.size hi - sIx items.size 0 lo=items.size:=eq_of_beq q.2
  exact hw ⟨by omega,by omega⟩
 show wpAny _ _ (if (((sIx items.size 0 lo:Nat):Int) == 0 && (1:Int) == 1 && (sIx items.size items.size hi - sIx items.size 0 lo) == items.size)=true then _ else _) _ _ s
 rw [if_neg f,xv]
 first
  | exact DZ (m:=Builtin.Tuple.tupleExact _) (wpAny_newObj_type (Ea ⟨_,rfl,Ea h⟩) a)
  | exact DZ (m:=Builtin.Tuple.tupleExact _) (wpAny_newObj_type (DZ (Ea (Ea ⟨_,rfl,Ea h⟩))) a)
  | exact DZ (DZ (m:=Builtin.Tuple.tupleExact _) (wpAny_newObj_type (Ea (Ea ⟨_,rfl,Ea h⟩)) a))
  | exact DZ (DZ (m:=Builtin.Tuple.tupleExact _) (wpAny_newObj_type (Ea ⟨_,rfl,Ea h⟩) a))
end
end HT
namespace L2
open PySem PySem.Spec PyProof.Rows
abbrev TO:=St->Hp->(Option Int->Hp->Prop)->Prop
def PO (X:Cx) (e:Option Expr) (t:TO):Prop :=
 ∀ (pins:List (Addr × Obj)) (s:Shared) (σ:St) (H:Hp) (Q:Option Int->Hp->Prop),Inv X pins σ H s->t σ H Q ->
  wpAny (model X.prog X.w) X.A (evalPart e X.env) (fun u s'=>∃ o H',Inv X pins σ H' s'/\IsPart u o/\Q o H') X.xe s
def zr:TO:=fun _ H Q=>Q none H
def tPart (t:TE):TO:=fun σ H Q=>t σ H fun x H1=>∃ i,x=.int i/\Q (some i) H1
theorem ly {ns:List Int}:∀ {us:List Value},Vals (ns.map V.int) us->IntsAre us ns:=by
 induction ns with
 | nil=>intro us r;rw [List.map_nil] at r;cases r;exact .nil
 | cons n ns ih =>
  intro us r
  rw [Ey] at r
  cases r with
  | cons r1 r2 =>
   obtain ⟨t,e⟩:=r1
   subst e
   exact .cons n t (ih r2)
section
variable {X:Cx} {e:Expr} {te:TE} {lo hi:Option Expr} {tl th:TO} {pos p2:Pos}
theorem Ag:PO X none zr:=by
 intro pins s σ H Q I h
 rw [evalPart_none]
 exact Ea ⟨none,H,I,.none,h⟩
theorem Af (h:PE X e te):PO X (some e) (tPart te):=by
 intro pins s σ H Q I hw
 rw [evalPart_some]
 refine thn (h pins s σ H _ I hw) fun u s1 ⟨x,H1,c,b,a⟩=>?_
 obtain ⟨i,rfl,q⟩:=a
 obtain ⟨t,rfl⟩:=b
 exact ⟨some i,H1,c,.int i t,q⟩
def SlR (X:Cx) (r:V->Option Int->Option Int->Hp->VK->Prop):Prop :=
 ∀ (pins:List (Addr × Obj)) (s:Shared) (σ:St) (H:Hp) (x:V) (v a b:Value) (lo hi:Option Int) (sl:Addr) (Q:VK),Inv X pins σ H s->RelV x v->s.heap.IsSliceOf sl a b .none->IsPart a lo->IsPart b hi->r x lo hi H Q ->
  ∃ T id,typeLookup (.type T) "__getitem__"=pure (some (.builtin id))/\s.TypeIs v T/\wpAny (model X.prog X.w) X.A (getItem v (.ref sl)) (EP X pins σ Q) X.xe s
theorem SlR.or {r c:V->Option Int->Option Int->Hp->VK->Prop} (h:SlR X r) (h':SlR X c):SlR X (fun x lo hi H Q=>r x lo hi H Q\/c x lo hi H Q):=by
 intro pins s σ H x v a d lo hi sl Q I e b pl pu q
 rcases q with q | q
 ·exact h pins s σ H x v a d lo hi sl Q I e b pl pu q
 ·exact h' pins s σ H x v a d lo hi sl Q I e b pl pu q
def tSl (r:V->Option Int->Option Int->Hp->VK->Prop) (te:TE) (tl th:TO):TE:=fun σ H Q=>te σ H fun x H1=>tl σ H1 fun l H2=>th σ H2 fun u a=>r x l u a Q
theorem xz {r:V->Option Int->Option Int->Hp->VK->Prop} (n:SlR X r) (he:PE X e te) (g:PO X lo tl) (hu:PO X hi th):PE X (.Subscript e (.Slice lo hi none p2) pos) (tSl r te tl th):=by
 intro pins s σ H Q I h
 refine Subscript_ (thn (he pins s σ H _ I h) fun v s1 ⟨x,H1,m,i,t⟩=>?_)
 refine wpAny_Slice (thn (g pins s1 σ H1 _ m t) fun c s2 ⟨l,H2,f,pl,k⟩=>thn (hu pins s2 σ H2 _ f k) fun a s3 ⟨u,d,B,pu,p⟩=>?_)
 rw [evalPart_none]
 refine Ea ?_
 have j:Inv X pins σ d { s3 with heap:=s3.heap.push { cls:=.type "slice",data:=.fields #[c,a,.none] } }:=B.kept (t':=s3.toks) fun b ob q=>Ee _ q
 obtain ⟨T,id,y,z,o⟩:=n pins { s3 with heap:=s3.heap.push { cls:=.type "slice",data:=.fields #[c,a,.none] } } σ d x v c a l u s3.heap.objs.size Q j i (Heap.IsSliceOf.new ..) pl pu p
 show wpAny (model X.prog X.w) X.A (subscriptTail e (.Slice lo hi none p2) v (.ref s3.heap.objs.size)) (EP X pins σ Q) X.xe { s3 with heap:=s3.heap.push { cls:=.type "slice",data:=.fields #[c,a,.none] } }
 exact tail_any (ops:=[.ref s3.heap.objs.size,v]) z y o (by with_unfolding_all rfl)
def qi (xs:List V) (lo hi:Option Int):List V:=(xs.drop (HT.sIx xs.length 0 lo)).take (HT.sIx xs.length xs.length hi - HT.sIx xs.length 0 lo)
theorem ku (xs:List V) (lo hi:Option Int):(qi xs lo hi).length<=xs.length:=by
 unfold qi
 rw [EG,List.length_drop]
 omega
def CI (K:FG):V->Option Int->Option Int->Hp->VK->Prop:=fun x lo hi H Q=>∃ a xs,x=.ref a/\SqT K H a xs /\
 ¬ (HT.sIx xs.length 0 lo=0/\HT.sIx xs.length xs.length hi=xs.length)/\∀ p,H p=none->Q (.ref p) (upd H p (.tup (qi xs lo hi)))
theorem sl_tup:SlR X (CI X.K):=by
 intro pins s σ H x v g i lo hi sl Q I f e pl pu h
 obtain ⟨a,xs,rfl,d,hw,q⟩:=h
 cases f
 obtain ⟨its,r,c,hz⟩:=I.tuple d
 have hlen:its.toArray.size=xs.length:=by rw [Ex];exact r.length.symm
 refine ⟨"tuple",_,PyProof.Rows.slot_tuple_getitem.lookup,c.typeIs,?_⟩
 refine HT.getItem_tuple_cut c e pl pu (by rw [hlen];exact hw) ?_ (by rw [hlen];exact hz)
 rw [hlen]
 refine ⟨.ref s.heap.objs.size,_,I.laid (t':=s.toks) (o:=.tup (qi xs lo hi)) (fun b ob q=>Ee _ q) (Eu _) ?_,rfl,q _ (I.hok.fresh (Eu _))⟩
 exact ⟨ES (ku xs lo hi) hz,_,(r.drop (HT.sIx xs.length 0 lo)).take (HT.sIx xs.length xs.length hi - HT.sIx xs.length 0 lo),IsTupD.new _ _⟩
def tD (K:FG):R2:=fun x y H Q=>∃ a b xs ys,x=.ref a/\y=.ref b/\SqT K H a xs/\SqT K H b ys/\xs ≠ []/\xs.length+ys.length<=sizeLine /\
 (ys=[]->Q (.ref a) H)/\(ys ≠ []->∀ p,H p=none->Q (.ref p) (upd H p (.tup (xs ++ ys))))
theorem Vals.nil_iff {xs:List V} {us:List Value} (r:Vals xs us):us=[] ↔ xs=[]:=by
 cases r with
 | nil=>simp
 | cons _ _=>simp
theorem op_catT:OpR X (binaryOp .Add) (tD X.K):=by
 intro pins s σ H x y v u Q I k g h
 obtain ⟨a,b,xs,ys,rfl,rfl,m,l,f,hz,i,n⟩:=h
 cases k
 cases g
 obtain ⟨its,d,j,_⟩:=I.tuple m
 obtain ⟨e,c,p2,_⟩:=I.tuple l
 refine HT.cat_tup j p2 (fun z=>f (d.nil_iff.mp z)) (fun z=>⟨.ref a,H,I,rfl,i (c.nil_iff.mp z)⟩) (fun z=>?_) (by rw [<- d.length,<- c.length];exact hz)
 refine ⟨.ref s.heap.objs.size,_,I.laid (t':=s.toks) (o:=.tup (xs ++ ys)) (fun b ob q=>Ee _ q) (Eu _) ?_,rfl,n (fun w=>z (c.nil_iff.mpr w)) _ (I.hok.fresh (Eu _))⟩
 exact ⟨by rw [EE];exact hz,_,d.append c,IsTupD.new _ _⟩
end
end L2
namespace L2
open PySem PySem.Spec PyProof.Rows
def ixN (n:Nat) (i:Int):Option Nat:=if 0<=i then (if i < n then some i.toNat else none) else if -(n:Int)<=i then some (i+n).toNat else none
def atI {α:Type} (xs:List α) (i:Int):Option α:=(ixN xs.length i).bind fun j=>xs[j]?
theorem tR {n:Nat} {i:Int} {j:Nat} (h:ixN n i=some j):seqIndex? i n=some j/\j < n/\-(n:Int)<=i/\i < n:=by
 unfold ixN at h
 by_cases h0:0<=i
 ·rw [if_pos h0] at h
  by_cases h1:i < n
  ·rw [if_pos h1] at h
   have e:i.toNat=j:=EW h
   exact ⟨by rw [seqIndex_of h0 h1,e],by omega,by omega,h1⟩
  ·rw [if_neg h1] at h;cases h
 ·rw [if_neg h0] at h
  by_cases h1:-(n:Int)<=i
  ·rw [if_pos h1] at h
   have e:(i+n).toNat=j:=EW h
   exact ⟨by rw [seqIndex_neg (by omega) h1,e],by omega,h1,by omega⟩
  ·rw [if_neg h1] at h;cases h
theorem uj {α:Type} {xs:List α} {i:Int} {v:α} (h:atI xs i=some v):∃ j,seqIndex? i xs.length=some j/\xs[j]?=some v/\j < xs.length/\-(xs.length:Int)<=i/\i < xs.length:=by
 unfold atI at h
 cases e:ixN xs.length i with
 | none=>rw [e] at h;cases h
 | some j =>
  rw [e] at h
  obtain ⟨h1,h2,h3,a⟩:=tR e
  exact ⟨j,h1,h,h2,h3,a⟩
def um (b:Expr):Prop:=∀ o i,subscripted b false o i=operate [o,i] (getItem o i)
def IxR (X:Cx) (r:R2):Prop :=
 ∀ (value slice:Expr) (pins:List (Addr × Obj)) (s:Shared) (σ:St) (H:Hp) (x y:V) (v u:Value) (Q:VK),Inv X pins σ H s->RelV x v->RelV y u->r x y H Q ->
  subscripted slice false v u=operate [v,u] (getItem v u)->wpAny (model X.prog X.w) X.A (subscriptTail value slice v u) (EP X pins σ Q) X.xe s
def MtR (X:Cx) (id:String) (r:V->List V->Hp->VK->Prop):Prop :=
 ∀ (pins:List (Addr × Obj)) (s:Shared) (σ:St) (H:Hp) (x:V) (xs:List V) (v:Value) (us:List Value) (Q:VK),Inv X pins σ H s->RelV x v->Vals xs us->r x xs H Q ->
  wpAny (model X.prog X.w) X.A (call (.builtin id) (v :: us)) (EP X pins σ Q) X.xe s
section
variable {X:Cx} {a b:Expr} {ta tb:TE} {pos:Pos}
theorem IxR.or {r b:R2} (h:IxR X r) (h':IxR X b):IxR X (fun x y H Q=>r x y H Q\/b x y H Q):=by
 intro value slice pins s σ H x y v u Q I d c q a
 rcases q with q | q
 ·exact h value slice pins s σ H x y v u Q I d c q a
 ·exact h' value slice pins s σ H x y v u Q I d c q a
theorem pe_ix {r:R2} (d:IxR X r) (i:PE X a ta) (g:PE X b tb) (e:um b):PE X (.Subscript a b pos) (tOp r ta tb):=by
 intro pins s σ H Q I h
 exact Subscript_ (DN i g I h fun v u s2 x y H2 c j f q=>d a b pins s2 σ H2 x y v u Q c j f q (e _ _))
def xi (K:FG):R2:=fun x y H Q=>∃ p xs i v,x=.ref p/\y=.int i/\SqL K H p xs/\atI xs i=some v/\Q v H
def xh (K:FG):R2:=fun x y H Q=>∃ p xs i v,x=.ref p/\y=.int i/\SqT K H p xs/\atI xs i=some v/\Q v H
theorem ix_list:IxR X (xi X.K):=by
 intro value slice pins s σ H x y v u Q I k f h c
 obtain ⟨p,xs,i,z,rfl,rfl,m,he,q⟩:=h
 cases k
 obtain ⟨t,rfl⟩:=f
 obtain ⟨its,r,pl,hz⟩:=I.list m
 obtain ⟨j,h1,h2,h3,l,g⟩:=uj he
 obtain ⟨w,d,a⟩:=r.get h2
 have e:=r.length
 have n:=nW
 have fin:EP X pins σ Q w s:=⟨z,H,I,a,q⟩
 by_cases h0:0<=i
 ·have b:i.toNat=j:=by
   rw [seqIndex_of h0 g] at h1
   exact EW h1
  exact item_listR pl.isList h0 (by omega) (by rw [b];simpa using d) fin c
 ·have b:(i+(its.toArray.size:Int)).toNat=j:=by
   rw [seqIndex_neg (by omega) l] at h1
   rw [Ex,<- e]
   exact EW h1
  exact subscriptTail_builtinR (x:=w) pl.isList.typeIs slot_list_getitem.lookup
   (wpAny_getItem_list_neg (Q:=fun r s'=>r=w/\EP X pins σ Q r s') pl.isList (by omega) (by rw [Ex] <;> omega) (by omega) (by rw [b];simpa using d) ⟨rfl,fin⟩) c
theorem Du:IxR X (xh X.K):=by
 intro value slice pins s σ H x y v u Q I e d h c
 obtain ⟨p,xs,i,z,rfl,rfl,f,he,q⟩:=h
 cases e
 obtain ⟨t,rfl⟩:=d
 obtain ⟨its,r,pl,hz⟩:=I.tuple f
 obtain ⟨j,h1,h2,h3,l,k⟩:=uj he
 obtain ⟨w,g,a⟩:=r.get h2
 have b:=r.length
 have m:=nW
 have fin:EP X pins σ Q w s:=⟨z,H,I,a,q⟩
 exact subscriptTail_builtinR (x:=w) pl.typeIs slot_tuple_getitem.lookup
  (getItem_tuple (j:=j) (Q:=fun r s'=>r=w/\EP X pins σ Q r s') pl (by omega) (by omega) (by rw [Ex,<- b];exact h1) (by simpa using g) ⟨rfl,fin⟩) c
theorem rM (its:List Value) (n j:Nat) (u:Value):Obj.mapSeq (·.setIfInBounds j u) { cls:=.type "list",data:=.seq its.toArray n } = { cls:=.type "list",data:=.seq (its.set j u).toArray n }:=by
 simp [Obj.mapSeq]
theorem Inv.lst {pins:List (Addr × Obj)} {σ:St} {H:Hp} {s:Shared} {p:Addr} {xs:List V} (I:Inv X pins σ H s) (h:H p=some (.lst xs)) :
  ∃ (its:List Value) (n:Nat),Vals xs its/\s.heap.get? p=some { cls:=.type "list",data:=.seq its.toArray n }/\xs.length<=sizeLine:=by
 obtain ⟨z,its,n,r,e⟩:=I.hok p _ h
 exact ⟨its,n,r,e,z⟩
theorem Inv.lstUpd {pins:List (Addr × Obj)} {σ:St} {H:Hp} {s:Shared} {p:Addr} {xs ys:List V} {its its':List Value} {n a:Nat} {f:Obj->Obj} (I:Inv X pins σ H s) (h:H p=some (.lst xs))
  (c:s.heap.get? p=some { cls:=.type "list",data:=.seq its.toArray n }) (hf:f { cls:=.type "list",data:=.seq its.toArray n } = { cls:=.type "list",data:=.seq its'.toArray a }) (r:Vals ys its') (hz:ys.length<=sizeLine) (t:Nat) :
  Inv X pins σ (upd H p (.lst ys)) { s with heap:=s.heap.update p f,toks:=t }:=by
 have e:(s.heap.update p f).get? p=some { cls:=.type "list",data:=.seq its'.toArray a }:=by
  rw [ED f c (by rw [hf] <;> rfl),hf]
 refine I.write (x:=p) (e:=p) (by rw [h];trivial) (.inl rfl) (fun b u d q=>(EO _ _ (Ne.symm d)).trans q) ⟨_,e⟩ ?_
 exact ⟨hz,its',a,r,e⟩
def tu:V->V->V->Hp->(Hp->Prop)->Prop:=fun o i v H Q=>∃ p xs k j,o=.ref p/\i=.int k/\H p=some (.lst xs)/\ixN xs.length k=some j/\Q (upd H p (.lst (xs.set j v)))
theorem ww:ze X tu:=by
 intro pins s σ H o i v ov y u Q I m g l h
 obtain ⟨p,xs,k,j,rfl,rfl,e,w,q⟩:=h
 cases m
 obtain ⟨t,rfl⟩:=g
 obtain ⟨its,n,r,c,hz⟩:=I.lst e
 obtain ⟨h1,h2,h3,d⟩:=tR w
 have a:=r.length
 have x:=nW
 have f:Inv X pins σ (upd H p (.lst (xs.set j v))) { s with heap:=s.heap.update p (Obj.mapSeq (·.setIfInBounds j u)) } :=
  I.lstUpd e c (rM its n j u) (r.set l j) (by rw [List.length_set];exact hz) s.toks
 by_cases h0:0<=k
 ·have b:k.toNat=j:=by
   rw [seqIndex_of h0 d] at h1
   exact EW h1
  exact PySem.W.ki_setAt c h0 (by omega) (by rw [Ex,<- a];exact d) (by rw [b];exact ⟨_,f,q⟩)
 ·have b:(k+(its.toArray.size:Int)).toNat=j:=by
   rw [seqIndex_neg (by omega) h3] at h1
   rw [Ex,<- a]
   exact EW h1
  exact PySem.W.ki_setBack c (by omega) (by rw [Ex,<- a];exact h3) (by omega) (by rw [b];exact ⟨_,f,q⟩)
theorem nv (lo hi:Option Int) (n:Nat):(sliceBounds lo hi none n).1=((HT.sIx n 0 lo:Nat):Int)/\(sliceBounds lo hi none n).2.1=((HT.sIx n n hi:Nat):Int)/\(sliceBounds lo hi none n).2.2=1:=by
 refine ⟨?_,?_,rfl⟩
 ·cases lo with
  | none=>simp [sliceBounds,HT.sIx]
  | some i =>
   simp only [sliceBounds,HT.sIx,Option.getD_none,show (1:Int) > 0 by decide,if_true]
   by_cases h:i < 0
   ·simp only [h,if_true] <;> omega
   ·simp only [h,if_false] <;> omega
 ·cases hi with
  | none=>simp [sliceBounds,HT.sIx]
  | some i =>
   simp only [sliceBounds,HT.sIx,Option.getD_none,show (1:Int) > 0 by decide,if_true]
   by_cases h:i < 0
   ·simp only [h,if_true] <;> omega
   ·simp only [h,if_false] <;> omega
theorem lO (its:List Value) (lo hi:Option Int):slicePick its.toArray lo hi none=((its.drop (HT.sIx its.length 0 lo)).take (HT.sIx its.length its.length hi - HT.sIx its.length 0 lo)).toArray:=by
 obtain ⟨h1,h2,h3⟩:=nv lo hi its.toArray.size
 unfold slicePick
 rw [h1,h2,h3]
 simp only [sliceRange_one,pick_run,Ex] <;> rfl
def CJ (K:FG):V->Option Int->Option Int->Hp->VK->Prop:=fun x lo hi H Q=>∃ a xs,x=.ref a/\SqL K H a xs/\∀ p,H p=none->Q (.ref p) (upd H p (.lst (qi xs lo hi)))
theorem sl_list:SlR X (CJ X.K):=by
 intro pins s σ H x v g i lo hi sl Q I f e pl pu h
 obtain ⟨a,xs,rfl,d,q⟩:=h
 cases f
 obtain ⟨its,r,c,hz⟩:=I.list d
 have hlen:=r.length
 refine ⟨"list",_,slot_list_getitem.lookup,c.isList.typeIs,?_⟩
 refine wpAny_getItem_list_slice c.isList e pl pu .none (by simp) ?_ (by rw [Ex] <;> omega)
 rw [lO,<- hlen]
 refine ⟨.ref s.heap.objs.size,_,I.laid (t':=s.toks) (o:=.lst (qi xs lo hi)) (fun b ob q=>Ee _ q) (Eu _) ?_,rfl,q _ (I.hok.fresh (Eu _))⟩
 exact ⟨ES (ku xs lo hi) hz,_,0,(r.drop (HT.sIx xs.length 0 lo)).take (HT.sIx xs.length xs.length hi - HT.sIx xs.length 0 lo),Em _ rfl⟩
theorem oC:cp X (.builtin "len") (fun xs H Q=>∃ p ys,xs=[.ref p]/\(SqL X.K H p ys\/SqT X.K H p ys)/\Q (.int ys.length) H):=by
 intro pins s σ H xs us Q I r h
 obtain ⟨p,ys,rfl,a,q⟩:=h
 obtain ⟨u,rfl,c⟩:=d8 r
 cases c
 have d:=nW
 rcases a with a | a
 ·obtain ⟨its,b,pl,hz⟩:=I.list a
  have hlen:=b.length
  exact Calls.call_len_list pl.isList (by simp only [Ex] <;> omega) ⟨.int ys.length,H,I.tok _,⟨s.toks+1,by rw [Ex,hlen]⟩,q⟩
 ·obtain ⟨its,b,pl,hz⟩:=I.tuple a
  have hlen:=b.length
  exact len_tuple pl (by simp only [Ex] <;> omega) ⟨.int ys.length,H,I.tok _,⟨s.toks+1,by rw [Ex,hlen]⟩,q⟩
theorem oB:cp X (.type "list") (fun xs H Q=>∃ p ys,xs=[.ref p]/\(SqL X.K H p ys\/SqT X.K H p ys)/\∀ l,H l=none->Q (.ref l) (upd H l (.lst ys))):=by
 intro pins s σ H xs us Q I r h
 obtain ⟨p,ys,rfl,d,q⟩:=h
 obtain ⟨u,rfl,i⟩:=d8 r
 cases i
 have fin:∀ (its:List Value),Vals ys its->ys.length<=sizeLine->∀ (h':Heap) (a:Nat),(∀ b o',s.heap.get? b=some o'->h'.get? b=some o') ->
   h'.get? s.heap.objs.size=some { cls:=.type "list",dict:=none,data:=.seq its.toArray a,slots:=#[] }->EP X pins σ Q (.ref s.heap.objs.size) { s with heap:=h' }:=fun its c hz h' a kp e =>
  ⟨.ref s.heap.objs.size,_,I.laid (t':=s.toks) kp (Eu _) (show ObjOk X.prog X.w _ h' _ (.lst ys) from ⟨hz,its,a,c,e⟩),rfl,q _ (I.hok.fresh (Eu _))⟩
 rcases d with d | d
 ·obtain ⟨its,c,pl,hz⟩:=I.list d
  have hlen:=c.length
  obtain ⟨o,g,f,n,hd⟩:=pl.isList
  exact call_list_seq p (.inl rfl) g f hd (fun h' a kp e=>fin its c hz h' a kp e) (by simp only [Ex] <;> omega)
 ·obtain ⟨its,c,pl,hz⟩:=I.tuple d
  have hlen:=c.length
  obtain ⟨o,g,f,n,hd⟩:=pl
  exact call_list_seq p (.inr rfl) g f hd (fun h' a kp e=>fin its c hz h' a kp e) (by simp only [Ex] <;> omega)
theorem lV:cp X (.type "tuple") (fun xs H Q=>∃ p ys,xs=[.ref p]/\((SqL X.K H p ys/\∀ l,H l=none->Q (.ref l) (upd H l (.tup ys)))\/(SqT X.K H p ys/\Q (.ref p) H))):=by
 intro pins s σ H xs us Q I r h
 obtain ⟨p,ys,rfl,h⟩:=h
 obtain ⟨u,rfl,g⟩:=d8 r
 cases g
 rcases h with ⟨c,q⟩ | ⟨c,q⟩
 ·obtain ⟨its,a,pl,hz⟩:=I.list c
  have hlen:=a.length
  refine call_tuple_list pl.isList (fun h' kp=>?_) (by simp only [Ex] <;> omega)
  have d:Inv X pins σ H { s with heap:=h' }:=I.kept (t':=s.toks) kp
  have f:Inv X pins σ (upd H h'.objs.size (.tup ys)) { s with heap:=h'.push { cls:=.type "tuple",data:=.seq its.toArray } } :=
   d.laid (t':=s.toks) (fun b o e=>Ee _ e) (Eu _) (show ObjOk X.prog X.w _ _ _ (.tup ys) from ⟨hz,its,a,IsTupD.new _ _⟩)
  exact ⟨.ref h'.objs.size,_,f,rfl,q _ (d.hok.fresh (Eu _))⟩
 ·obtain ⟨its,a,pl,hz⟩:=I.tuple c
  exact call_tuple_same pl ⟨.ref p,H,I,rfl,q⟩
def tyV (K:FG) (T:String) (x:V) (H:Hp):Prop:=match x with
 | .str _=>T = "str"
 | .int _=>T = "int"
 | .ref p=>(T = "list"/\∃ xs,SqL K H p xs)\/(T = "tuple"/\((∃ o,K.lookup p=some o/\o.cls=.type "tuple"/\o.dict=none)\/∃ xs,H p=some (.tup xs))) \/
   (T = "dict"/\((∃ kvs,H p=some (.dK kvs))\/∃ kvs,H p=some (.dT kvs)))\/(T = "set"/\∃ S n,H p=some (.set S n))
 | _=>False
theorem BM {pins:List (Addr × Obj)} {σ:St} {H:Hp} {s:Shared} {T:String} {x:V} {v:Value} (I:Inv X pins σ H s) (r:RelV x v) (ty:tyV X.K T x H) :
  s.TypeIs v T/\∀ a,v=.ref a->∃ ob,s.heap.get? a=some ob/\ob.dict=none:=by
 cases x with
 | str z =>
  obtain ⟨t,rfl⟩:=r
  cases (show T = "str" from ty)
  exact ⟨typeIs_str s z t,fun _ e=>nomatch e⟩
 | int i =>
  obtain ⟨t,rfl⟩:=r
  cases (show T = "int" from ty)
  exact ⟨typeIs_int s i t,fun _ e=>nomatch e⟩
 | ref p =>
  cases r
  rcases ty with ⟨rfl,xs,h⟩ | ⟨rfl,⟨o,b,g,hd⟩ | ⟨xs,j⟩⟩ | ⟨rfl,b⟩ | ⟨rfl,S,n,b⟩
  ·obtain ⟨its,_,pl,_⟩:=I.list h
   refine ⟨pl.isList.typeIs,fun a e=>?_⟩
   cases e
   obtain ⟨o,n,e,c,hd,_⟩:=pl
   exact ⟨o,e,hd⟩
  ·refine ⟨⟨o,I.kIn p o b,g⟩,fun a e=>?_⟩
   cases e
   exact ⟨o,I.kIn _ o b,hd⟩
  ·obtain ⟨_,its,_,o,e,c,n,d⟩:=I.hok p _ j
   refine ⟨⟨o,e,c⟩,fun a f=>?_⟩
   cases f
   exact ⟨o,e,congrArg Prod.snd d⟩
  ·have z:∃ o,s.heap.get? p=some o/\o.ExactDict:=by
    rcases b with ⟨kvs,b⟩ | ⟨kvs,b⟩
    ·obtain ⟨_,_,_,_,o,_,_,e,ex,_⟩:=I.hok p _ b
     exact ⟨o,e,ex⟩
    ·obtain ⟨_,_,_,_,o,_,_,e,ex,_⟩:=I.hok p _ b
     exact ⟨o,e,ex⟩
   obtain ⟨o,e,ex⟩:=z
   refine ⟨⟨o,e,ex.1⟩,fun a f=>?_⟩
   cases f
   exact ⟨o,e,ex.2.1⟩
  ·obtain ⟨o,_,_,_,e,ex,_⟩:=I.hok p _ b
   refine ⟨⟨o,e,ex.1⟩,fun a f=>?_⟩
   cases f
   exact ⟨o,e,ex.2.1⟩
 | _=>exact False.elim ty
def tBM (K:FG) (T:String) (r:V->List V->Hp->VK->Prop) (to:TE) (t:TA):TE:=fun σ H Q=>to σ H fun x H1=>tyV K T x H1/\t σ H1 fun xs H2=>r x xs H2 Q
variable {o e:Expr} {es:List Expr} {to:TE} {t:TA} {name:Str} {apos cpos:Pos} {T id:String} {r:V->List V->Hp->VK->Prop}
theorem pe_bm (p:PlainAttrs T) (slot:Slot T name id) (f:typeOf (.builtin id)=pure (.type "method_descriptor")) (hm:MtR X id r) (l:PE X o to) (q:PA X (e :: es) t)
  (b:attributeBase o name X.env (eval o X.env)=eval o X.env:=by rfl)
  (d:((backTo cpos (starEach (e :: es) X.env)).all (fun x=>!x.1) && (backToKw cpos (keywordEach [] X.env)).all (fun x=>x.1.isSome)
   && decide ((e :: es).length+([]:List Keyword).length+(if ([]:List Keyword).isEmpty then 0 else 1) < 30))=true:=by rfl)
  (c:(apos.endLine == cpos.line)=true:=by rfl) (m:starEach (e :: es) X.env=(false,eval e X.env) :: starEach es X.env:=by rfl) (a:(backTo cpos (starEach es X.env)).any (·.1)=false:=by rfl) :
  PE X (.Call (.Attribute o name apos) (e :: es) [] cpos) (tBM X.K T r to t):=by
 intro pins s σ H Q I h
 refine wpAny_Call_method_late b d c rfl (thn (l pins s σ H _ I h) fun v s1 ⟨x,H1,j,g,ty,n⟩=>?_)
 obtain ⟨h1,h2⟩:=BM j g ty
 refine ⟨T,id,p,slot,f,h1,h2,?_⟩
 have i:=q cpos pins s1 σ H1 _ j n
 rw [m] at i ⊢
 refine Calls.callWith_builtin (by show (false || (backTo cpos (starEach es X.env)).any (·.1))=false;rw [a] <;> rfl) (Calls.evalArgs_plain ?_)
 exact thn i fun us s2 ⟨u,H2,k,w,y⟩=>hm pins s2 σ H2 x u v us Q k g w y
end
end L2
namespace L2
open PySem PySem.Spec PyProof.Rows
def MtM (X:Cx) (id:String) (r:V->List V->Hp->VK->Prop):Prop :=
 ∀ (pins:List (Addr × Obj)) (s:Shared) (σ:St) (H:Hp) (x:V) (xs:List V) (v:Value) (us:List Value) (Q:VK),Inv X pins σ H s->RelV x v->Vals xs us->r x xs H Q ->
  wpAny (model X.prog X.w) X.A (call (.builtin id) (v :: us)) (EP X pins σ Q) X.xe s
theorem Vals.one:∀ {x:V} {us:List Value},Vals [x] us->∃ u,us=[u]/\RelV x u
 | _,_,.cons r .nil=>⟨_,rfl,r⟩
theorem Vals.rep {xs:List V} {us:List Value} (h:Vals xs us):∀ k:Nat,Vals (List.replicate k xs).flatten (List.replicate k us).flatten
 | 0=>.nil
 | k+1=>by
  rw [List.replicate_succ,List.replicate_succ,List.flatten_cons,List.flatten_cons]
  exact Vals.append h (Vals.rep h k)
section
variable {X:Cx} {pins:List (Addr × Obj)} {σ:St} {H:Hp} {s:Shared} {l b:Addr} {xs ys zs:List V}
theorem Inv.lset {its its':List Value} {n:Nat} {f:Array Value->Array Value} {t':Nat} (I:Inv X pins σ H s) (c:H l=some (.lst xs))
  (e:s.heap.get? l=some { cls:=.type "list",data:=.seq its.toArray n }) (hf:f its.toArray=its'.toArray) (a:Vals ys its') (hz:ys.length<=sizeLine) :
  Inv X pins σ (upd H l (.lst ys)) { s with heap:=s.heap.update l (Obj.mapSeq f),toks:=t' }:=by
 have q:=PySem.IsL.update e f
 rw [hf] at q
 refine I.write (x:=l) (e:=l) (by rw [c];exact trivial) (.inl rfl) (fun d u b hu=>(EO s.heap (Obj.mapSeq f) (Ne.symm b)).trans hu) ⟨_,q⟩ ?_
 exact ⟨hz,its',_,a,q⟩
theorem Inv.lnew {its:List Value} {t':Nat} (I:Inv X pins σ H s) (a:Vals ys its) (hz:ys.length<=sizeLine) :
  Inv X pins σ (upd H s.heap.objs.size (.lst ys)) { s with heap:=s.heap.push { cls:=.type "list",data:=.seq its.toArray },toks:=t' } :=
 I.laid (fun _ _ q=>Ee _ q) (Eu _) ⟨hz,its,0,a,Em _ rfl⟩
theorem Inv.fresh (I:Inv X pins σ H s):H s.heap.objs.size=none:=I.hok.fresh (Eu _)
theorem Inv.lstM (I:Inv X pins σ H s) (a:H l=some (.lst xs)):xs.length<=sizeLine/\∃ (its:List Value) (n:Nat),Vals xs its/\xs.length=its.length/\s.heap.get? l=some { cls:=.type "list",data:=.seq its.toArray n }:=by
 obtain ⟨z,its,n,r,e⟩:=I.hok l _ a
 exact ⟨z,its,n,r,r.length,e⟩
theorem xN {n:Nat} (h:n<=sizeLine):Builtin.List.listTooLong n=false:=by
 unfold Builtin.List.listTooLong
 exact EA (by omega)
end
section
variable {X:Cx}
def tF:V->List V->Hp->VK->Prop:=fun x a H Q=>∃ l xs y,x=.ref l/\a=[y]/\H l=some (.lst xs)/\xs.length < sizeLine/\Q .non (upd H l (.lst (xs ++ [y])))
theorem uY:MtM X "list.append" tF:=by
 intro pins s σ H x g v us Q I b d h
 obtain ⟨l,xs,y,rfl,rfl,a,hz,q⟩:=h
 cases b
 obtain ⟨u,rfl,c⟩:=d.one
 obtain ⟨z,its,n,r,f,e⟩:=I.lstM a
 refine call_meets F.slot_list_append ⟨_,e,rfl⟩ F.entry_list_append (F.args_list_append_2 _ _) (PySem.list_append l its.toArray n u (by rw [Ex];omega)) ⟨e,?_⟩
 refine ⟨.non,_,I.lset (its':=its ++ [u]) a e (by simp) (r.append (.cons c .nil)) ?_,rfl,q⟩
 rw [EE,List.length_singleton]
 omega
def tw:V->List V->Hp->VK->Prop:=fun x a H Q=>∃ l b xs zs,x=.ref l/\a=[.ref b]/\H l=some (.lst xs)/\H b=some (.lst zs)/\xs.length+zs.length<=sizeLine/\Q .non (upd H l (.lst (xs ++ zs)))
theorem uX:MtM X "list.extend" tw:=by
 intro pins s σ H x y v us Q I j o h
 obtain ⟨l,b,xs,zs,rfl,rfl,d,i,hz,q⟩:=h
 cases j
 obtain ⟨u,rfl,m⟩:=o.one
 cases m
 obtain ⟨z,its,n,r,t,e⟩:=I.lstM d
 obtain ⟨w,a,g,k,f,p⟩:=I.lstM i
 have hsz:its.toArray.size+a.toArray.size<=sizeLine:=by rw [Ex,Ex];omega
 have c:¬ (!its.toArray.isEmpty && Builtin.List.listTooLong (its.toArray.size+a.toArray.size))=true:=by
  rw [xN hsz,Bool.and_false]
  exact Ev
 refine call_meets F.slot_list_extend ⟨_,e,rfl⟩ F.entry_list_extend (F.args_list_extend_2 _ _)
  (AutoSeq1.list_extend_list_list_0 l its.toArray n b a.toArray g c (by rw [Ex];omega) (by omega)) ⟨e,p,?_⟩
 refine ⟨.non,_,I.lset (its':=its ++ a) d e (by simp) (r.append k) ?_,rfl,q⟩
 rw [EE]
 omega
def z7:R2:=fun x y H Q=>∃ l b xs zs,x=.ref l/\y=.ref b/\H l=some (.lst xs)/\H b=some (.lst zs)/\xs.length+zs.length<=sizeLine/\∀ p,H p=none->Q (.ref p) (upd H p (.lst (xs ++ zs)))
theorem Db:OpR X (binaryOp .Add) z7:=by
 intro pins s σ H x y v u Q I i f h
 obtain ⟨l,b,xs,zs,rfl,rfl,k,g,hz,q⟩:=h
 cases i
 cases f
 obtain ⟨z,its,n,r,o,e⟩:=I.lstM k
 obtain ⟨t,a,p,j,d,m⟩:=I.lstM g
 refine PySem.P.add_list e m ?_ (by rw [Ex,Ex];omega)
 have c:its.toArray ++ a.toArray=(its ++ a).toArray:=by simp
 rw [c]
 exact ⟨.ref _,_,I.lnew (t':=s.toks) (r.append j) (by rw [EE];omega),rfl,q _ I.fresh⟩
end
end L2
namespace Att
open PySem PySem.W PySem.Calls PyProof.Rows
theorem kC {P:Params} {h:Heap}:∀ (ns:List Int) (c:List Value),WellAll P h c (ns.map WData.int)->IntsAre c ns:=by
 intro ns
 induction ns with
 | nil =>
  intro c w
  rw [List.map_nil] at w
  cases w
  exact .nil
 | cons n ns ih =>
  intro c w
  rw [Ey] at w
  cases w with
  | cons a b =>
   cases a
   exact .cons _ _ (ih _ b)
theorem uD {l:OpenLaw} {n:Nat} (k:l.most=some n) {P:Params} {h:Heap} {args:List WData} {vals:List Value}
  (b:l.row.toRowW.claim.pre args=true) (g:WellAll P h vals args) :
  ∃ a i ns,vals=[Value.ref a]/\args=[WData.list (ns.map WData.int)]/\h.get? a=some { cls:=.type "list",data:=.seq i.toArray }/\IntsAre i ns/\ns.length<=n:=by
 have f:WShape.hasAll [] args [.list .int]=true:=(pre_splitW b).1
 have j:l.pre.holds [] { args:=args }=true:=(pre_splitW b).2
 obtain ⟨d,r,rfl,h1,h2⟩:=hasAllW_cons f
 obtain rfl:=hasAllW_nil h2
 obtain ⟨xs,rfl,h3⟩:=hasW_list h1
 obtain ⟨ns,rfl⟩:=items_int h3
 have hlen:ns.length<=n:=by
  unfold OpenLaw.pre at j
  have e:(WTm.not (.lt (.lit (.int (n:Int))) (.len (.arg 0)))).holds [] { args:=[.list (ns.map .int)] }=true:=by
   have e:=(holds_andW j).1
   rw [k] at e
   exact e
  have c:=condW_of e (w_not (w_lt w_lit (w_len_list (w_arg rfl))))
  rw [En] at c
  refine Nat.le_of_not_lt fun q=>?_
  have m:(n:Int) < ((ns.length:Nat):Int):=by omega
  first
   | (rw [Ez m] at c;exact absurd c (by decide))
   | (simp at c;omega)
 cases g with
 | cons w1 w2 =>
  cases w2
  cases w1 with
  | list ho hall=>exact ⟨_,_,ns,rfl,rfl,ho,kC ns _ hall,hlen⟩
theorem uO (l:OpenLaw) (args:List WData):l.row.toRowW.claim.post args (.bool true) args=true :=
 postW_of (r:=l.row.toRowW) (X:=(true == true))
  (show WShape.has [] (.bool true) .bool=true by first | rfl | decide | simp [WShape.has,WShape.arms,WShape.armsAll])
  (show (WTm.eq .res (.lit (.bool true))).value [] { args:=args,res:=some (.bool true),after:=args }=some (.bool (true == true)) from w_eq_bool (w_res rfl) w_lit) rfl
theorem attach_call {l:OpenLaw} {n:Nat} {q:Program} {loose:List Str} {u:(Str->Option Value)->Heap->Prop} {s:World->Heap->Prop} {d:DefRec}
  (D:l.most=some n) (j:d.params.defaults=[])
  (call:∀ (w:World) (s₀ b:Shared) (mg mb:Str->Option Value) (h:Addr) (o:Obj) (pm cd doc:Value) (a:Addr) (c:List Value) (ns:List Int),
   Ground q loose [] u w s₀ mg mb b.heap->s w b.heap ->
   b.heap.get? h=some o->o.data=.func (docDef d.name d.params d.body d.scope pm cd doc)->b.heap.CodeRec cd d.name->mg d.name=some (.ref h) ->
   b.heap.get? a=some { cls:=.type "list",data:=.seq c.toArray }->IntsAre c ns->ns.length<=n->b.gens = #[] ->
   codeAny (model l.prog w) callerA (.call (.ref h) ⟨[.ref a],[]⟩) (fun r s'=>r=.ok (.ret (.bool true))/\OldK b.heap s'.heap/\s'.os=b.os/\AllBare s'.gens) b) :
  WalkO q loose u s l.row.toRowW d [] (fun f c=>PySem.call f c):=by
 intro w s₀ b mg mb G Y h o pm cd doc A kV B hd i t k C args vals as e p x m v
 obtain rfl:A=.none:=Dflts.none t j
 obtain rfl:kV=.none:=Dflts.noKw t
 obtain ⟨a,c,ns,rfl,rfl,g,hints,hlen⟩:=uD D e m
 refine enter_call (codeAny_mono (call w s₀ b mg mb h o pm cd doc a c ns G Y B (fd_plain hd) i k g hints hlen C) fun r s' z=>?_)
 obtain ⟨rfl,h2,h3,y⟩:=z
 exact ⟨.inl ⟨.bool true,.bool true,[],rfl,fun _=>rfl,.bool true,uO l _,fun _=>⟨List.Pairwise.nil,fun _ hm=>(nomatch hm)⟩⟩,h2,h3,y⟩
end Att
namespace L2
open PySem PySem.Spec PyProof.Rows
theorem l6:∀ {a:List Value} {ns:List Int},IntsAre a ns->Vals (ns.map V.int) a
 | _,_,.nil=>.nil
 | _,_,.cons n t h=>.cons ⟨t,rfl⟩ (l6 h)
def Bc (H:Hp):Prop:=∀ b,H b=none\/∃ o xs,H b=some (.frz o (.lst xs))
theorem yg {P:Program} {w:World} {K:FG} {mg mb:Str->Option Value} {CX:CXT} {k:Nat} {M a:Addr} {fd:FuncData} {x:Str} {sp:Sp} {c:Shared} {j:List Value} {ns:List Int}
  (S:K.In c.heap) (p:c.heap.Ns mainGlobals mg) (g:c.heap.Ns builtinsNs mb) (L:∀ x:Str,x ≠ "__name__"->mb x=bootBuiltins x) (B:c.heap.NoLimit) (hg:c.gens = #[])
  (E:c.heap.get? a=some { cls:=.type "list",data:=.seq j.toArray }) (hi:IntsAre j ns) (T:ns.length<=sizeLine) (Y:Room k callerA)
  (F:∀ base:Heap,K.In base->base.Ns mainGlobals mg->FnOk P w K mg base CX k M fd [x] sp) (l:∀ (s:Shared) (u:Value),BindsTo s fd ⟨[u],[]⟩ [(x,u)])
  (G:∀ H:Hp,Bc H->SqL K H a (ns.map V.int)->sp [.ref a] H (fun v _=>v=.bl true) fun _ _ _=>False)
  (O:∀ H e s',CX [] H c (fun _ _ _=>False) e s'->False) :
  codeAny (model P w) callerA (.call (.ref M) ⟨[.ref a],[]⟩) (fun r s'=>r=.ok (.ret (.bool true))/\OldK c.heap s'.heap/\s'.os=c.os/\AllBare s'.gens) c:=by
 have U:=l6 hi
 have y:=hi.length
 have core:∀ H:Hp,Bc H->SqL K H a (ns.map V.int)->HOk P w H c.heap->(∀ b,H b ≠ none->b=a)->(H a ≠ none->K.lookup a=none) ->
   codeAny (model P w) callerA (.call (.ref M) ⟨[.ref a],[]⟩) (fun r s'=>r=.ok (.ret (.bool true))/\OldK c.heap s'.heap/\s'.os=c.os/\AllBare s'.gens) c:=by
  intro H Q hS hok R W
  have f:∀ {b:Addr} {o:Obj},c.heap.get? b=some o->H b=none->(oh c.heap H).get? b=some o:=fun e n=>yy e n
  have N:∀ {b:Addr} {o:Obj} {es:Array DictEntry} {t:Nat},c.heap.get? b=some o->o.data=.dict es t->H b=none:=fun {b o es t} e d=>by
   cases q:H b with
   | none=>rfl
   | some u =>
    have J:b=a:=R b (by rw [q];simp)
    subst J
    rw [E] at e;cases e
    have d':Data.seq j.toArray _=Data.dict es t:=d
    cases d'
  have i:∀ {b:Addr} {m:Str->Option Value},c.heap.Ns b m->(oh c.heap H).Ns b m:=fun {b m} ⟨o,es,t,e,d,r⟩=>⟨o,es,t,f e (N e d),d,r⟩
  have A:K.In (oh c.heap H):=fun b o e=>f (S b o e) (by
   cases q:H b with
   | none=>rfl
   | some u =>
    have J:b=a:=R b (by rw [q];simp)
    subst J
    rw [W (by rw [q];simp)] at e;cases e)
  have hM:Mod K mg (oh c.heap H):=⟨A,i p,⟨mb,i g,L⟩,let ⟨mc,h1,h2⟩:=B;⟨mc,i h1,h2⟩⟩
  have X:Env0 P w K mg (oh c.heap H) callerA [] c H:=⟨rfl,hM,fun b o e=>Aq e,Nat.le_of_eq (vn _ _),trivial,fun b g=>absurd (show b ∈ ([]:List Addr) from g) (by simp),hok,.of_eq hg⟩
  refine codeAny_mono ((F _ A (i p)).run callerA [] c H ⟨[.ref a],[]⟩ [.ref a] [.ref a] _ _ Y X (l c (.ref a)) (.cons rfl .nil) (G H Q hS)) fun r s' h=>?_
  cases r with
  | error e=>exact (O H e s' h).elim
  | ok fl =>
   cases fl with
   | next=>exact False.elim h
   | brk=>exact False.elim h
   | cont=>exact False.elim h
   | ret u =>
    obtain ⟨v,H',os,bare,un,D,r',q⟩:=h
    have Z:v=.bl true:=q
    subst Z
    obtain rfl:u=Value.bool true:=r'
    refine ⟨rfl,OldK.of_keep fun b o e=>?_,os,bare⟩
    cases q:H b with
    | none=>exact un.keep b o e q (by intro z;exact absurd (show b ∈ ([]:List Addr) from z) (by simp)) (by simp)
    | some u =>
     rcases Q b with z | ⟨ob,xs,z⟩
     ·rw [q] at z;cases z
     ·have z2:=un.frzs b ob _ z
      obtain ⟨e1,_⟩:=hok b _ z
      obtain ⟨e2,_⟩:=D b _ z2
      rw [e] at e1;cases e1
      exact e2
 cases I:K.lookup a with
 | some o =>
  have e:=S a o I
  rw [E] at e
  cases e
  refine core (fun _=>none) (fun _=>.inl rfl) (.inr ⟨_,j.toArray,_,I,rfl,rfl,rfl,by rw [Ex,y];exact T,by simpa using U⟩) (fun b u z=>by have C:(none:Option HO)=some u:=z;cases C) (fun b z=>absurd rfl z) fun z=>absurd rfl z
 | none =>
  refine core (fun b=>if b=a then some (.frz { cls:=.type "list",data:=.seq j.toArray } (.lst (ns.map V.int))) else none) (fun b=>?_) (.inl (.inr ⟨{ cls:=.type "list",data:=.seq j.toArray },if_pos rfl⟩)) (fun b u z=>?_) (fun b z=>?_) fun _=>I
  ·by_cases g:b=a
   ·exact .inr ⟨_,_,if_pos g⟩
   ·exact .inl (if_neg g)
  ·by_cases g:b=a
   ·have C:=(if_pos g).symm.trans z
    cases C
    subst g
    exact ⟨E,by rw [En];exact T,j,_,U,E⟩
   ·have C:=(if_neg g).symm.trans z
    cases C
  ·by_cases g:b=a
   ·exact g
   ·exact absurd (if_neg g) z
end L2
namespace L2
open PySem PySem.Spec PyProof.Rows
end L2
namespace L2
open PySem PySem.Spec PyProof.Rows
abbrev CX0:CXT:=fun _ _ _ _ _ _=>False
abbrev E0:XK:=fun _ _ _=>False
theorem pass0 {X:Cx}:sM CX0 X E0:=fun _ _ _ _ _ _ _ h=>h.elim
structure Fun (K:FG) (x qual:Str) (st:Stmt) (f:Addr) (fd:FuncData):Prop where
 ex:∃ (oc:Value) (od:Option Addr) (kV doc pm:Value) (an:Option Addr) (cdv ct:Value) (osl:Array (Option Value)),
  fd=PySem.W.fnOf x qual (bb st) (aU st) (ag st) .none kV doc pm an cdv ct/\K.lookup f=some ⟨oc,od,.func fd,osl⟩/\PySem.W.codeIn K cdv qual=true
 kp:PySem.W.keepIn K (.ref f)=true
section
variable {P:Program} {w:World} {K:FG} {mg:Str->Option Value} {base:Heap}
theorem Fun.ok {x qual:Str} {st:Stmt} {f:Addr} {fd:FuncData} {N ps:List Str} {k:Nat} {sp:Sp} (F:Fun K x qual st f fd) (S:FnScope N ps (ag st)) (len:∀ b H Q E,sp b H Q E->b.length=ps.length)
  (c:∀ (a:Value) (A:Around) (outer:List Env) (s:Shared) (H:Hp) (b:List V) (Q:VK) (E:XK),Room k (A.deeper (envOfC qual (ag st) s.heap.objs.size f a))->sp b H Q E ->
   ∃ t,PSs (qh CX0 P w K mg base N qual (ag st) f a A outer s H E).nox (aU st) t/\t { nx:=fun _ H'=>Q .non H',rt:=Q } (j4 N b) H):FnOk P w K mg base CX0 (k+1) f fd ps sp:=by
 obtain ⟨m,l,kV,doc,pm,an,a,ct,j,rfl,g,d⟩:=F.ex
 refine fn_of g d S len fun A outer s H b Q E i e=>?_
 obtain ⟨t,h,q⟩:=c a A outer s H b Q E i e
 exact ⟨t,h.nox,q⟩
theorem Fun.binds {x qual:Str} {st:Stmt} {f:Addr} {fd:FuncData} {ps:List Str} (F:Fun K x qual st f fd)
  (h:∀ (kV doc pm:Value) (an:Option Addr) (a ct:Value) (us:List Value),us.length=ps.length->bindArgs (PySem.W.fnOf x qual (bb st) (aU st) (ag st) .none kV doc pm an a ct) ⟨us,[]⟩=pure (ps.zip us)):Binds K fd ps []:=by
 obtain ⟨e,g,kV,doc,pm,an,a,ct,c,rfl,d,b⟩:=F.ex
 exact .all (h kV doc pm an a ct)
theorem DC {x qual:Str} {st:Stmt} {f:Addr} {e:Value} {d an:Option Addr} {b:Array (Option Value)} {kV doc pm a ct:Value} (l:K.lookup f=some ⟨e,d,.func (PySem.W.fnOf x qual (bb st) (aU st) (ag st) .none kV doc pm an a ct),b⟩)
  (c:PySem.W.codeIn K a qual=true) (k:PySem.W.keepIn K (.ref f)=true):Fun K x qual st f (PySem.W.fnOf x qual (bb st) (aU st) (ag st) .none kV doc pm an a ct):=⟨⟨e,d,kV,doc,pm,an,a,ct,b,rfl,l,c⟩,k⟩
end
theorem hu_of {A:Around} {k:Nat} (a:Room k A):A.units+1 < cLine:=Nat.lt_of_le_of_lt (Nat.add_le_add_left (by decide:1<=64) _) a.units
def Same (H H':Hp):Prop:=∀ b o,H b=some o->H' b=some o
theorem Same.refl (H:Hp):Same H H:=fun _ _ h=>h
theorem Same.trans {H H1 H2:Hp} (a:Same H H1) (b:Same H1 H2):Same H H2:=fun c o h=>b c o (a c o h)
theorem Same.free {H H':Hp} (e:Same H H') {l:Addr} (h:H' l=Option.none):H l=Option.none:=by
 cases q:H l with
 | none=>rfl
 | some o =>
  rw [e l o q] at h
  cases h
end L2
end
section
namespace L2
open PySem PySem.Spec PyProof.Rows
section
variable {prog:Program} {w:World} {A:Around} {E:Value->Shared->Prop} {s:Shared}
theorem oX {d:Addr} {k v:Value} {Q:Unit->Shared->Prop} (ty:s.TypeIs (.ref d) "dict") (h:wpAny (model prog w) A.in1 (dictSet d k v) Q E s) :
  wpAny (model prog w) A (setItem (.ref d) k v) Q E s:=by
 unfold setItem
 refine Eb (DZ (wpAny_sequenceKey ty (by decide) (DZ (wpAny_callSpecial?_slot ty slot_dict_setitem (wpAny_call_entry slot_dict_setitem ty entry_dict_setitem ?_ (args_dict_setitem _ _ _))))))
 refine DZ (wpAny_notOrdered_dict ty ?_)
 refine (?_:wpAny _ _ (dictSet d k v >>= _) _ _ s)
 exact DZ (wpAny_mono h (fun _ _ z=>Ea ⟨_,rfl,Ea z⟩) fun _ _ z=>z)
theorem me {d:Addr} {key v:Value} {b:Int} {o:Obj} {es:Array DictEntry} {c:Nat} {F:Option Nat->Prop} {Q:Unit->Shared->Prop} (a:s.heap.get? d=some o) (g:o.ExactDict) (hd:o.data=.dict es c) (hz:es.size<=sizeLine)
  (find:wpAny (model prog w) A (dictFind d key b) (fun r s'=>s'=s/\F r) E s)
  (old:∀ i h' o',F (some i)->h'.get? d=some o'->o'.ExactDict->o'.data=.dict (es.modify i fun e=>{ e with val:=v }) c->Heap.SameBut d s.heap h'->Q () { s with heap:=h' })
  (new:∀ h' o',F none->h'.get? d=some o'->o'.ExactDict->o'.data=.dict (es.push ⟨b,key,v⟩) (c+1)->Heap.SameBut d s.heap h'->Q () { s with heap:=h' }) :
  wpAny (model prog w) A (dictSetHashed d key b v) Q E s:=by
 unfold dictSetHashed
 refine Eb (DZ (wpAny_mono find ?_ fun _ _ z=>z))
 rintro (_ | i) _ ⟨rfl,f⟩
 ·exact DZ (wpAny_rule (wpAny_updateDictKeys (hz:=hz) a hd (new _ _ f (ED _ a (Obj.isFreed_of_dict (Obj.data_mapDictKeys hd _))) (g.mapDictKeys _) (Obj.data_mapDictKeys hd _) (Heap.SameBut.update ..))))
 ·exact DZ (wpAny_rule (DZ (wpAny_updateDict a hd (wpAny_point (old i _ _ f (ED _ a (Obj.isFreed_of_dict (Obj.data_mapDict hd _))) (g.mapDict _) (Obj.data_mapDict hd _) (Heap.SameBut.update ..))))))
end
section
variable {prog:Program} {w:World} {K:Type} [DecidableEq K] {A:Around} {E:Value->Shared->Prop} {s:Shared} {d:Addr} {k:K}
section
variable {knd:HeapKind prog w K}
def DictOfHE (knd:HeapKind prog w K) (h:Heap) (d:Addr) (xs:List (K × Addr × Value)):Prop :=
 ∃ o es a,h.get? d=some o/\o.ExactDict/\o.data=.dict es a/\es.toList=xs.map (entryOfKey knd)/\(∀ x ∈ xs,knd.is h x.1 x.2.1)/\(xs.map (·.1)).Nodup/\a=es.size
theorem DictOfHE.of {h:Heap} {d:Addr} {xs:List (K × Addr × Value)} (x:DictOfHE knd h d xs):h.DictOfH knd d xs:=let ⟨o,es,c,h1,h2,h3,e,a,b,_⟩:=x;⟨o,es,c,h1,h2,h3,e,a,b⟩
theorem uV {xs:List (K × Addr × Value)} {y:Addr × Value} (b:(xs.map (·.1)).Nodup) (h:k ∉ xs.map (·.1)):((xs ++ [(k,y)]).map (·.1)).Nodup:=by
 rw [List.map_append]
 exact List.nodup_append.mpr ⟨b,List.nodup_cons.mpr ⟨List.not_mem_nil,List.nodup_nil⟩,fun x c y a e=>h (by have:=EJ.mp a;subst this;exact e ▸ c)⟩
theorem iL {a:Addr} {xs:List (K × Addr × Value)} {v:Value} {Q:Unit->Shared->Prop} (hu:knd.room A) (b:knd.is s.heap k a) (hm:DictOfHE knd s.heap d xs)
  (n:∀ h',DictOfHE knd h' d (storedH xs k a v)->Heap.SameBut d s.heap h'->Q () { s with heap:=h',toks:=s.toks+knd.draws k })
  (hsz:xs.length<=sizeLine:=by size_fits):wpAny (model prog w) A (dictSet d (.ref a) v) Q E s:=by
 obtain ⟨o,es,t,l,q,hd,he,g,m,rfl⟩:=hm
 unfold dictSet
 refine Eb (DZ (knd.pyHash hu b ?_))
 refine me (s:={ s with toks:=s.toks+knd.draws k }) (F:=fun | none=>∀ (j:Nat) (p:Addr × Value),xs[j]? ≠ some (k,p) | some j=>∃ p,xs[j]?=some (k,p)) l q hd (size_of_entries he ▸ hsz)
  (wpAny_dictFind_heap (s:={ s with toks:=s.toks+knd.draws k }) hu b l hd he g m (fun z=>⟨rfl,z⟩) fun j p z=>⟨rfl,p,z⟩) ?_ ?_
 ·rintro i h' o' ⟨p,f⟩ g1 g2 g3 h
  have at':=storedH_old (atKey_of_get m f) a v
  refine n h' ⟨o',_,_,g1,g2,g3,?_,?_,?_,?_⟩ h <;> try rw [at']
  ·rw [Array.toList_modify,he]
   exact modify_map_putAt (entryOfKey knd) _ k v (fun _ _=>rfl) m f
  ·intro x c
   obtain ⟨y,r,rfl⟩:=Es.mp c
   have:=knd.keeps (g y r) l hd h
   by_cases e:y.1=k <;> simpa [putAt,e] using this
  ·exact (keys_map_putAt xs k v).symm ▸ m
  ·exact (Array.size_modify).symm
 ·intro h' o' f g1 g2 g3 h
  have at':=storedH_new (atKey_none_of_get f) a v
  refine n h' ⟨o',_,_,g1,g2,g3,?_,?_,?_,?_⟩ h <;> try rw [at']
  ·simp [he,entryOfKey]
  ·intro x c
   rcases El.mp c with c | c
   ·exact knd.keeps (g x c) l hd h
   ·cases EJ.mp c;exact knd.keeps b l hd h
  ·exact uV m (not_mem_keys_of_get f)
  ·simp
theorem lP {a:Addr} {xs:List (K × Addr × Value)} {v:Value} {Q:Unit->Shared->Prop} (hu:knd.room A.in1) (b:knd.is s.heap k a) (hm:DictOfHE knd s.heap d xs)
  (c:∀ h',DictOfHE knd h' d (storedH xs k a v)->Heap.SameBut d s.heap h'->Q () { s with heap:=h',toks:=s.toks+knd.draws k })
  (hsz:xs.length<=sizeLine:=by size_fits):wpAny (model prog w) A (setItem (.ref d) (.ref a) v) Q E s :=
 oX hm.of.typeIs (iL (hsz:=hsz) hu b hm c)
end
section
variable {knd:KeyKind prog w K} {key:Value}
theorem ic {kvs:List (K × Value)} {v:Value} {Q:Unit->Shared->Prop} (a:knd.is k key=true) (hm:DictOfE knd s.heap d kvs)
  (l:∀ h',DictOfE knd h' d (stored kvs k v)->Heap.SameBut d s.heap h'->Q () { s with heap:=h',toks:=s.toks+1 })
  (hsz:kvs.length<=sizeLine:=by size_fits):wpAny (model prog w) A (dictSet d key v) Q E s:=by
 obtain ⟨o,⟨es⟩,t,m,p,hd,g,b,j,rfl⟩:=hm
 have same:=b.findIdx k
 have hz:(⟨es⟩:Array DictEntry).size<=sizeLine:=by have:=b.length;simp at this ⊢;omega
 unfold dictSet
 refine Eb (DZ (knd.pyHash a ?_))
 refine me (s:={ s with toks:=s.toks+1 }) (F:=fun r=>es.findIdx? (fun e=>knd.is k e.key)=r) m p hd hz
  (wpAny_dictFind_of (s:={ s with toks:=s.toks+1 }) a m hd g ⟨rfl,by simp⟩) ?_ ?_
 ·intro i h' o' f g1 g2 g3 h
  have at':stored kvs k v=_:=if_pos (any_of_findIdx_some (same.symm.trans f))
  refine l h' ⟨o',_,_,g1,g2,g3,g.modify _ _,?_,?_,(Array.size_modify).symm⟩ h <;> rw [at']
  ·simpa using b.modify j f v
  ·exact (keys_map_store kvs k v).symm ▸ j
 ·intro h' o' f g1 g2 g3 h
  have no:=not_mem_of_findIdx_none (same.symm.trans f)
  have at':stored kvs k v=_:=if_neg fun z=>by
   obtain ⟨x,c,e⟩:=List.any_eq_true.mp z
   exact no (Es.mpr ⟨x,c,of_decide_eq_true e⟩)
  refine l h' ⟨o',_,_,g1,g2,g3,g.push a _,?_,?_,by simp⟩ h <;> rw [at']
  ·simpa using b.append a (knd.hash k) v
  ·rw [List.map_append]
   exact List.nodup_append.mpr ⟨j,List.nodup_cons.mpr ⟨List.not_mem_nil,List.nodup_nil⟩,fun x c y q e=>no (by cases EJ.mp q;have n:x=k:=e;exact n ▸ c)⟩
theorem kY {kvs:List (K × Value)} {v:Value} {Q:Unit->Shared->Prop} (a:knd.is k key=true) (hm:DictOfE knd s.heap d kvs)
  (b:∀ h',DictOfE knd h' d (stored kvs k v)->Heap.SameBut d s.heap h'->Q () { s with heap:=h',toks:=s.toks+1 })
  (hsz:kvs.length<=sizeLine:=by size_fits):wpAny (model prog w) A (setItem (.ref d) key v) Q E s :=
 oX hm.of.typeIs (ic (hsz:=hsz) a hm b)
end
end
section
variable {κ:Type} [DecidableEq κ]
def ky (kvs:List (κ × V)) (k:κ):Option V:=(kvs.find? fun a=>decide (a.1=k)).map (·.2)
def fI (kvs:List (κ × V)) (k:κ) (v:V):List (κ × V) :=
 if (kvs.any fun a=>decide (a.1=k))=true then kvs.map (fun a=>if a.1=k then (a.1,v) else a) else kvs ++ [(k,v)]
theorem iY {p:κ × V} {r:List (κ × V)} {k:κ} (e:p.1=k):ky (p :: r) k=some p.2:=by simp [ky,List.find?_cons,e]
theorem iZ {p:κ × V} {r:List (κ × V)} {k:κ} (e:¬ p.1=k):ky (p :: r) k=ky r k:=by simp [ky,List.find?_cons,e]
theorem oR (k:κ):∀ kvs:List (κ × V),(kvs.any fun a=>decide (a.1=k))=(ky kvs k).isSome
 | []=>rfl
 | p :: r=>by
  rw [List.any_cons]
  by_cases e:p.1=k
  ·simp only [iY e,Ez e,Bool.true_or,Option.isSome_some]
  ·rw [iZ e,EA e,Bool.false_or];exact oR k r
theorem kj (kvs:List (κ × V)) (k:κ) (v:V):(fI kvs k v).length<=kvs.length+1:=by
 unfold fI
 split
 ·rw [En];omega
 ·rw [EE,EF,List.length_nil];omega
theorem RelO.isSome_eq {o:Option V} {u:Option Value} (r:RelO o u):o.isSome=u.isSome:=by
 cases o with
 | none=>cases u with
  | none=>rfl
  | some _=>exact (show False from r).elim
 | some _=>cases u with
  | none=>exact (show False from r).elim
  | some _=>rfl
theorem RelO.getD {o:Option V} {u:Option Value} {d:V} {d':Value} (r:RelO o u) (a:RelV d d'):RelV (o.getD d) (u.getD d'):=by
 cases o with
 | none=>cases u with
  | none=>exact a
  | some _=>exact (show False from r).elim
 | some _=>cases u with
  | none=>exact (show False from r).elim
  | some _=>exact r
theorem KV.val {kvs:List (κ × V)} {c:List (κ × Value)} (r:KV kvs c) (k:κ):RelO (ky kvs k) (valueAt c k):=by
 unfold KV at r
 induction r with
 | nil=>exact True.intro
 | @cons p q ps qs h t ih =>
  obtain ⟨h1,h2⟩:=h
  by_cases e:p.1=k
  ·have a:q.1=k:=h1.symm.trans e
   have b:valueAt (q :: qs) k=some q.2:=by simp [valueAt,List.find?_cons,a]
   rw [iY e,b];exact h2
  ·have a:¬ q.1=k:=fun z=>e (h1.trans z)
   have b:valueAt (q :: qs) k=valueAt qs k:=by simp [valueAt,List.find?_cons,a]
   rw [iZ e,b];exact ih
theorem KV.any {kvs:List (κ × V)} {b:List (κ × Value)} (r:KV kvs b) (k:κ):(kvs.any fun a=>decide (a.1=k))=b.any fun a=>decide (a.1=k):=by
 unfold KV at r
 induction r with
 | nil=>rfl
 | cons h t ih=>rw [List.any_cons,List.any_cons,ih,h.1]
theorem KV.repl {kvs:List (κ × V)} {b:List (κ × Value)} (r:KV kvs b) (k:κ) {y:V} {u:Value} (c:RelV y u) :
  KV (kvs.map fun a=>if a.1=k then (a.1,y) else a) (b.map fun a=>if a.1=k then (a.1,u) else a):=by
 unfold KV at r ⊢
 induction r with
 | nil=>exact .nil
 | @cons p q ps qs h t ih =>
  rw [Ey,Ey]
  refine .cons ?_ ih
  obtain ⟨h1,h2⟩:=h
  by_cases e:p.1=k
  ·rw [if_pos e,if_pos (h1.symm.trans e)];exact ⟨h1,c⟩
  ·rw [if_neg e,if_neg (fun z=>e (h1.trans z))];exact ⟨h1,h2⟩
theorem KV.put {kvs:List (κ × V)} {a:List (κ × Value)} (r:KV kvs a) (k:κ) {y:V} {u:Value} (b:RelV y u):KV (fI kvs k y) (stored a k u):=by
 unfold fI stored
 rw [r.any k]
 by_cases e:(a.any fun c=>decide (c.1=k))=true
 ·rw [if_pos e,if_pos e];exact r.repl k b
 ·rw [if_neg e,if_neg e];exact Paired.snoc r ⟨rfl,b⟩
theorem KV.length {kvs:List (κ × V)} {a:List (κ × Value)} (r:KV kvs a):kvs.length=a.length:=Paired.length r
end
theorem tQ {P:Program} {w:World} {k:Key} {u:Value} (r:RelV (kV k) u):(bO P w).is k u=true:=by
 cases k with
 | inl i=>obtain ⟨t,e⟩:=(show ∃ t,u=Value.int i t from r);subst e;exact pM P w i t
 | inr x=>obtain ⟨t,e⟩:=(show ∃ t,u=Value.str x t from r);subst e;exact pL P w x t
theorem mT {P:Program} {w:World}:∀ {ks:List Key} {us:List Value},Vals (ks.map kV) us->ItemsAre (bO P w) ks us
 | [],_,r=>by rw [List.map_nil] at r;cases r;exact .nil
 | k :: ks,_,r=>by
  rw [Ey] at r
  cases r with
  | cons h t=>exact .cons (tQ h) (mT t)
abbrev KT (H:Hp):List (List Key × V)->List (List Key × Addr × Value)->Prop:=Paired fun p q=>p.1=q.1/\H q.2.1=some (.tup (p.1.map kV))/\RelV p.2 q.2.2
theorem KT.val {H:Hp} {kvs:List (List Key × V)} {xs:List (List Key × Addr × Value)} (r:KT H kvs xs) (k:List Key):RelO (ky kvs k) ((atKey xs k).map (·.2)):=by
 induction r with
 | nil=>exact True.intro
 | @cons p q ps qs h t ih =>
  obtain ⟨h1,_,h2⟩:=h
  by_cases e:p.1=k
  ·have a:q.1=k:=h1.symm.trans e
   have b:atKey (q :: qs) k=some q.2:=by simp [atKey,List.find?_cons,a]
   rw [iY e,b];exact h2
  ·have a:¬ q.1=k:=fun z=>e (h1.trans z)
   have b:atKey (q :: qs) k=atKey qs k:=by simp [atKey,List.find?_cons,a]
   rw [iZ e,b];exact ih
theorem KT.repl {H:Hp} {kvs:List (List Key × V)} {xs:List (List Key × Addr × Value)} (r:KT H kvs xs) (k:List Key) {y:V} {u:Value} (b:RelV y u) :
  KT H (kvs.map fun a=>if a.1=k then (a.1,y) else a) (xs.map (putAt k u)):=by
 induction r with
 | nil=>exact .nil
 | @cons p q ps qs h t ih =>
  rw [Ey,Ey]
  refine .cons ?_ ih
  obtain ⟨h1,h2,h3⟩:=h
  unfold putAt
  by_cases e:p.1=k
  ·rw [if_pos e,if_pos (h1.symm.trans e)];exact ⟨h1,h2,b⟩
  ·rw [if_neg e,if_neg (fun z=>e (h1.trans z))];exact ⟨h1,h2,h3⟩
theorem KT.put {H:Hp} {kvs:List (List Key × V)} {xs:List (List Key × Addr × Value)} (r:KT H kvs xs) (k:List Key) {b:Addr} {y:V} {u:Value} (c:H b=some (.tup (k.map kV))) (a:RelV y u) :
  KT H (fI kvs k y) (storedH xs k b u):=by
 have e:(kvs.any fun d=>decide (d.1=k))=(atKey xs k).isSome:=by
  rw [oR,(r.val k).isSome_eq,Option.isSome_map]
 unfold fI storedH
 rw [e]
 by_cases q:(atKey xs k).isSome=true
 ·rw [if_pos q,if_pos q];exact r.repl k a
 ·rw [if_neg q,if_neg q];exact Paired.snoc r ⟨rfl,c,a⟩
theorem KT.keeps {H H':Hp} {kvs:List (List Key × V)} {xs:List (List Key × Addr × Value)} (r:KT H kvs xs) (a:∀ b ys,H b=some (.tup ys)->H' b=some (.tup ys)):KT H' kvs xs :=
 Paired.mapP r fun _ _ z=>⟨z.1,a _ _ z.2.1,z.2.2⟩
section
variable {P:Program} {w:World} {H:Hp} {h:Heap} {a:Addr}
theorem Bs {u:HO} (ok:HOk P w H h) (e:Rd H a u):ObjOk P w H h a u:=e.ok ok
theorem sh {kvs:List (Key × V)} (ok:HOk P w H h) (e:Rd H a (.dK kvs)):kvs.length<=sizeLine/\(a == sysModules)=false/\∃ b,KV kvs b/\DictOfE (bO P w) h a b :=
 show ObjOk P w H h a (.dK kvs) from Bs ok e
theorem BG {kvs:List (Key × V)} (ok:HOk P w H h) (e:Rd H a (.dK kvs)):kvs.length<=sizeLine/\(a == sysModules)=false/\∃ b,KV kvs b/\h.DictOf (bO P w) a b:=let ⟨z,y,b,r,d⟩:=sh ok e;⟨z,y,b,r,d.of⟩
theorem nY {ks:List Key} (ok:HOk P w H h) (e:H a=some (.tup (ks.map kV))):(tupleKind (bO P w)).is h ks a:=by
 obtain ⟨_,its,r,o,h1,h2,n,h3⟩:=(show ObjOk P w H h a (.tup (ks.map kV)) from ok a _ e)
 exact ⟨o,its.toArray,n,h1,h2,congrArg Prod.fst h3,by simpa using mT r⟩
theorem sg {kvs:List (List Key × V)} (ok:HOk P w H h) (e:Rd H a (.dT kvs)):kvs.length<=sizeLine/\(a == sysModules)=false /\
  ∃ xs,KT H kvs xs/\DictOfHE (tupleKind (bO P w)) h a xs:=by
 obtain ⟨z,y,xs,r,o,es,f,h1,h2,h3,c,d⟩:=(show ObjOk P w H h a (.dT kvs) from Bs ok e)
 refine ⟨z,y,xs,r,o,es,f,h1,h2,h3,c,fun x b=>?_,d⟩
 have all:∀ {l:List (List Key × V)} {m:List (List Key × Addr × Value)},KT H l m->∀ x ∈ m,(tupleKind (bO P w)).is h x.1 x.2.1:=by
  intro l m q
  induction q with
  | nil=>intro x b;exact nomatch b
  | @cons p q ps qs hq t ih =>
   intro x b
   rcases Ei.mp b with e | b
   ·subst e
    exact nY ok (by rw [<- hq.1];exact hq.2.1)
   ·exact ih x b
 exact all r x b
theorem BF {kvs:List (List Key × V)} (ok:HOk P w H h) (e:Rd H a (.dT kvs)):kvs.length<=sizeLine/\(a == sysModules)=false /\
  ∃ xs,KT H kvs xs/\h.DictOfH (tupleKind (bO P w)) a xs:=let ⟨z,y,xs,r,d⟩:=sg ok e;⟨z,y,xs,r,d.of⟩
end
def DGet (H:Hp) (a:Addr) (y:V) (r:Option V):Prop :=
 (∃ kvs k,Rd H a (.dK kvs)/\y=kV k/\r=ky kvs k)\/∃ kvs k b,Rd H a (.dT kvs)/\y=.ref b/\H b=some (.tup (k.map kV))/\r=ky kvs k
def DPut (H:Hp) (a:Addr) (y v:V) (H':Hp):Prop :=
 (∃ kvs k,H a=some (.dK kvs)/\y=kV k/\kvs.length < sizeLine/\H'=upd H a (.dK (fI kvs k v))) \/
 ∃ kvs k b,H a=some (.dT kvs)/\y=.ref b/\H b=some (.tup (k.map kV))/\kvs.length < sizeLine/\H'=upd H a (.dT (fI kvs k v))
theorem DGet.t {H:Hp} {a b:Addr} {kvs:List (List Key × V)} {k:List Key} (e:H a=some (.dT kvs)) (c:H b=some (.tup (k.map kV))):DGet H a (.ref b) (ky kvs k):=.inr ⟨kvs,k,b,.inl e,rfl,c,rfl⟩
theorem DPut.t {H:Hp} {a b:Addr} {kvs:List (List Key × V)} {k:List Key} {v:V} (e:H a=some (.dT kvs)) (d:H b=some (.tup (k.map kV))) (c:kvs.length < sizeLine) :
  DPut H a (.ref b) v (upd H a (.dT (fI kvs k v))):=.inr ⟨kvs,k,b,e,rfl,d,c,rfl⟩
section
variable {X:Cx} {pins:List (Addr × Obj)} {σ:St} {H:Hp} {s:Shared} {a:Addr} {y v:V} {u r:Value} {o:Option V} {A:Around} {E:Value->Shared->Prop}
theorem Inv.big (I:Inv X pins σ H s):sysModules < s.heap.objs.size:=by
 have h:mainGlobals < s.heap.objs.size:=(I.mod.glob.keeps I.bk).lt
 exact Nat.lt_trans (by decide) h
theorem vA {Q:Value->Shared->Prop} (hu:A.units+1 < cLine) (I:Inv X pins σ H s) (g:DGet H a y (some v)) (m:RelV y u) (h:∀ d s',Inv X pins σ H s'->RelV v d->Q d s') :
  wpAny (model X.prog X.w) A (getItem (.ref a) u) Q E s:=by
 rcases g with ⟨kvs,k,e,j,l⟩ | ⟨kvs,k,b,e,j,n,l⟩
 ·subst j
  obtain ⟨z,hd,r,rel,f⟩:=BG I.hok e
  obtain ⟨d,hw,c⟩:=RelO.some_of (v:=v) (o:=valueAt r k) (by rw [l];exact rel.val k)
  exact wpAny_getItem_of (tQ m) f.mapOf hw (h d _ (I.tok _) c)
 ·subst j
  cases (show u=Value.ref b from m)
  obtain ⟨z,hd,xs,rel,f⟩:=BF I.hok e
  obtain ⟨d,hw,c⟩:=RelO.some_of (v:=v) (o:=(atKey xs k).map (·.2)) (by rw [l];exact rel.val k)
  obtain ⟨p,q,i⟩:=Ef.mp hw
  refine wpAny_getItem_heap (tupleKind_room_in1 hu) (nY I.hok n) f q ?_
  rw [i]
  exact h d _ (I.tok _) c
theorem kQ {h':Heap} {t':Nat} {ob:HO} (I:Inv X pins σ H s) (c:Mut (H a)) (f:Heap.SameBut a s.heap h') (he:∃ q,h'.get? a=some q) (new:ObjOk X.prog X.w (upd H a ob) h' a ob) :
  Inv X pins σ (upd H a ob) { s with heap:=h',toks:=t' } :=
 I.write (x:=a) (e:=a) c (.inl rfl) (fun b q d z=>(f.2 b d).trans z) he new
theorem yN {P:Program} {w:World} {H':Hp} {h':Heap} {kvs:List (Key × V)} {b:List (Key × Value)} (z:kvs.length<=sizeLine) (hd:(a == sysModules)=false) (rel:KV kvs b) (c:DictOfE (bO P w) h' a b) :
  ObjOk P w H' h' a (.dK kvs):=⟨z,hd,b,rel,c⟩
theorem vz {H':Hp} {Q:Unit->Shared->Prop} (hu:A.units+1 < cLine) (I:Inv X pins σ H s) (g:DPut H a y v H') (t:RelV y u) (B:RelV v r) (h:∀ s',Inv X pins σ H' s'->Q () s') :
  wpAny (model X.prog X.w) A (setItem (.ref a) u r) Q E s:=by
 rcases g with ⟨kvs,k,e,o,l,n⟩ | ⟨kvs,k,b,e,o,x,l,n⟩
 ·subst o n
  obtain ⟨z,hd,D,rel,j⟩:=sh I.hok (.inl e)
  have hz:D.length<=sizeLine:=by rw [<- rel.length];exact z
  have i:(fI kvs k v).length<=sizeLine:=by have:=kj kvs k v;omega
  refine kY (hsz:=hz) (tQ t) j fun h' d m=>h _ ?_
  have he:∃ q,h'.get? a=some q:=let ⟨q,_,_,f,_⟩:=d;⟨q,f⟩
  exact kQ I (by rw [e];exact True.intro) m he (yN i hd (rel.put k B) d)
 ·subst o n
  cases (show u=Value.ref b from t)
  obtain ⟨z,hd,xs,rel,j⟩:=sg I.hok (.inl e)
  have hz:xs.length<=sizeLine:=by rw [<- Paired.length rel];exact z
  have i:(fI kvs k v).length<=sizeLine:=by have:=kj kvs k v;omega
  refine lP (hsz:=hz) (tupleKind_room_in1 hu) (nY I.hok x) j fun h' d m=>h _ ?_
  obtain ⟨q,es,G,f,h2,h3,F,_,C⟩:=d
  refine kQ I (by rw [e];exact True.intro) m ⟨q,f⟩ ⟨i,hd,_,(rel.put k x B).keeps fun c ys p=>?_,q,es,G,f,h2,h3,F,C⟩
  rw [aw (Bw p e (fun z=>nomatch z))]
  exact p
end
theorem qg {X:Cx} {pins:List (Addr × Obj)} {σ:St} {H:Hp} {s:Shared} {a:Addr} {y:V} {o:Option V} (I:Inv X pins σ H s) (g:DGet H a y o):s.TypeIs (.ref a) "dict":=by
 rcases g with ⟨kvs,k,e,_,_⟩ | ⟨kvs,k,b,e,_,_,_⟩
 ·obtain ⟨_,_,d,_,c⟩:=BG I.hok e
  exact c.typeIs
 ·obtain ⟨_,_,xs,_,c⟩:=BF I.hok e
  exact c.typeIs
theorem yO {P:Program} {w:World} {H:Hp} (h:Heap) (a:sysModules < h.objs.size):ObjOk P w H (h.push { cls:=.type "dict",data:=.dict #[] }) h.objs.size (.dK []) :=
 ⟨Nat.zero_le _,beq_eq_false_iff_ne.mpr (Ne.symm (Ew a)),[],.nil,_,#[],0,Em _ rfl,⟨rfl,rfl,rfl⟩,rfl,(fun _ h=>by simp at h),.nil,List.nodup_nil,rfl⟩
theorem qf {P:Program} {w:World} {H:Hp} (h:Heap) (a:sysModules < h.objs.size):ObjOk P w H (h.push { cls:=.type "dict",data:=.dict #[] }) h.objs.size (.dT []) :=
 ⟨Nat.zero_le _,beq_eq_false_iff_ne.mpr (Ne.symm (Ew a)),[],.nil,_,#[],0,Em _ rfl,⟨rfl,rfl,rfl⟩,rfl,rfl,List.nodup_nil,rfl⟩
def B7:TE:=fun _ H Q=>∀ p,H p=none->Q (.ref p) (upd H p (.dT []))
section
variable {X:Cx} {pos:Pos}
theorem xB:PE X (.Dict [] [] pos) B7:=fun pins s σ H Q I h =>
 wpAny_Dict_empty ⟨.ref s.heap.objs.size,_,I.laid (a:=s.heap.objs.size) (o:=.dT []) (t':=s.toks) (fun _ _ q=>Ee _ q) (Eu _) (qf s.heap I.big),rfl,h _ (I.hok.fresh (Eu _))⟩
end
end L2
namespace L2
open PySem PySem.Spec PyProof.Rows
end L2
end
section
namespace L2
open PySem PySem.Spec PyProof.Rows
def kE (cells:List (Str × Addr)) (cs:List (Str × Addr)) (x:Str × NameKind):List (Str × Addr) :=
 if x.2 == .free then (match cells.lookup x.1 with | some c=>(x.1,c) :: cs | none=>cs) else cs
def clo (cells:List (Str × Addr)) (names:List (Str × NameKind)):List (Str × Addr):=names.foldl (kE cells) []
theorem lB {α β:Type} {f:α->β->Sem (ForInStep β)} {g:β->α->β}:∀ {l:List α} {c:β},(∀ x ∈ l,∀ c,f x c=pure (.yield (g c x)))->forIn l c f=pure (l.foldl g c)
 | [],c,_=>rfl
 | x :: l,c,h=>by
  rw [List.forIn_cons,h x Ec,pure_bind]
  exact lB fun y a=>h y (Ed _ a)
theorem il {scope:Scope} {env:Env} (h:∀ x ∈ scope.names,x.2=.free->∃ c,env.cells.lookup x.1=some c):closureFor scope env=pure (clo env.cells scope.names):=by
 simp only [closureFor]
 rw [lB (g:=kE env.cells) (fun x f c=>by
  obtain ⟨n,kind⟩:=x
  unfold kE
  by_cases b:kind=.free
  ·subst b
   obtain ⟨a,e⟩:=h _ f rfl
   have d:env.cells.lookup n=some a:=e
   simp [cellOf,d]
  ·have i:(kind == NameKind.free)=false:=by simpa using b
   simp [i])]
 rfl
theorem mV {cells:List (Str × Addr)} {x:Str} {c:Addr}:∀ {l:List (Str × NameKind)} {cs:List (Str × Addr)},(∀ y d,cs.lookup y=some d->cells.lookup y=some d)->(l.foldl (kE cells) cs).lookup x=some c->cells.lookup x=some c
 | [],cs,h,e=>h x c e
 | y :: l,cs,h,e=>by
  refine mV (l:=l) (cs:=kE cells cs y) (fun z d q=>?_) e
  unfold kE at q
  split at q
  ·cases b:cells.lookup y.1 with
   | none=>rw [b] at q;exact h z d q
   | some a =>
    rw [b] at q
    simp only [List.lookup_cons] at q
    cases hz:z == y.1 with
    | true=>rw [hz] at q;have:=eq_of_beq hz;subst this;rw [b];exact q
    | false=>rw [hz] at q;exact h z d q
  ·exact h z d q
theorem oq {cells:List (Str × Addr)} {l:List (Str × NameKind)} {x:Str} {c:Addr} (e:(clo cells l).lookup x=some c):cells.lookup x=some c:=mV (fun _ _ q=>by simp at q) e
theorem lC {cells:List (Str × Addr)} {x:Str} {c:Addr} (b:cells.lookup x=some c):∀ {l:List (Str × NameKind)} {cs:List (Str × Addr)},cs.lookup x=some c->(l.foldl (kE cells) cs).lookup x=some c
 | [],_,e=>e
 | y :: l,cs,e=>by
  refine lC b (l:=l) (cs:=kE cells cs y) ?_
  unfold kE
  split
  ·cases d:cells.lookup y.1 with
   | none=>exact e
   | some a =>
    simp only [List.lookup_cons]
    cases hz:x == y.1 with
    | true=>have:=eq_of_beq hz;subst this;rw [b] at d;exact d.symm
    | false=>exact e
  ·exact e
theorem mY {cells:List (Str × Addr)} {x:Str} {c:Addr} (a:cells.lookup x=some c):∀ {l:List (Str × NameKind)} {cs:List (Str × Addr)},(x,NameKind.free) ∈ l->(l.foldl (kE cells) cs).lookup x=some c
 | [],_,m=>by simp at m
 | y :: l,cs,m=>by
  rcases Ei.mp m with rfl | m
  ·refine lC a (l:=l) ?_
   simp [kE,a]
  ·exact mY a (l:=l) (cs:=kE cells cs y) m
theorem ub {cells:List (Str × Addr)} {l:List (Str × NameKind)} {x:Str} {c:Addr} (a:cells.lookup x=some c) (m:(x,NameKind.free) ∈ l):(clo cells l).lookup x=some c:=mY a m
theorem jd {env:Env}:∀ {names:List (Str × NameKind)} {x:Str},names.lookup x=some .free ->
  (names.map fun (n,k)=>if (k == NameKind.free && env.scope.kind == .function && env.kindOf n == some .cell) then (n,NameKind.cell) else (n,k)).lookup x=some .cell \/
  (names.map fun (n,k)=>if (k == NameKind.free && env.scope.kind == .function && env.kindOf n == some .cell) then (n,NameKind.cell) else (n,k)).lookup x=some .free
 | [],_,h=>by simp at h
 | (n,k) :: r,x,h=>by
  have b:=@jd env r x
  show List.lookup x ((if (k == NameKind.free && env.scope.kind == .function && env.kindOf n == some .cell)=true then (n,NameKind.cell) else (n,k)) :: _)=_ \/
   List.lookup x ((if (k == NameKind.free && env.scope.kind == .function && env.kindOf n == some .cell)=true then (n,NameKind.cell) else (n,k)) :: _)=_
  cases a:x == n with
  | true =>
   simp only [List.lookup_cons,a] at h
   cases h
   split
   ·left;simp [List.lookup_cons,a]
   ·right;simp [List.lookup_cons,a]
  | false =>
   simp only [List.lookup_cons,a] at h
   split
   ·simp only [List.lookup_cons,a];exact b h
   ·simp only [List.lookup_cons,a];exact b h
theorem la {env:Env}:∀ {names:List (Str × NameKind)} {x:Str},(∀ y ∈ names,y.2 ≠ .cell) ->
  ((names.map fun (n,k)=>if (k == NameKind.free && env.scope.kind == .function && env.kindOf n == some .cell) then (n,NameKind.cell) else (n,k)).lookup x=some .cell \/
  (names.map fun (n,k)=>if (k == NameKind.free && env.scope.kind == .function && env.kindOf n == some .cell) then (n,NameKind.cell) else (n,k)).lookup x=some .free)->(x,NameKind.free) ∈ names
 | [],_,_,h=>by simp at h
 | (n,k) :: r,x,hc,h=>by
  have c:=@la env r x (fun y b=>hc y (Ed _ b))
  have f:=hc (n,k) Ec
  have h':List.lookup x ((if (k == NameKind.free && env.scope.kind == .function && env.kindOf n == some .cell)=true then (n,NameKind.cell) else (n,k)) :: (r.map fun (n,k)=>if (k == NameKind.free && env.scope.kind == .function && env.kindOf n == some .cell) then (n,NameKind.cell) else (n,k)))=some .cell \/
   List.lookup x ((if (k == NameKind.free && env.scope.kind == .function && env.kindOf n == some .cell)=true then (n,NameKind.cell) else (n,k)) :: (r.map fun (n,k)=>if (k == NameKind.free && env.scope.kind == .function && env.kindOf n == some .cell) then (n,NameKind.cell) else (n,k)))=some .free:=h
  cases a:x == n with
  | true =>
   have e:=eq_of_beq a
   subst e
   by_cases hf:k=.free
   ·subst hf;exact Ec
   ·exfalso
    have d:(k == NameKind.free)=false:=by simpa using hf
    simp [d,List.lookup_cons] at h'
    rcases h' with q | q
    ·exact f q
    ·exact hf q
  | false =>
   refine Ed _ (c ?_)
   split at h'
   ·simpa only [List.lookup_cons,a] using h'
   ·simpa only [List.lookup_cons,a] using h'
def aN (X:Cx) (NY:List Str) (scope:Scope) (s:Shared) (H:Hp) (C:Addr) (fp:List Addr):Cx where
 prog:=X.prog
 w:=X.w
 K:=X.K
 mg:=X.mg
 base:=X.base
 A:=X.A
 N:=NY
 s₀:=s
 H₀:=H
 env:=compEnvC scope (clo X.env.cells scope.names) C X.env
 outer:=X.stack
 stack:=X.stack
 ex:=fp
 fn:=fun _=>false
 calm:=X.calm
 pn:=[]
 xe:=fun _ _=>False
def cap (ix:List (Option Nat)) (σ:St):St:=ix.map fun o=>match o with | some i=>(σ[i]?).getD none | none=>none
def ie (sc:Scope) (b:List Str) (a:Scope) (NY:List Str) (ix:List (Option Nat)):Bool :=
 sc.kind == .function && sc.names.all (fun y=>y.2 != .cell) && sc.names.all (fun y=>y.2 != .local || sc.names.lookup y.1 == some .local) && sc.names.all (fun y=>y.2 != .free || sc.names.lookup y.1 == some .free)
  && sc.names.all (fun y=>y.2 != .free || (a.names.lookup y.1 == some .cell || a.names.lookup y.1 == some .free))
  && ix.length == NY.length && (NY.zip ix).all fun p=>match p.2 with | none=>true | some i=>(b[i]? == some p.1) && sc.names.contains (p.1,NameKind.free)
structure CompOk (sc:Scope) (XN:List Str) (Xsc:Scope) (NY:List Str) (ix:List (Option Nat)):Prop where
 kind:sc.kind=.function
 nocell:∀ y ∈ sc.names,y.2 ≠ .cell
 loc:∀ y ∈ sc.names,y.2=.local->sc.names.lookup y.1=some .local
 fre:∀ y ∈ sc.names,y.2=.free->sc.names.lookup y.1=some .free
 out:∀ y ∈ sc.names,y.2=.free->Xsc.names.lookup y.1=some .cell\/Xsc.names.lookup y.1=some .free
 len:ix.length=NY.length
 cap:∀ (j:Nat) x i,NY[j]?=some x->ix[j]?=some (some i)->XN[i]?=some x/\(x,NameKind.free) ∈ sc.names
theorem CompOk.of {sc:Scope} {c:List Str} {b:Scope} {NY:List Str} {ix:List (Option Nat)} (h:ie sc c b NY ix=true):CompOk sc c b NY ix:=by
 simp only [ie,Bool.and_eq_true,List.all_eq_true,beq_iff_eq] at h
 obtain ⟨⟨⟨⟨⟨⟨h1,h2⟩,h3⟩,f⟩,g⟩,d⟩,k⟩:=h
 refine ⟨h1,fun y a=>by simpa using h2 y a,fun y a e=>?_,fun y a e=>?_,fun y a e=>?_,d,fun j x i e1 l=>?_⟩
 ·have:=h3 y a;rw [e] at this;simpa using this
 ·have:=f y a;rw [e] at this;simpa using this
 ·have:=g y a;rw [e] at this;simpa using this
 ·have m:(x,some i) ∈ NY.zip ix:=by
   refine Ep (i:=j) ?_
   rw [List.getElem?_zip_eq_some]
   exact ⟨e1,l⟩
  have:=k _ m
  simpa using this
section
variable {X:Cx}
theorem FpOk.of_upd {pins:List (Addr × Obj)} {H:Hp} {b D:Addr} {o:HO} (f:FpOk X pins H b) (h:b ≠ D):FpOk X pins (upd H D o) b:=⟨by rw [aw h];exact f.1,f.2⟩
theorem HOk.track {P:Program} {w:World} {H:Hp} {h:Heap} {a:Addr} {o:HO} (x:HOk P w H h) (d:H a=none) (new:ObjOk P w (upd H a o) h a o):HOk P w (upd H a o) h:=fun b u e=>by
 by_cases f:b=a
 ·subst f;rw [aJ] at e;cases e;exact new
 ·rw [aw f] at e
  exact (x b u e).stay (fun c v _ q=>q) (fun c q=>by rw [aw (aX q d)];exact q) fun c xs q=>by rw [aw (aX q d)];exact q
def PTs (Y:Cx) (ifs:List Expr) (t:TT):Prop :=
 ∀ (pins:List (Addr × Obj)) (s:Shared) (σ:St) (H:Hp) (Q:Bool->Hp->Prop),Inv Y pins σ H s->t σ H Q ->
  wpAny (model Y.prog Y.w) Y.A (forIn ifs true fun c r=>if r=true then do let ok <- isTrue c Y.env (eval c Y.env);pure (ForInStep.yield ok) else pure (ForInStep.yield r)) (TP Y pins σ Q) Y.xe s
def tYes:TT:=fun _ H Q=>Q true H
theorem z9 {Y:Cx}:PTs Y [] tYes:=fun pins s σ H Q I h=>wpAny_tests_nil ⟨H,I,h⟩
theorem z8 {Y:Cx} {c:Expr} {t:TT} (h:PT Y c t):PTs Y [c] t:=fun pins s σ H Q I q=>wpAny_tests_one (h pins s σ H Q I q)
def qL (J:It) (g:TG) (tc:TT) (te:TE) (Z:List V->Hp->Prop) (τ0:St) (H1:Hp):Prop :=
 ∃ W:Nat->Nat->List V->St->Hp->Prop,(∃ m,W 0 m [] τ0 H1)/\∀ i m ys τ H,W i m ys τ H->ys.length < sizeLine /\
  ((J.stop i H/\Z ys H)\/(J.go i H/\∃ N:List V->St->Hp->Prop,(∀ a τ' H',N a τ' H'->∃ d,d < m/\W (i+1) d a τ' H')/\∀ x H',J.yld i H x H'->g x τ H' fun τ2 H2=>tc τ2 H2 fun b c =>
   if b=true then te τ2 c fun y e=>N (ys ++ [y]) τ2 e else N ys τ2 c))
def Bk (a:TI) (g:TG) (tc:TT) (te:TE) (ix:List (Option Nat)):TE:=fun σ H Q =>
 a σ H fun J H1=>qL J g tc te (fun ys H2=>∀ p,H2 p=none->Q (.ref p) (upd H2 p (.lst ys))) (cap ix σ) H1
theorem si {NY:List Str} {scope:Scope} {ix:List (Option Nat)} {pins:List (Addr × Obj)} {σ:St} {H:Hp} {s s4:Shared} {fp:List Addr} {C:Addr} (g:CompOk scope X.N X.env.scope NY ix)
  (I:Inv X pins σ H s) (f:∀ b ∈ fp,FpOk X pins H b) (n:s.heap.objs.size<=C) (t:∀ b ∈ fp,b < s.heap.objs.size) (K:s4.os=s.os) (M:s4.gens=s.gens) (keep:∀ b o,s.heap.get? b=some o->s4.heap.get? b=some o)
  (ns:s4.heap.Ns C fun _=>none):Inv (aN X NY scope s H C fp) [] (cap ix σ) H s4:=by
 have P:FpOk X pins H C:=I.fpOk n (I.hok.fresh n)
 have cls:∀ x c,(clo X.env.cells scope.names).lookup x=some c->X.env.cells.lookup x=some c:=fun x c e=>oq e
 have j:∀ x,(x,NameKind.free) ∈ scope.names->∃ c,X.env.cells.lookup x=some c:=fun x m=>by
  rcases g.out _ m rfl with q | q
  ·exact I.ok.has x (.inl q)
  ·exact I.ok.has x (.inr q)
 refine ⟨⟨I.ok.mod,g.kind,I.ok.glob,I.ok.blt,n,fun x y c e1 d=>I.ok.inj x y c (cls x c e1) (cls y c d),fun x D=>?_,fun x c e _=>(Ev e).elim,fun e=>I.ok.hd e,I.ok.frames,.inl rfl,fun b h=>⟨Ew (EB (t b h) n),fun x c e=>(f b h).2.2.2.2.1 x c (cls x c e)⟩,
  I.bs,ES I.ok.bsz I.sz,fun b o e h=>?_,fun b h hz=>?_,I.stack,I.stkFree⟩,K,by rw [M];exact I.bare,Un.kept keep,⟨_,ns,fun i x v e1 d S=>?_⟩,fun x c e=>?_,P.1,fun x c e=>I.freeC x c (cls x c e),fun p O=>absurd (show p ∈ ([]:List (Addr × Obj)) from O) (by simp),I.hok.kept keep,?_⟩
 ·have m:(x,NameKind.free) ∈ scope.names:=la g.nocell D
  obtain ⟨c,e⟩:=j x m
  exact ⟨c,ub e m⟩
 ·rcases (f b h).2.2.2.1 with z | z
  ·exact I.ok.noex b o e z
  ·exact absurd (EB (Ek e) (ES I.ok.bsz z)) (Nat.lt_irrefl _)
 ·rcases Ei.mp (I.stkSub b hz) with e | e
  ·exact (f b h).2.1 e
  ·exact (f b h).2.2.1 e
 ·-- a captured name
  have q:∃ k,ix[i]?=some (some k)/\σ[k]?=some (some v):=by
   unfold cap at d
   rw [Et] at d
   cases e:ix[i]? with
   | none=>rw [e] at d;simp at d
   | some o =>
    rw [e] at d
    cases o with
    | none=>simp at d
    | some k =>
     refine ⟨k,rfl,?_⟩
     simp only [EH,Option.some.injEq] at d
     cases e':σ[k]? with
     | none=>rw [e'] at d;simp at d
     | some o'=>rw [e'] at d;simp at d;rw [d]
  obtain ⟨k,E,ev⟩:=q
  obtain ⟨J,m⟩:=g.cap i x k e1 E
  obtain ⟨R,Q,B⟩:=I.loc
  have G:Vis X.env.scope x:=by
   rcases g.out _ m rfl with q | q
   ·exact .inr (.inl q)
   ·exact .inr (.inr q)
  obtain ⟨u,r,l⟩:=B k x v J ev G
  refine ⟨u,r,.inr ?_⟩
  rcases l with ⟨A,_⟩ | ⟨_,c,F,L⟩
  ·exfalso
   rcases g.out _ m rfl with q | q
   ·have:=A.symm.trans q;cases this
   ·have:=A.symm.trans q;cases this
  ·obtain ⟨o,w,hd⟩:=L
   exact ⟨jd (g.fre _ m rfl),c,ub F m,o,keep c o w,hd⟩
 ·obtain ⟨v,o,w,hd⟩:=I.cell x c (cls x c e)
  exact ⟨v,o,keep c o w,hd⟩
 ·show (cap ix σ).length=NY.length
  unfold cap
  rw [En]
  exact g.len
theorem ik {prog:Program} {w:World} {A:Around} {R:Result->Shared->Prop} {s:Shared} {elt target iter:Expr} {ifs:List Expr} {scope:Scope} {pos:Pos} {it acc:Value} {env:Env} (I:Nat->Shared->Prop)
  (turn:∀ n s,I n s->wpAny (model prog w) A (pyNext it) (fun r e=>match r with
   | none=>R (.ok .next) e
   | some v=>wpAny (model prog w) A (letOwnedTupleGo target it v) (fun _ a=>wpAny (model prog w) A (assign target env v) (fun _ j =>
     wpAny (model prog w) A (forIn ifs true fun c r=>if r=true then do let ok <- isTrue c env (eval c env);pure (ForInStep.yield ok) else pure (ForInStep.yield r)) (fun ok b =>
      if ok=true then wpAny (model prog w) A (eval elt env) (fun x i =>
       wpAny (model prog w) A (call (.builtin "list.append") [acc,x]) (fun _ g=>∃ m,m < n/\I m g) (fun _ _=>False) i) (fun _ _=>False) b
      else ∃ m,m < n/\I m b) (fun _ _=>False) j) (fun _ _=>False) a) (fun _ _=>False) e) (fun _ _=>False) s)
  (n:Nat) (h:I n s) :
  codeAny (model prog w) A (.compLoop (.ListComp elt [⟨target,iter,ifs,0⟩] scope pos) 0 it acc env) R s:=by
 refine codeAny_loop rfl I (fun n s l=>?_) n h
 show wpAny _ A ((compTurn (.ListComp elt [⟨target,iter,ifs,0⟩] scope pos) 0 it acc env).onRaise (fun x=>do noteFrame x env;theTreesLotGoes x)) _ _ s
 refine wpAny_noted ?_
 rw [compTurn_list]
 refine DZ (wpAny_standAt (DZ (wpAny_mono (turn n s l) (fun r e f=>?_) fun _ _ h'=>h'.elim)))
 cases r with
 | none=>exact Ea f
 | some v =>
  refine DZ (wpAny_mono f (fun _ a d=>?_) fun _ _ h'=>h'.elim)
  refine DZ (wpAny_mono d (fun _ j o=>DZ (wpAny_mono o (fun ok b k=>?_) fun _ _ h'=>h'.elim)) fun _ _ h'=>h'.elim)
  cases ok with
  | false=>exact Ea ⟨rfl,k⟩
  | true =>
   exact DZ (DZ (wpAny_mono k (fun x i q=>DZ (wpAny_mono q (fun _ g p=>Ea (Ea ⟨rfl,p⟩)) fun _ _ h'=>h'.elim)) fun _ _ h'=>h'.elim))
theorem qj {elt tg iter:Expr} {ifs:List Expr} {NY:List Str} {scope:Scope} {ix:List (Option Nat)} {pos:Pos} {pins:List (Addr × Obj)} {σ:St} {H:Hp} {s:Shared} {fp:List Addr} {it:Addr} {tn:Nat->Heap->Prop} {J:It} {g:TG} {tc:TT} {te:TE} {Z:List V->Hp->Prop} {E:Value->Shared->Prop}
  {RR:Value->Addr->Result->Shared->Prop} (hc:X.calm=true) (ck:CompOk scope X.N X.env.scope NY ix)
  (hg:∀ s H C fp,PG (aN X NY scope s H C fp) tg g) (ht:∀ s H C fp,PTs (aN X NY scope s H C fp) ifs tc) (he:∀ s H C fp,PE (aN X NY scope s H C fp) elt te)
  (I:Inv X pins σ H s) (T:Turn X.prog X.w X.K tg J fp it tn) (st:tn 0 s.heap) (f:∀ b ∈ fp,FpOk X pins H b) (hW:qL J g tc te Z (cap ix σ) H)
  (b0:∀ D C s' ys H' m,s'.heap.Ns C m->H' D=none->FpOk X pins (upd H' D (.lst ys)) C->Inv X pins σ (upd H' D (.lst ys)) s'->Z ys H'->RR (.ref D) C (.ok .next) s') :
  wpAny (model X.prog X.w) X.A (newList []) (fun acc s₃=>wpAny (model X.prog X.w) X.A (newFunctionEnv scope X.env.globals (clo X.env.cells scope.names) [] X.env.qual none .none (some X.env)) (fun F s₄ =>
   codeAny (model X.prog X.w) X.A (.compStart (.ListComp elt [⟨tg,iter,ifs,0⟩] scope pos) 0 (.ref it) acc { F with scope:=relabel scope X.env }) (RR acc F.locals) s₄) E s₃) E s:=by
 obtain ⟨W,⟨m0,w0⟩,turn⟩:=hW
 refine wpAny_newObj_type (wpAny_newFunctionEnv ck.nocell (by intro y hy;simp at hy) (fun h₁ t h=>?_) ck.kind)
 dsimp only at t h ⊢
 generalize L:s.heap.push { cls:=.type "list",dict:=none,data:=.seq ([]:List Value).toArray }=H2 at t h ⊢
 have az:H2.objs.size=s.heap.objs.size+1:=by rw [<- L,EQ]
 have B:s.heap.objs.size ≠ H2.objs.size:=by rw [az];exact Ew (Nat.lt_succ_self _)
 have j:s.heap.objs.size<=H2.objs.size:=by rw [az];exact Nat.le_succ _
 generalize G:s.heap.objs.size=D at *
 generalize hC:H2.objs.size=C at *
 have below:∀ b o,s.heap.get? b=some o->b < D:=fun b o e=>by rw [<- G];exact Ek e
 have old:∀ b o,s.heap.get? b=some o->h₁.get? b=some o:=fun b o e=>h.extBut b o (Ew (EB (below b o e) j)) (Ee _ (L ▸ Ee _ e))
 have O:H2.get? D=some { cls:=.type "list",dict:=none,data:=.seq ([]:List Value).toArray }:=by
  rw [<- L,<- G];exact Em _ rfl
 have a6:h₁.PlainList D #[]:=⟨_,h.extBut _ _ B (Ee _ O)⟩
 have a0:∀ b ∈ fp,b < s.heap.objs.size:=fun b a=>by
  obtain ⟨o,e,_⟩:=T.obj 0 _ st b a
  exact Ek e
 have k:∀ b ∈ fp,b < D:=fun b a=>by rw [<- G];exact a0 b a
 have IY:Inv (aN X NY scope s H C fp) [] (cap ix σ) H { s with heap:=h₁,toks:=s.toks+([]:List (Str × Value)).length } :=
  si ck I f (by rw [G];exact j) a0 rfl rfl old t
 have bq:H D=none:=I.hok.fresh (by rw [G];exact Eu _)
 have l:∀ b ∈ frs X.stack,b < D:=fun b a=>by
  obtain ⟨_,o,ho,_⟩:=I.stack.mem a
  exact below b o ho
 have loop:∀ s₃:Shared,s₃ = { s with heap:=h₁,toks:=s.toks+([]:List (Str × Value)).length } ->
   codeAny (model X.prog X.w) X.A (.compLoop (.ListComp elt [⟨tg,iter,ifs,0⟩] scope pos) 0 (.ref it) (.ref D) (aN X NY scope s H C fp).env) (RR (.ref D) C) s₃:=by
  rintro s₃ rfl
  refine ik (fun n s'=>∃ i ys τ H' its,Inv (aN X NY scope s H C fp) [] τ H' s'/\H' D=none/\s'.heap.PlainList D its/\Vals ys its.toList/\tn i s'.heap/\(∀ b ∈ fp,H' b=none)/\W i n ys τ H') ?_ m0
   ⟨0,[],cap ix σ,H,#[],IY,bq,a6,.nil,T.keep _ _ _ st fun b _ o e=>old b o e,fun b a=>(f b a).1,w0⟩
  rintro n s3 ⟨i,ys,τ,S,its,I3,d3,l3,v3,ar,a5,w3⟩
  obtain ⟨nl,e3⟩:=id l3
  have ax:Inv (aN X NY scope s H C fp) [(D,{ cls:=.type "list",data:=.seq its nl })] τ S s3:=I3.pins_of fun p Y=>by
   have e:p=(D,{ cls:=.type "list",data:=.seq its nl }):=by simpa using Y
   subst e
   exact ⟨e3,d3,B,fun z=>Nat.lt_irrefl _ (l D z),fun v z=>by cases z⟩
  have R:∀ {H':Hp} {pl:List (Addr × Obj)},(∀ b ∈ fp,H' b=none)->(∀ p ∈ pl,p.1=D)->∀ b ∈ fp,FpOk (aN X NY scope s H C fp) pl H' b:=fun hn Y b a =>
   ⟨hn b a,Ew (EB (k b a) j),fun z=>by
    rcases Ei.mp (I.stkSub b z) with e | e
    ·exact (f b a).2.1 e
    ·exact (f b a).2.2.1 e,.inl a,fun x c e=>(f b a).2.2.2.2.1 x c (oq e),fun p b3=>by
    have e:p.1=D:=Y p ((El.mp b3).elim (fun z=>absurd (show p ∈ ([]:List (Addr × Obj)) from z) (by simp)) fun z=>z)
    rw [e]
    exact Nat.ne_of_gt (k b a)⟩
  obtain ⟨zl,step⟩:=turn i n ys τ S w3
  have single:∀ p ∈ [(D,({ cls:=.type "list",data:=.seq its nl }:Obj))],p.1=D:=fun p Y=>by
   have e:p=(D,{ cls:=.type "list",data:=.seq its nl }):=by simpa using Y
   rw [e]
  rcases step with ⟨stop,qn⟩ | ⟨go,N,hN,step⟩
  ·refine wpAny_mono (T.done (aN X NY scope s H C fp) rfl rfl rfl hc i _ s3 τ S (fun _ _=>False) ax (R a5 single) ar stop) (fun r s4 ⟨hr,P⟩=>?_) fun _ _ e=>e
   subst hr
   obtain ⟨mC,be,_⟩:=id P.loc
   obtain ⟨e4,U,_⟩:=P.pin (D,{ cls:=.type "list",data:=.seq its nl }) (by simp [aN])
   have b4:∀ b o,s.heap.get? b=some o->b ≠ D:=fun b o e=>Ew (below b o e)
   have Q:=P.base
   refine b0 D C s4 ys S mC be U ?_ ?_ qn
   ·exact (I.fpOk (by rw [G];exact j) (by exact P.free)).of_upd (Ne.symm B)
   ·refine I.call' (ch:=fp) P.os (H':=upd S D (.lst ys)) ⟨Q.keep,Q.slot,fun b o e n hx=>?_,Q.there,fun b xs e=>?_,fun b o u e=>?_,fun b ps e=>?_⟩ ?_ P.bare fun b a=>?_
    ·rw [aw (b4 b o e)];exact Q.free b o e n hx
    ·have q:=Q.tups b xs e;rw [aw (aX q U)];exact q
    ·have q:=Q.frzs b o u e;rw [aw (aX q U)];exact q
    ·obtain ⟨more,q⟩:=Q.tbls b ps e;exact ⟨more,by rw [aw (aX q U)];exact q⟩
    ·exact P.hok.track U ⟨Nat.le_of_lt zl,its.toList,nl,v3,by simpa using e4⟩
    ·exact ⟨(f b a).2.2.2.1,(f b a).2.1,(f b a).2.2.2.2.1,(f b a).2.2.2.2.2⟩
  ·refine wpAny_mono (T.item (aN X NY scope s H C fp) rfl rfl rfl hc i _ s3 τ S (fun _ _=>False) ax (R a5 single) ar go) (fun r s4 ⟨u,hr,h4⟩=>?_) fun _ _ e=>e
   subst hr
   refine wpAny_mono h4 (fun _ s5 ⟨x,H5,I5,r5,y5,M,b6⟩=>?_) fun _ _ e=>e
   have b5:=I5.pinned (R b6 single) (T.obj _ _ M)
   refine wpAny_mono (hg s H C fp _ s5 τ H5 x u _ b5 r5 (step x H5 y5)) (fun _ s6 ⟨τ6,H6,I6,q6⟩=>?_) fun _ _ e=>e
   refine wpAny_mono (ht s H C fp _ s6 τ6 H6 _ I6 q6) (fun b s7 ⟨H7,I7,q7⟩=>?_) fun _ _ e=>e
   have after:∀ {s':Shared} {H':Hp},Inv (aN X NY scope s H C fp) ([(D,{ cls:=.type "list",data:=.seq its nl })] ++ ld fp s5.heap) τ6 H' s'->tn (i+1) s'.heap/\(∀ b ∈ fp,H' b=none)/\H' D=none/\s'.heap.PlainList D its:=fun {s' H'} I' =>
    ⟨T.keep _ _ _ M fun b a o e=>(I'.pin (b,o) (Eh _ (Eh _ (fL a e)))).1,fun b a=>by
     obtain ⟨o,e,d⟩:=T.obj _ _ M b a
     exact (I'.pin (b,o) (Eh _ (Eh _ (fL a e)))).2.1,(I'.pin (D,_) (Eh _ (Eg _ (EJ.mpr rfl)))).2.1,
     nl,(I'.pin (D,_) (Eh _ (Eg _ (EJ.mpr rfl)))).1⟩
   cases b with
   | false =>
    rw [if_neg Ev]
    rw [if_neg Ev] at q7
    obtain ⟨m',hm,w7⟩:=hN _ _ _ q7
    obtain ⟨a1,a2,a3,a4⟩:=after I7
    exact ⟨m',hm,i+1,ys,τ6,H7,its,I7.pins_of (fun _ z=>absurd z (by simp)),a3,a4,v3,a1,a2,w7⟩
   | true =>
    rw [if_pos rfl]
    rw [if_pos rfl] at q7
    refine wpAny_mono (he s H C fp _ s7 τ6 H7 _ I7 q7) (fun y s8 ⟨yv,H8,I8,r8,n8⟩=>?_) fun _ _ e=>e
    obtain ⟨m',hm,w8⟩:=hN _ _ _ n8
    obtain ⟨a1,a2,a3,a4⟩:=after I8
    have cm:ys.length=its.size:=by simpa using v3.length
    have hsz:its.size<=sizeLine:=by omega
    refine wpAny_list_append_plain (hsz:=hsz) a4 fun h9 l9 ab=>?_
    have I9:Inv (aN X NY scope s H C fp) [] τ6 H8 { s8 with heap:=h9,toks:=s8.toks }:=(I8.pins_of (pins':=[]) fun _ z=>absurd z (by simp)).turned (it:=D) (fun b o a e=>(ab.2 b a).trans e) a3 B (.inr (by show s.heap.objs.size<=D;rw [G];exact Eu _)) (fun x c e z=>?_) fun p z=>absurd (show p ∈ ([]:List (Addr × Obj)) from z) (by simp)
    ·refine ⟨m',hm,i+1,ys ++ [yv],τ6,H8,its.push y,I9,a3,l9,?_,T.keep _ _ _ a1 fun b a o e=>(ab.2 b (Ew (k b a))).trans e,a2,w8⟩
     rw [Array.toList_push]
     exact v3.append (.cons r8 .nil)
    ·obtain ⟨v,o,ho,_⟩:=I.cell x c (oq e)
     exact Nat.lt_irrefl _ (z ▸ below c o ho)
 exact codeAny_compStart_list (loop _ rfl) (T.self X.A 0 _ _ _ (T.keep _ _ _ st fun b _ o e=>old b o e) (loop _ rfl))
theorem Al {elt tg iter:Expr} {ifs:List Expr} {scope:Scope} {pos:Pos} {d:TI} {g:TG} {tc:TT} {te:TE} (NY:List Str) (ix:List (Option Nat)) (n:X.calm=true) (hi:PI X tg iter d)
  (y:∀ s H C fp,PG (aN X NY scope s H C fp) tg g) (E:∀ s H C fp,PTs (aN X NY scope s H C fp) ifs tc) (he:∀ s H C fp,PE (aN X NY scope s H C fp) elt te)
  (a:ie scope X.N X.env.scope NY ix=true) (i:∀ x,foldedSetIterable iter X.env x=pure x:=by intro _;rfl):PE X (.ListComp elt [⟨tg,iter,ifs,0⟩] scope pos) (Bk d g tc te ix):=by
 intro pins s σ H Q I h
 have a:=CompOk.of a
 rw [eval_ListComp]
 refine wpAny_comprehension_free (use:=none) rfl i (il (scope:=scope) (env:=X.env) fun x m e=>?_) a.kind a.loc (thn (hi pins s σ H _ I h) fun v s1 h1=>thn h1 fun k s2 h2=>?_)
 ·rcases a.out x m e with q | q
  ·exact I.ok.has x.1 (.inl q)
  ·exact I.ok.has x.1 (.inr q)
 ·obtain ⟨it,fp,G,J,H2,e,f,T,c,f2,r⟩:=h2
  subst e
  refine qj (RR:=fun acc C=>compPost (model X.prog X.w) X.A X.xe none (EP X pins σ Q) acc C) n a y E he f T c f2 r ?_
  intro D C s' ys H' m z u B F j
  obtain ⟨f0,f1,f2,p,f4,t⟩:=B
  exact ⟨m,z,fun h' sb=>⟨.ref D,_,F.turned (t':=s'.toks) (fun b o l e=>(sb.2 b l).trans e) f0 f1 p f4 t,rfl,j D u⟩⟩
def Bp (i:Nat) (a:TI) (g:TG) (tc:TT) (te:TE) (ix:List (Option Nat)):TS:=fun D σ H =>
 a σ H fun J H1=>qL J g tc te (fun ys H2=>∀ p,H2 p=none->D.nx (σ.set i (some (.ref p))) (upd H2 p (.lst ys))) (cap ix σ) H1
theorem rz {i:Nat} {y:Str} {py c:Pos} {elt tg iter:Expr} {ifs:List Expr} {scope:Scope} {pos:Pos} {t:TI} {g:TG} {tc:TT} {te:TE} (hN:X.N.Nodup) (Y:X.N[i]?=some y) (O:Loc X.env.scope y) (NY:List Str) (ix:List (Option Nat)) (E:X.calm=true) (hi:PI X tg iter t)
  (W:∀ s H C fp,PG (aN X NY scope s H C fp) tg g) (L:∀ s H C fp,PTs (aN X NY scope s H C fp) ifs tc) (he:∀ s H C fp,PE (aN X NY scope s H C fp) elt te)
  (d:ie scope X.N X.env.scope NY ix=true)
  (p:swapsWith (.ListComp elt [⟨tg,iter,ifs,0⟩] scope pos) (some (.Name y py)) c.line X.env=pure true:=by rfl)
  (hf:X.fn y=true\/X.env.scope.names.lookup y=some .local:=by first | exact .inl rfl | exact .inr rfl | assumption)
  (P:∀ x,foldedSetIterable iter X.env x=pure x:=by intro _;rfl):PS X (.Assign [.Name y py] (.ListComp elt [⟨tg,iter,ifs,0⟩] scope pos) c) (Bp i t g tc te ix):=by
 intro pins s σ H D I h
 have d:=CompOk.of d
 rw [exec_Assign_Name_used _ _ _ _ p]
 refine DZ (wpAny_standAt (DZ ?_))
 show wpAny _ X.A (do let _ <- comprehension (.ListComp elt [⟨tg,iter,ifs,0⟩] scope pos) scope X.env _ (newList []) false (eval iter X.env) (some (assign (.Name y py) X.env))) _ _ s
 refine DZ (wpAny_mono (wpAny_comprehension_free (use:=some (assign (.Name y py) X.env)) (Q:=fun _ s'=>SP X pins D .next s') rfl P (il (scope:=scope) (env:=X.env) fun x m e=>?_) d.kind d.loc
  (thn (hi pins s σ H _ I h) fun v s1 h1=>thn h1 fun S s2 h2=>?_)) (fun _ s' U=>Ea (Ea U)) fun _ _ e=>e)
 ·rcases d.out x m e with q | q
  ·exact I.ok.has x.1 (.inl q)
  ·exact I.ok.has x.1 (.inr q)
 ·obtain ⟨it,fp,tn,J,H2,e,u,T,f,f2,V⟩:=h2
  subst e
  refine qj (RR:=fun acc C=>compPost (model X.prog X.w) X.A X.xe (some (assign (.Name y py) X.env)) (fun _ s'=>SP X pins D .next s') acc C) E d W L he u T f f2 V ?_
  intro r C s' ys H' m Z K fC M R
  obtain ⟨f0,f1,f2,F,f4,G⟩:=fC
  show wpAny _ X.A (assign (.Name y py) X.env (.ref r)) _ _ _
  refine wpAny_assign_Name (mf M hN Y O (v:=.ref r) rfl (fun n l ⟨a,sb,ha⟩=>?_) hf)
  have k:C ≠ a:=by
   rcases ha with e | e
   ·rw [e];exact f1
   ·exact fun z=>f4 y a e z.symm
  exact ⟨m,Z.sameBut sb k,fun h' j=>⟨_,_,l.turned (t':=n.toks) (fun b o B e=>(j.2 b B).trans e) f0 f1 F f4 G,R r K⟩⟩
end
end L2
end
section
namespace L2
open PySem PySem.Spec PyProof.Rows
section
variable {X:Cx}
inductive KindOf (K:FG) (H:Hp):V->String->Prop
 | int (i:Int):KindOf K H (.int i) "int"
 | bool (b:Bool):KindOf K H (.bl b) "bool"
 | str (x:Str):KindOf K H (.str x) "str"
 | non:KindOf K H .non "NoneType"
 | tuple {a:Addr} {xs:List V}:SqT K H a xs->KindOf K H (.ref a) "tuple"
 | list {a:Addr} {xs:List V}:SqL K H a xs->KindOf K H (.ref a) "list"
 | dK {a:Addr} {kvs}:H a=some (.dK kvs)->KindOf K H (.ref a) "dict"
 | dT {a:Addr} {kvs}:H a=some (.dT kvs)->KindOf K H (.ref a) "dict"
def kB (k t:String):Bool:=k == t || (k == "bool" && t == "int")
theorem Inv.clsK {pins:List (Addr × Obj)} {s:Shared} {σ:St} {H:Hp} {a:Addr} {k:String} (I:Inv X pins σ H s) (h:KindOf X.K H (.ref a) k):∃ o,s.heap.get? a=some o/\o.cls=.type k:=by
 cases h with
 | tuple h=>obtain ⟨its,_,⟨o,e,c,_⟩,_⟩:=I.tuple h;exact ⟨o,e,c⟩
 | list h=>obtain ⟨its,_,⟨o,n,e,c,_⟩,_⟩:=I.list h;exact ⟨o,e,c⟩
 | dK h=>obtain ⟨_,_,_,_,o,_,_,e,c,_⟩:=I.hok a _ h;exact ⟨o,e,c.1⟩
 | dT h=>obtain ⟨_,_,_,_,o,_,_,e,c,_⟩:=I.hok a _ h;exact ⟨o,e,c.1⟩
theorem oD:cp X (.builtin "isinstance") (fun xs H Q=>∃ x k,xs=[x,.ty "int"]/\KindOf X.K H x k/\Q (.bl (kB k "int")) H):=by
 intro pins s σ H xs us Q I r h
 obtain ⟨x,k,rfl,d,q⟩:=h
 obtain ⟨u,v,rfl,a,f⟩:=l7 r
 cases (show v=Value.type "int" from f)
 cases d with
 | int i=>obtain ⟨tk,rfl⟩:=a;exact IsiPair.int_int ⟨.bl true,H,I,rfl,q⟩
 | bool b=>cases (show u=Value.bool b from a);exact IsiPair.bool_int ⟨.bl true,H,I,rfl,q⟩
 | str z=>obtain ⟨tk,rfl⟩:=a;exact IsiPair.str_int ⟨.bl false,H,I.tok _,rfl,q⟩
 | non=>cases (show u=Value.none from a);exact IsiPair.NoneType_int ⟨.bl false,H,I.tok _,rfl,q⟩
 | tuple hh=>cases a;obtain ⟨o,e,c⟩:=I.clsK (.tuple hh);exact IsiPair.tuple_int e c ⟨.bl false,H,I.tok _,rfl,q⟩
 | list hh=>cases a;obtain ⟨o,e,c⟩:=I.clsK (.list hh);exact IsiPair.list_int e c ⟨.bl false,H,I.tok _,rfl,q⟩
 | dK hh=>cases a;obtain ⟨o,e,c⟩:=I.clsK (.dK hh);exact IsiPair.dict_int e c ⟨.bl false,H,I.tok _,rfl,q⟩
 | dT hh=>cases a;obtain ⟨o,e,c⟩:=I.clsK (.dT hh);exact IsiPair.dict_int e c ⟨.bl false,H,I.tok _,rfl,q⟩
theorem lW:cp X (.builtin "isinstance") (fun xs H Q=>∃ x k,xs=[x,.ty "bool"]/\KindOf X.K H x k/\Q (.bl (kB k "bool")) H):=by
 intro pins s σ H xs us Q I r h
 obtain ⟨x,k,rfl,d,q⟩:=h
 obtain ⟨u,v,rfl,a,f⟩:=l7 r
 cases (show v=Value.type "bool" from f)
 cases d with
 | int i=>obtain ⟨tk,rfl⟩:=a;exact IsiPair.int_bool ⟨.bl false,H,I.tok _,rfl,q⟩
 | bool b=>cases (show u=Value.bool b from a);exact IsiPair.bool_bool ⟨.bl true,H,I,rfl,q⟩
 | str z=>obtain ⟨tk,rfl⟩:=a;exact IsiPair.str_bool ⟨.bl false,H,I.tok _,rfl,q⟩
 | non=>cases (show u=Value.none from a);exact IsiPair.NoneType_bool ⟨.bl false,H,I.tok _,rfl,q⟩
 | tuple hh=>cases a;obtain ⟨o,e,c⟩:=I.clsK (.tuple hh);exact IsiPair.tuple_bool e c ⟨.bl false,H,I.tok _,rfl,q⟩
 | list hh=>cases a;obtain ⟨o,e,c⟩:=I.clsK (.list hh);exact IsiPair.list_bool e c ⟨.bl false,H,I.tok _,rfl,q⟩
 | dK hh=>cases a;obtain ⟨o,e,c⟩:=I.clsK (.dK hh);exact IsiPair.dict_bool e c ⟨.bl false,H,I.tok _,rfl,q⟩
 | dT hh=>cases a;obtain ⟨o,e,c⟩:=I.clsK (.dT hh);exact IsiPair.dict_bool e c ⟨.bl false,H,I.tok _,rfl,q⟩
theorem lJ:cp X (.builtin "isinstance") (fun xs H Q=>∃ x k,xs=[x,.ty "tuple"]/\KindOf X.K H x k/\Q (.bl (kB k "tuple")) H):=by
 intro pins s σ H xs us Q I r h
 obtain ⟨x,k,rfl,d,q⟩:=h
 obtain ⟨u,v,rfl,a,f⟩:=l7 r
 cases (show v=Value.type "tuple" from f)
 cases d with
 | int i=>obtain ⟨tk,rfl⟩:=a;exact IsiPair.int_tuple ⟨.bl false,H,I.tok _,rfl,q⟩
 | bool b=>cases (show u=Value.bool b from a);exact IsiPair.bool_tuple ⟨.bl false,H,I.tok _,rfl,q⟩
 | str z=>obtain ⟨tk,rfl⟩:=a;exact IsiPair.str_tuple ⟨.bl false,H,I.tok _,rfl,q⟩
 | non=>cases (show u=Value.none from a);exact IsiPair.NoneType_tuple ⟨.bl false,H,I.tok _,rfl,q⟩
 | tuple hh=>cases a;obtain ⟨o,e,c⟩:=I.clsK (.tuple hh);exact IsiPair.tuple_tuple e c ⟨.bl true,H,I,rfl,q⟩
 | list hh=>cases a;obtain ⟨o,e,c⟩:=I.clsK (.list hh);exact IsiPair.list_tuple e c ⟨.bl false,H,I.tok _,rfl,q⟩
 | dK hh=>cases a;obtain ⟨o,e,c⟩:=I.clsK (.dK hh);exact IsiPair.dict_tuple e c ⟨.bl false,H,I.tok _,rfl,q⟩
 | dT hh=>cases a;obtain ⟨o,e,c⟩:=I.clsK (.dT hh);exact IsiPair.dict_tuple e c ⟨.bl false,H,I.tok _,rfl,q⟩
theorem vM {bs:List Bool}:((List.range bs.length).all fun i=>bs.getD i false)=bs.all id:=by
 rw [Bool.eq_iff_iff]
 simp only [List.all_eq_true,List.mem_range,id]
 constructor
 ·intro h b a
  obtain ⟨i,hi,rfl⟩:=List.mem_iff_getElem.mp a
  simpa [List.getD,hi] using h i hi
 ·intro h i hi
  simpa [List.getD,hi] using h _ (List.getElem_mem hi)
theorem yW (y:X.calm=true):cp X (.builtin "all") (fun xs H Q=>∃ (a:Addr) (bs:List Bool),xs=[.ref a]/\SqL X.K H a (bs.map V.bl)/\Q (.bl (bs.all id)) H):=by
 intro pins s σ H xs us Q I r h
 obtain ⟨a,bs,rfl,z,q⟩:=h
 obtain ⟨u,rfl,j⟩:=d8 r
 cases j
 obtain ⟨its,l,p,hz⟩:=I.list z
 have k:=l.length
 rw [En] at k
 have g:a < s.heap.objs.size:=by obtain ⟨o,_,e,_⟩:=id p;exact Ek e
 refine call_all_walk (wpAny_pyIter_list p.isList ?_)
 refine ⟨s.heap.objs.size,_,_,_,_,_,fun i=>bs.getD i false,rfl,Walks.list (show X.A.in1.handled=none from I.ok.hd y) s.heap.objs.size a (Ew g) its.toArray,⟨⟨_,Em _ rfl,rfl,rfl⟩,p.isList.at fun o e=>Ee _ e⟩,?_,?_⟩
 ·intro i v s' w C n f
  have c:its[i]?=some v:=by simpa using n
  have hi:i < bs.length:=by
   have:=(Eo.mp c).1
   omega
  obtain ⟨u,hu,j⟩:=l.get (i:=i) (x:=V.bl (bs[i])) (by simp [hi])
  rw [c] at hu
  cases hu
  cases (show v=Value.bool bs[i] from j)
  refine ER ?_
  have e:bs.getD i false=bs[i]:=by simp [List.getD,hi]
  have d:w (bs.getD i false) s':=f
  rw [e] at d
  exact d
 ·intro h' tk m
  have B:Inv X pins σ H { s with heap:=h',toks:=tk }:=I.kept fun b o e=>m b o (by
   intro hm
   have t:b=s.heap.objs.size:=by simpa using hm
   exact absurd (t ▸ Ek e) (Nat.lt_irrefl _)) (Ee _ e)
  refine ⟨.bl (bs.all id),H,B,?_,q⟩
  show Value.bool _=Value.bool _
  rw [Ex,<- k,vM]
def Ite (K:FG) (a:Addr):It :=
 ⟨fun i H=>∃ xs x,SqL K H a xs/\xs[i]?=some x,fun i H x H'=>∃ T y,x=.ref T/\H T=none/\H'=upd H T (.tup [.int i,y])/\∀ xs,SqL K H a xs->xs[i]?=some y,fun i H=>∃ xs,SqL K H a xs/\xs.length<=i⟩
theorem Inv.two {pins:List (Addr × Obj)} {s:Shared} {σ:St} {H:Hp} {h':Heap} {tk:Nat} {e it:Addr} (I:Inv X pins σ H s) (h:FpOk X pins H e) (g:FpOk X pins H it) (k:∀ b o,b ≠ e->b ≠ it->s.heap.get? b=some o->h'.get? b=some o):Inv X pins σ H { s with heap:=h',toks:=tk }:=by
 have f:∀ b u,H b=some u->b ≠ e/\b ≠ it:=fun b u q=>⟨aX q h.1,aX q g.1⟩
 have d:∀ b,b ∉ [e,it]->b ≠ e/\b ≠ it:=fun b i=>⟨fun z=>i (by simp [z]),fun z=>i (by simp [z])⟩
 refine I.step (g':=s.gens) (d':=s.drawn) (ch:=[e,it]) (fun b i=>?_) (fun b o _ _ a q _=>k b o (d b a).1 (d b a).2 q) (fun b o _ _ a q _=>⟨o.slots,k b o (d b a).1 (d b a).2 q⟩) (fun _ _ _ _ n=>n)
  (fun b o a q=>⟨o,k b o (d b a).1 (d b a).2 q⟩) (fun _ _ q=>q) (fun _ _ _ q=>q) (fun b ps q=>⟨#[],by rw [q];simp⟩) (fun m hm=>?_) (fun b u q=>?_) I.bare
 ·have l:b=e\/b=it:=by simpa using i
  rcases l with rfl | rfl
  ·exact ⟨h.2.2.2.1,h.2.1,h.2.2.2.2.1,h.2.2.2.2.2⟩
  ·exact ⟨g.2.2.2.1,g.2.1,g.2.2.2.2.1,g.2.2.2.2.2⟩
 ·obtain ⟨o,es,p,j,r⟩:=hm
  exact ⟨o,es,p,k _ o (Ne.symm h.2.1) (Ne.symm g.2.1) j,r⟩
 ·refine (I.hok b u q).stay (fun c v a z=>?_) (fun _ z=>z) fun _ _ z=>z
  rcases a with a | a
  ·rw [a] at z ⊢;exact k b v (f b u q).1 (f b u q).2 z
  ·exact k c v (f c _ a).1 (f c _ a).2 z
theorem Inv.trackT {pins:List (Addr × Obj)} {s:Shared} {σ:St} {H:Hp} {s0:Shared} {T:Addr} {xs:List V} {its:List Value} (I:Inv X pins σ H s) (J:Inv X pins σ H s0) (f:s0.heap.objs.size<=T) (g:IsTupD s.heap T its.toArray) (w:Vals xs its) (hz:xs.length<=sizeLine):Inv X pins σ (upd H T (.tup xs)) s:=by
 have l:H T=none:=J.hok.fresh f
 obtain ⟨e1,G,E,a,z,r,C,D,A,i,j⟩:=id I
 have d:∀ b,H b=none->∀ o,s0.heap.get? b=some o->upd H T (.tup xs) b=none:=fun b t o e=>by
  rw [aw (Ew (EB (Ek e) f))];exact t
 have k:∀ b u,H b=some u->upd H T (.tup xs) b=some u:=fun b u e=>by rw [aw (aX e l)];exact e
 have h:X.s₀.heap.objs.size<=T:=ES J.sz f
 refine ⟨e1,G,E,⟨a.keep,a.slot,fun b o q n g=>?_,a.there,fun b ys q=>k _ _ (a.tups b ys q),fun b o u q=>k _ _ (a.frzs b o u q),fun b ps q=>?_⟩,z,r,?_,fun x c q=>?_,fun p m=>?_,?_,j⟩
 ·rw [aw (Ew (EB (Ek q) h))];exact a.free b o q n g
 ·obtain ⟨more,F⟩:=a.tbls b ps q;exact ⟨more,k _ _ F⟩
 ·rw [aw (Ew (EB J.lt f))];exact C
 ·obtain ⟨v,o,y,_⟩:=J.cell x c q
  exact d c (D x c q) o y
 ·obtain ⟨a1,a2,B⟩:=A p m
  exact ⟨a1,d p.1 a2 p.2 (J.pin p m).1,B⟩
 ·exact i.track l ⟨hz,its,w,g⟩
theorem uu {P:Program} {w:World} {K:FG} {elts:List Expr} {k:Nat} {pos:Pos} (a e it:Addr) (n:e ≠ it):Turn P w K (.Tuple elts k pos) (Ite K a) [e,it] e (fun i h=>(∃ old,IsEnum h e it i old)/\h.IsListIter it a i) where
 mem:=by simp
 obj:=fun i h st b g=>by
  obtain ⟨⟨old,he⟩,o,y,c,d⟩:=st
  have J:b=e\/b=it:=by simpa using g
  rcases J with rfl | rfl
  ·exact ⟨_,he,fun v z=>by cases z⟩
  ·exact ⟨o,y,fun v z=>by rw [d] at z;cases z⟩
 keep:=fun i h h' st k=>⟨let ⟨old,he⟩:=st.1;⟨old,k e (by simp) _ he⟩,st.2.at fun o q=>k it (by simp) o q⟩
 item:=by
  intro X F hw B O i pins s σ H E I hf st N
  subst F hw B
  obtain ⟨xs,x,A,G⟩:=N
  obtain ⟨its,M,p,hz⟩:=I.list A
  obtain ⟨u,hu,ru⟩:=M.get G
  obtain ⟨⟨old,he⟩,hit⟩:=st
  refine wpAny_pyNext_enum_item he hit p.isList (x:=u) (by simpa using hu) n fun h' L j Y hsz U=>?_
  refine ⟨_,rfl,wpAny_letOwnedTupleGo_enum L fun l m f=>?_⟩
  have t:e < s.heap.objs.size:=Ek he
  have W:Inv X pins σ H { s with heap:=l,toks:=s.toks+1 }:=I.two (hf e (by simp)) (hf it (by simp)) fun b o hb1 hb2 q=>(f.2 b hb1).trans (U b o hb1 hb2 q)
  have D:l.get? s.heap.objs.size=some { cls:=.type "tuple",data:=.seq #[.int i s.toks,u] }:=(f.2 _ (Nat.ne_of_gt t)).trans Y
  have Q:=W.trackT (s0:=s) (T:=s.heap.objs.size) (xs:=[.int i,x]) (its:=[.int i s.toks,u]) I (Eu _) ⟨_,D,rfl,_,rfl⟩ (.cons ⟨_,rfl⟩ (.cons ru .nil)) (by show 2<=sizeLine;decide)
  refine ⟨.ref s.heap.objs.size,_,Q,rfl,⟨_,x,rfl,I.hok.fresh (Eu _),rfl,fun ys Z=>by rw [I.list_inj Z A];exact G⟩,⟨⟨_,by simpa using m⟩,?_⟩,fun b g=>?_⟩
  ·obtain ⟨o,y,r⟩:=j
   exact ⟨o,(f.2 it (Ne.symm n)).trans y,r⟩
  ·have C:b < s.heap.objs.size:=by
    have J:b=e\/b=it:=by simpa using g
    rcases J with rfl | rfl
    ·exact t
    ·obtain ⟨o,y,r⟩:=hit;exact Ek y
   rw [aw (Ew C)]
   exact (hf b g).1
 done:=by
  intro X F hw B O i pins s σ H E I hf st N
  subst F hw B
  obtain ⟨xs,A,G⟩:=N
  obtain ⟨its,M,p,hz⟩:=I.list A
  obtain ⟨⟨old,he⟩,hit⟩:=st
  have hl:=M.length
  obtain ⟨f0,f1,f2,R,f4,S⟩:=hf it (by simp)
  exact wpAny_pyNext_enum_end (I.ok.hd O) he hit p.isList (by simp;omega) fun h' V=>⟨rfl,I.turned (t':=s.toks) (fun b o g q=>V b o g q) f0 f1 R f4 S⟩
 self:=fun _ _ _ _ _ st h=>let ⟨_,he⟩:=st.1;wpAny_pyIter_enum he h
def BC (K:FG) (ta:TA):TI:=fun σ H R=>ta σ H fun b H1=>∃ a,b=[.ref a]/\(∃ xs,SqL K H1 a xs)/\R (Ite K a) H1
theorem Ai {a:Expr} {ta:TA} {p pos:Pos} {elts:List Expr} {k:Nat} {v:Pos} (o:Gl X "enumerate") (hm:X.mg "enumerate"=none) (t:PA X [a] ta) (g:starEach [a] X.env=[(false,eval a X.env)]:=by rfl):PI X (.Tuple elts k v) (.Call (.Name "enumerate" p) [a] [] pos) (BC X.K ta):=by
 intro pins s σ H R I h
 refine Call_ (jJ I o hm boot_enumerate (PyProof.Rows.callWith_type1 (thn (t pos pins s σ H _ I h) fun us s1 ⟨x,H1,d,l,r⟩=>?_) g rfl))
 obtain ⟨a,e,⟨xs,n⟩,q⟩:=r
 subst e
 obtain ⟨u,rfl,w⟩:=d8 l
 cases w
 obtain ⟨its,y,pl,hz⟩:=d.list n
 refine call_enumerate_list pl.isList fun h' he hit hsz i=>?_
 refine wpAny_pyIter_enum he ?_
 have f:Inv X pins σ H1 { s1 with heap:=h' }:=d.kept (t':=s1.toks) i
 refine ⟨s1.heap.objs.size+1,[s1.heap.objs.size+1,s1.heap.objs.size],_,_,H1,rfl,f,uu a _ _ (Nat.succ_ne_self _),⟨⟨_,he⟩,hit⟩,fun b m=>?_,q⟩
 have c:s1.heap.objs.size<=b:=by
  have j:b=s1.heap.objs.size+1\/b=s1.heap.objs.size:=by simpa using m
  rcases j with rfl | rfl
  ·exact Nat.le_succ _
  ·exact Eu _
 exact d.fpOk c (d.hok.fresh c)
end
end L2
end
section
namespace L2
open PySem PySem.Spec PyProof.Rows
structure Callee (P:Program) (w:World) (K:FG) (mg:Str->Option Value) (base:Heap) (x:Str) (k:Nat) (ps:List Str) (sp:Sp):Prop where
 ex:∃ (f:Addr) (fd:FuncData),FnOk P w K mg base CX0 k f fd ps sp/\mg x=some (.ref f)/\PySem.W.keepIn K (.ref f)=true/\Binds K fd ps []
structure DefAt (K:FG) (mg:Str->Option Value) (x:Str) (st:Stmt) (f:Addr) (fd:FuncData):Prop where
 fn:Fun K x x st f fd
 mg:mg x=some (.ref f)
def Def (K:FG) (mg:Str->Option Value) (x:Str) (st:Stmt):Prop:=∃ f fd,DefAt K mg x st f fd
theorem Def.callee {P:Program} {w:World} {K:FG} {mg:Str->Option Value} {base:Heap} {x:Str} {st:Stmt} {k:Nat} {ps:List Str} {sp:Sp} (D:Def K mg x st)
  (b:∀ (kV doc pm:Value) (an:Option Addr) (a ct:Value) (us:List Value),us.length=ps.length->bindArgs (PySem.W.fnOf x x (bb st) (aU st) (ag st) .none kV doc pm an a ct) ⟨us,[]⟩=pure (ps.zip us))
  (h:∀ f fd,Fun K x x st f fd->FnOk P w K mg base CX0 k f fd ps sp):Callee P w K mg base x k ps sp :=
 let ⟨f,fd,d⟩:=D
 ⟨f,fd,h f fd d.fn,d.mg,d.fn.kp,d.fn.binds b⟩
section
variable {X:Cx} {x:Str} {p pos:Pos} {e:Expr} {es:List Expr} {t:TA} {k:Nat} {ps:List Str} {sp:Sp}
def tFn (sp:Sp) (t:TA):TE:=fun σ H Q=>t σ H fun a H1=>sp a H1 Q E0
theorem pe_fn (c:Callee X.prog X.w X.K X.mg X.base x k ps sp) (g:Room k X.A) (n:PA X (e :: es) t) (j:Gl X x:=by rfl) (a:(x == ("__debug__":Str))=false:=by decide)
  (he:starEach (e :: es) X.env=(false,eval e X.env) :: starEach es X.env:=by rfl) (b:(backTo pos (starEach es X.env)).any (·.1)=false:=by rfl):PE X (.Call (.Name x p) (e :: es) [] pos) (tFn sp t):=by
 obtain ⟨f,fd,F,hm,i,m⟩:=c.ex
 have h:=An (pos:=pos) (p:=p) (dvs:=[]) (E:=E0) F g j hm i m .nil pass0 n a he b
 intro pins s σ H Q I q
 refine h pins s σ H Q I ?_
 show t σ H fun d H1=>sp (d ++ []) H1 Q E0
 have l:t σ H (fun d H1=>sp d H1 Q E0):=q
 simpa using l
end
def But (p:Addr) (H H':Hp):Prop:=∀ b o,H b=some o->b ≠ p->H' b=some o
theorem But.trans {p:Addr} {H H1 H2:Hp} (a:But p H H1) (b:But p H1 H2):But p H H2:=fun c o h n=>b c o (a c o h n) n
abbrev Pt:=Int × Int
def a9 (p q r:Pt):Int:=(q.1 - p.1) * (r.2 - p.2) - (q.2 - p.2) * (r.1 - p.1)
def Small (p:Pt):Prop:=-(2 ^ 62) < p.1/\p.1 < 2 ^ 62/\-(2 ^ 62) < p.2/\p.2 < 2 ^ 62
def Rising (ps:List Pt):Prop:=∀ (i j:Nat) (p q:Pt),i < j->ps[i]?=some p->ps[j]?=some q->p.1 < q.1
def NoLine (ps:List Pt):Prop:=∀ (i j k:Nat) (p q r:Pt),i < j->j < k->ps[i]?=some p->ps[j]?=some q->ps[k]?=some r->a9 p q r ≠ 0
structure GoodSh (ps:List Pt):Prop where
 pos:0 < ps.length
 most:ps.length<=24
 small:∀ p ∈ ps,Small p
 rising:Rising ps
 noline:NoLine ps
def vJ:Expr->Option Int
 | .Constant (.int i) _ _=>some i
 | _=>none
theorem tH {X:Cx}:∀ {es:List Expr} (ns:List Int),es.map vJ=ns.map some->PA X es (fun _ H Q=>Q (ns.map V.int) H)
 | [],[],_=>nO
 | [],_ :: _,h=>by simp at h
 | _ :: _,[],h=>by simp at h
 | e :: es,n :: ns,h=>by
  simp only [Ey,List.cons.injEq] at h
  obtain ⟨h1,h2⟩:=h
  have b:=tH (X:=X) ns h2
  cases e with
  | Constant c j pos =>
   cases c with
   | int i =>
    have a:i=n:=by simpa [vJ] using h1
    subst a
    exact jf nK b
   | _=>simp [vJ] at h1
  | _=>simp [vJ] at h1
def kc:List Pt->List (Pt × Pt)
 | []=>[]
 | p :: r=>r.map (fun q=>(p,q)) ++ kc r
theorem mL:∀ {ps:List Pt} {i j:Nat} {p q:Pt},i < j->ps[i]?=some p->ps[j]?=some q->(p,q) ∈ kc ps
 | [],_,_,_,_,_,h,_=>by simp at h
 | a :: r,0,0,_,_,h,_,_=>by omega
 | a :: r,0,j+1,p,q,_,h1,h2=>by
  simp at h1 h2;subst h1
  exact Eg _ (Es.mpr ⟨q,Ep h2,rfl⟩)
 | a :: r,i+1,0,_,_,h,_,_=>by omega
 | a :: r,i+1,j+1,p,q,h,h1,h2=>Eh _ (mL (ps:=r) (i:=i) (j:=j) (by omega) (by simpa using h1) (by simpa using h2))
theorem pF:∀ {ps:List Pt} {p q:Pt},(p,q) ∈ kc ps->∃ i j:Nat,i < j/\ps[i]?=some p/\ps[j]?=some q
 | [],_,_,h=>by simp [kc] at h
 | a :: r,p,q,h=>by
  rcases El.mp h with h | h
  ·obtain ⟨z,hz,e⟩:=Es.mp h
   cases e
   obtain ⟨j,b,e⟩:=List.mem_iff_getElem.mp hz
   exact ⟨0,j+1,by omega,rfl,by simp [b,e]⟩
  ·obtain ⟨i,j,h0,h1,h2⟩:=pF h
   exact ⟨i+1,j+1,by omega,by simpa using h1,by simpa using h2⟩
theorem mG:∀ ps:List Pt,(kc ps).length<=ps.length * ps.length
 | []=>by simp [kc]
 | a :: r=>by
  have b:=mG r
  simp only [kc,EE,En,EF]
  have:(r.length+1) * (r.length+1)=r.length * r.length+2 * r.length+1:=by
   rw [Nat.add_mul,Nat.mul_add];omega
  omega
def zh (ps:List Pt) (z:Pt):Prop:=∀ (i j:Nat) (p q:Pt),i < j->ps[i]?=some p->ps[j]?=some q->a9 p q z ≠ 0
def above (ps:List Pt) (x y:Int):Nat:=((kc ps).filter fun pr=>decide (a9 pr.1 pr.2 (x,y)<=0)).length
theorem yR {α:Type} {p q:α->Bool}:∀ {l:List α},(∀ a ∈ l,p a=true->q a=true)->(l.filter p).length<=(l.filter q).length
 | [],_=>by simp
 | a :: l,h=>by
  have d:=yR (l:=l) fun b f=>h b (Ed _ f)
  have g:=h a Ec
  cases c:p a with
  | true=>rw [List.filter_cons_of_pos c,List.filter_cons_of_pos (g c)];simpa using d
  | false =>
   rw [List.filter_cons_of_neg (by simp [c])]
   cases e:q a with
   | true=>rw [List.filter_cons_of_pos e];simp;omega
   | false=>rw [List.filter_cons_of_neg (by simp [e])];exact d
theorem yQ {α:Type} {p q:α->Bool}:∀ {l:List α} {z:α},(∀ a ∈ l,p a=true->q a=true)->z ∈ l->q z=true->p z=false->(l.filter p).length < (l.filter q).length
 | [],_,_,hz,_,_=>by simp at hz
 | a :: l,z,h,hz,h1,h2=>by
  have d:∀ b ∈ l,p b=true->q b=true:=fun b g=>h b (Ed _ g)
  rcases Ei.mp hz with rfl | hz
  ·rw [List.filter_cons_of_neg (by simp [h2]),List.filter_cons_of_pos h1]
   have:=yR d
   simp;omega
  ·have e:=yQ d hz h1 h2
   have i:=h a Ec
   cases c:p a with
   | true=>rw [List.filter_cons_of_pos c,List.filter_cons_of_pos (i c)];simpa using e
   | false =>
    rw [List.filter_cons_of_neg (by simp [c])]
    cases f:q a with
    | true=>rw [List.filter_cons_of_pos f];simp;omega
    | false=>rw [List.filter_cons_of_neg (by simp [f])];exact e
theorem ug (p q:Pt) (x y:Int):a9 p q (x,y+1)=a9 p q (x,y)+(q.1 - p.1):=by
 unfold a9
 have e:(q.1 - p.1) * (y+1 - p.2)=(q.1 - p.1) * (y - p.2)+(q.1 - p.1):=by
  rw [show y+1 - p.2=(y - p.2)+1 by omega,Int.mul_add,Int.mul_one]
 show (q.1 - p.1) * (y+1 - p.2) - (q.2 - p.2) * (x - p.1)=(q.1 - p.1) * (y - p.2) - (q.2 - p.2) * (x - p.1)+(q.1 - p.1)
 rw [e];omega
theorem zc {ps:List Pt} {x y:Int} (R:Rising ps) {i j:Nat} {p q:Pt} (a:i < j) (hi:ps[i]?=some p) (c:ps[j]?=some q) (h0:a9 p q (x,y)=0):above ps x (y+1) < above ps x y:=by
 refine yQ (z:=(p,q)) (fun pr b h=>?_) (mL a hi c) (by simp [h0]) ?_
 ·obtain ⟨d,e,h',e1,f⟩:=pF (p:=pr.1) (q:=pr.2) b
  have:=R d e _ _ h' e1 f
  have h:=of_decide_eq_true h
  rw [ug] at h
  exact Ez (by omega)
 ·have:=R i j _ _ a hi c
  show decide (a9 p q (x,y+1)<=0)=false
  rw [ug,h0]
  exact EA (by omega)
theorem zd (ps:List Pt) (x y:Int):above ps x y<=ps.length * ps.length:=ES (List.length_filter_le _ _) (mG ps)
theorem df {α:Type} {l:List α} {z a:α} {i:Nat} (h:(l ++ [z])[i]?=some a):(l[i]?=some a/\i < l.length)\/(a=z/\i=l.length):=by
 by_cases hi:i < l.length
 ·rw [EN hi] at h;exact .inl ⟨h,hi⟩
 ·rw [List.getElem?_append_right (by omega)] at h
  have:i - l.length=0:=by
   cases e:i - l.length with
   | zero=>rfl
   | succ n=>rw [e] at h;simp at h
  rw [this] at h;simp at h
  exact .inr ⟨h.symm,by omega⟩
theorem Rising.snoc {ps:List Pt} {z:Pt} (R:Rising ps) (h:∀ p ∈ ps,p.1 < z.1):Rising (ps ++ [z]):=fun i j p q a h1 h2=>by
 rcases df h1 with ⟨a1,b1⟩ | ⟨rfl,b1⟩
 ·rcases df h2 with ⟨a2,b2⟩ | ⟨rfl,b2⟩
  ·exact R i j p q a a1 a2
  ·exact h p (Ep a1)
 ·rcases df h2 with ⟨a2,b2⟩ | ⟨rfl,b2⟩
  ·omega
  ·omega
theorem NoLine.snoc {ps:List Pt} {z:Pt} (N:NoLine ps) (F:zh ps z):NoLine (ps ++ [z]):=fun i j k p q r a c h1 h2 h3=>by
 rcases df h1 with ⟨a1,b1⟩ | ⟨rfl,b1⟩
 ·rcases df h2 with ⟨a2,b2⟩ | ⟨rfl,b2⟩
  ·rcases df h3 with ⟨d,b⟩ | ⟨rfl,b⟩
   ·exact N i j k p q r a c a1 a2 d
   ·exact F i j p q a a1 a2
  ·rcases df h3 with ⟨d,b⟩ | ⟨rfl,b⟩ <;> omega
 ·rcases df h2 with ⟨a2,b2⟩ | ⟨rfl,b2⟩ <;> omega
def iP (a b c:Int) (p:Pt):Pt:=(a * p.1+c,b * p.2)
theorem sH (a b c:Int) (p q r:Pt):a9 (iP a b c p) (iP a b c q) (iP a b c r)=(a * b) * a9 p q r:=by
 unfold a9 iP
 show (a * q.1+c - (a * p.1+c)) * (b * r.2 - b * p.2) - (b * q.2 - b * p.2) * (a * r.1+c - (a * p.1+c))=_
 have e1:a * q.1+c - (a * p.1+c)=a * (q.1 - p.1):=by rw [Int.mul_sub];omega
 have f:b * r.2 - b * p.2=b * (r.2 - p.2):=by rw [Int.mul_sub]
 have e:b * q.2 - b * p.2=b * (q.2 - p.2):=by rw [Int.mul_sub]
 have d:a * r.1+c - (a * p.1+c)=a * (r.1 - p.1):=by rw [Int.mul_sub];omega
 rw [e1,f,e,d,Int.mul_sub (a * b)]
 have f1:a * (q.1 - p.1) * (b * (r.2 - p.2))=a * b * ((q.1 - p.1) * (r.2 - p.2)):=by
  rw [Int.mul_assoc,Int.mul_assoc,Int.mul_left_comm (q.1 - p.1)]
 have f2:b * (q.2 - p.2) * (a * (r.1 - p.1))=a * b * ((q.2 - p.2) * (r.1 - p.1)):=by
  rw [Int.mul_comm a b,Int.mul_assoc,Int.mul_assoc,Int.mul_left_comm (q.2 - p.2)]
 rw [f1,f2]
theorem Rising.scale {ps:List Pt} {a b c:Int} (g:0 < a) (R:Rising ps):Rising (ps.map (iP a b c)):=fun i j p q f h1 h2=>by
 rw [Et] at h1 h2
 obtain ⟨d,e1,rfl⟩:=Ef.mp h1
 obtain ⟨e,h,rfl⟩:=Ef.mp h2
 have:=R i j d e f e1 h
 have h3:a * d.1 < a * e.1:=Int.mul_lt_mul_of_pos_left this g
 show a * d.1+c < a * e.1+c
 omega
theorem NoLine.scale {ps:List Pt} {a b c:Int} (o:0 < a) (n:0 < b) (N:NoLine ps):NoLine (ps.map (iP a b c)):=fun i j k p q r e d h1 h2 h3=>by
 rw [Et] at h1 h2 h3
 obtain ⟨f,e1,rfl⟩:=Ef.mp h1
 obtain ⟨h,m,rfl⟩:=Ef.mp h2
 obtain ⟨g,l,rfl⟩:=Ef.mp h3
 rw [sH]
 exact Int.mul_ne_zero (Int.mul_ne_zero (by omega) (by omega)) (N i j k f h g e d e1 m l)
section InBlock
variable {X:Cx} {NY:List Str} {scope:Scope} {s:Shared} {H:Hp} {C:Addr} {fp:List Addr}
end InBlock
end L2
end
section
namespace L2
open PySem PySem.Spec PyProof.Rows
mutual
inductive DV (K:FG) (H:Hp):V->PyData->Prop
 | non:DV K H .non .none
 | bl (b:Bool):DV K H (.bl b) (.bool b)
 | int (i:Int):DV K H (.int i) (.int i)
 | str (x:Str):DV K H (.str x) (.str x)
 | tup {a:Addr} {xs:List V} {ds:List PyData}:SqT K H a xs->DVs K H xs ds->DV K H (.ref a) (.tuple ds)
 | lst {a:Addr} {xs:List V} {ds:List PyData}:SqL K H a xs->DVs K H xs ds->DV K H (.ref a) (.list ds)
inductive DVs (K:FG) (H:Hp):List V->List PyData->Prop
 | nil:DVs K H [] []
 | cons {x:V} {d:PyData} {xs:List V} {ds:List PyData}:DV K H x d->DVs K H xs ds->DVs K H (x :: xs) (d :: ds)
end
section
variable {X:Cx} {pins:List (Addr × Obj)} {σ:St} {H:Hp} {s:Shared}
mutual
theorem DV.reads (I:Inv X pins σ H s):∀ {v:V} {d:PyData} {u:Value},DV X.K H v d->RelV v u->∃ as,Reads s.heap u d as
 | _,_,u,.non,r=>by cases (show u=Value.none from r);exact ⟨_,.none⟩
 | _,_,u,.bl b,r=>by cases (show u=Value.bool b from r);exact ⟨_,.bool b⟩
 | _,_,u,.int i,r=>by obtain ⟨t,rfl⟩:=r;exact ⟨_,.int i t⟩
 | _,_,u,.str x,r=>by obtain ⟨t,rfl⟩:=r;exact ⟨_,.str x t⟩
 | _,_,u,.tup (a:=a) h rs,r=>by
  cases (show u=Value.ref a from r)
  obtain ⟨its,f,⟨o,e,c,n,d⟩,_⟩:=I.tuple h
  obtain ⟨as,q⟩:=DVs.reads I rs f
  exact ⟨_,.tuple e c d (by simpa using q)⟩
 | _,_,u,.lst (a:=a) h rs,r=>by
  cases (show u=Value.ref a from r)
  obtain ⟨its,f,⟨o,n,e,c,_,d⟩,_⟩:=I.list h
  obtain ⟨as,q⟩:=DVs.reads I rs f
  exact ⟨_,.list e c d (by simpa using q)⟩
theorem DVs.reads (I:Inv X pins σ H s):∀ {v:List V} {d:List PyData} {us:List Value},DVs X.K H v d->Vals v us->∃ as,ReadsAll s.heap us d as
 | _,_,_,.nil,.nil=>⟨_,.nil⟩
 | _,_,_,.cons h r,.cons q t=>by
  obtain ⟨as,e1⟩:=DV.reads I h q
  obtain ⟨bs,a⟩:=DVs.reads I r t
  exact ⟨_,.cons e1 a⟩
end
end
end L2
end
section
namespace L2
open PySem PySem.Spec PyProof.Rows
abbrev Az (i:Int):Str:=Str.ofString (toString i)
end L2
end
section
namespace L2
open PySem PySem.Spec PyProof.Rows
end L2
end
section
namespace L2
open PySem PySem.Spec PyProof.Rows
end L2
end
section
namespace L2
open PySem PySem.Spec PyProof.Rows
end L2
end
section
namespace L2
open PySem PySem.Spec PyProof.Rows
end L2
end
section
namespace L2
open PySem PySem.Spec PyProof.Rows
end L2
end
section
namespace L2
open PySem PySem.Spec PyProof.Rows
end L2
end
section
namespace L2
open PySem PySem.Spec PyProof.Rows
end L2
end
section
namespace L2
open PySem PySem.Spec PyProof.Rows
end L2
end
section
namespace L2
open PySem PySem.Spec PyProof.Rows
end L2
end
section
namespace PySem
open Sem (wp)
end PySem
end
section
namespace L2
open PySem PySem.Spec PyProof.Rows
end L2
end
section
namespace L2
open PySem PySem.Spec PyProof.Rows
end L2
end
section
namespace L2
open PySem PySem.Spec PyProof.Rows
end L2
end
section
namespace PyProof.Rows
open PySem
end PyProof.Rows
end
section
namespace L2
open PySem PySem.Spec PyProof.Rows
theorem iX:∀ {us:List Value} {ns:List Int},IntsAre us ns->Vals (ns.map V.int) us
 | _,_,.nil=>.nil
 | _,_,.cons n t h=>.cons ⟨t,rfl⟩ (iX h)
end L2
end
section
namespace L2
open PySem PySem.Spec PyProof.Rows
end L2
end
section
namespace L2
open PySem PySem.Spec PyProof.Rows
def IsNts (h:Heap) (b:Addr) (n:List Int):Prop:=∃ it:Array Value,IsTup h b it/\IntsAre it.toList n
end L2
end
section
namespace L2
open PySem PySem.Spec PyProof.Rows
abbrev ba (f:Bool):SortKind:=(sortPriv% PySem.Builtin.KeyKind.tuples) f
section
variable {prog:Program} {w:World} {A:Around} {E:Value->Shared->Prop} {s:Shared}
theorem rF (f:Bool) {a b:Int} {t u:Tok} {Q:Bool->Shared->Prop} (h:Q (decide (a < b)) s):wpAny (model prog w) A (oneLt' f (.int a t) (.int b u)) Q E s:=by
 cases f with
 | true=>exact oneLt_int h
 | false =>
  rw [oneLt'_eq]
  simp only [EK,if_false]
  refine DZ (HT.rcLt_int A s a t b u prog w E _ ?_)
  exact ER h
theorem mP (f:Bool) (n m:Nat) {Q:Bool->Shared->Prop} {g:(Value × Value) × Nat->Option Bool × Unit->Sem (ForInStep (Option Bool × Unit))} {k:Option Bool × Unit->Sem Bool}
  (l:∀ p q i c,g ((p,q),i) c=(do
     let b <- eqBool p q
     if (!b)=true then do
      let r <- oneLt' (f && i == 0) p q
      pure (ForInStep.done (some r,()))
     else pure (ForInStep.yield (none,())))) (h:∀ b,k (some b,())=pure b) (d:k (none,())=pure (decide (n < m))):∀ (j ws:List Value) (ns ms:List Int) (i:Nat),IntsAre j ns->IntsAre ws ms->ns.length+m=ms.length+n->Q (HT.lexLt ns ms) s ->
  wpAny (model prog w) A (forIn ((j.zip ws).zipIdx i) ((none,()):Option Bool × Unit) g) (fun r s'=>wpAny (model prog w) A (k r) Q E s') E s
 | [],ws,ns,ms,i,h1,h2,hl,q=>by
  cases h1
  have e:HT.lexLt [] ms=decide (n < m):=by
   cases ms with
   | nil=>simp at hl;rw [HT.lexLt_nil_nil];exact (EA (by omega)).symm
   | cons a ms=>simp at hl;rw [HT.lexLt_nil_cons];exact (Ez (by omega)).symm
  rw [e] at q
  rw [List.zip_nil_left]
  simp only [List.zipIdx_nil,List.forIn_nil]
  refine Ea ?_
  rw [d]
  exact Ea q
 | v :: j,[],ns,ms,i,h1,h2,hl,q=>by
  cases h2
  cases h1 with
  | cons a t h1 =>
  rename_i ns
  have e:HT.lexLt (a :: ns) []=decide (n < m):=by
   simp at hl;rw [HT.lexLt_cons_nil];exact (EA (by omega)).symm
  rw [e] at q
  rw [List.zip_nil_right]
  simp only [List.zipIdx_nil,List.forIn_nil]
  refine Ea ?_
  rw [d]
  exact Ea q
 | v :: j,u :: ws,ns,ms,i,h1,h2,hl,q=>by
  cases h1 with
  | cons a t h1 =>
  cases h2 with
  | cons b t2 h2 =>
  rename_i ns ms
  rw [List.zip_cons_cons,List.zipIdx_cons,List.forIn_cons,l]
  rw [HT.lexLt_cons] at q
  refine DZ (DZ ((intKind prog w).eqBool (a:=a) (b:=b) (by simp [intKind,Value.isInt]) (by simp [intKind,Value.isInt]) ?_))
  by_cases e:a=b
  ·rw [if_pos e] at q
   rw [Ez e]
   simp only [Bool.not_true,EK,if_false]
   refine Ea ?_
   exact mP f n m l h d j ws ns ms (i+1) h1 h2 (by simp at hl;omega) q
  ·rw [if_neg e] at q
   rw [EA e]
   simp only [Bool.not_false,if_true]
   refine DZ (rF _ (Ea (Ea ?_)))
   rw [h]
   exact Ea q
theorem vh {f:Bool} {a b:Addr} {x y:List Int} {Q:Bool->Shared->Prop} (i:IsNts s.heap a x) (k:IsNts s.heap b y) (h:Q (HT.lexLt x y) s):wpAny (model prog w) A (keyLt' (ba f) (.ref a) (.ref b)) Q E s:=by
 obtain ⟨d,⟨o,e1,c1,p,d1⟩,e⟩:=i
 obtain ⟨c,⟨q,m,c2,r,n⟩,g⟩:=k
 refine DZ (listItems_at e1 d1 ?_)
 refine DZ (listItems_at m n ?_)
 refine DZ ?_
 have l:x.length=d.size:=by rw [<- e.length];simp
 have j:y.length=c.size:=by rw [<- g.length];simp
 exact mP f d.size c.size (fun _ _ _ _=>rfl) (fun _=>rfl) rfl d.toList c.toList x y 0 e g (by omega) h
end
end L2
end
section
namespace L2
open PySem PySem.Spec PyProof.Rows
end L2
end
section
namespace L2
open PySem PySem.Spec PyProof.Rows
section
variable {prog:Program} {w:World} {A:Around} {E:Value->Shared->Prop} {s:Shared}
theorem se (v:Value):firstOfTuple' v=(do
  if (<- typeOf v) != .type "tuple" then return none
  return (<- Builtin.List.listItems v)[0]?):=rfl
theorem mZ {b:Addr} {n:List Int} {Q:Option Value->Shared->Prop} (f:IsNts s.heap b n) (h0:n ≠ []) (h:∀ i t,Q (some (.int i t)) s):wpAny (model prog w) A (firstOfTuple' (.ref b)) Q E s:=by
 obtain ⟨it,⟨o,e,c,k,d⟩,j⟩:=f
 rw [se]
 refine DZ (wpAny_typeOf (T:="tuple") ⟨o,e,c⟩ ?_)
 rw [if_neg (by decide)]
 refine DZ (listItems_at e d ?_)
 cases a:it.toList with
 | nil=>rw [a] at j;cases j;exact absurd rfl h0
 | cons v vs =>
  rw [a] at j
  cases j with
  | cons i t j =>
   have:it[0]?=some (.int i t):=by rw [<- Array.getElem?_toList,a];rfl
   rw [this]
   exact Ea (h i t)
theorem lE {Q:List (Option Value)->Shared->Prop}:∀ (bs:List Addr),(∀ b ∈ bs,∃ n,n ≠ []/\IsNts s.heap b n)->(∀ (a:List Value) (ns:List Int),IntsAre a ns->a.length=bs.length->Q (a.map some) s) ->
  wpAny (model prog w) A ((bs.map Value.ref).mapM firstOfTuple') Q E s
 | [],_,q=>by
  simp only [List.map_nil,List.mapM_nil]
  exact Ea (q [] [] .nil rfl)
 | b :: bs,h,q=>by
  rw [Ey,List.mapM_cons]
  obtain ⟨n,h0,e⟩:=h b Ec
  refine DZ (mZ e h0 fun i t=>?_)
  refine DZ (lE bs (fun c f=>h c (Ed _ f)) fun a ns hi d=>?_)
  exact Ea (q (.int i t :: a) (i :: ns) (.cons i t hi) (by simp [d]))
theorem yi {bs:List Addr} {Q:SortKind->Shared->Prop} (h2:bs ≠ []) (e:∀ b ∈ bs,∃ n,n ≠ []/\IsNts s.heap b n) (h:Q (ba true) s):wpAny (model prog w) A (keyKind' (bs.map Value.ref).toArray) Q E s:=by
 rw [keyKind'_eq,List.mapM_toArray]
 refine DZ ?_
 rw [map_eq_pure_bind]
 refine DZ (lE bs e fun a ns hi d=>Ea ?_)
 have f:(a.map some).toArray.all (·.isSome)=true:=by simp
 rw [if_pos f]
 refine DZ (wpAny_rule ?_)
 have hf:(a.map some).toArray.filterMap id=a.toArray:=by simp
 rw [hf,oneTypeOnly'_eq,List.mapM_toArray,mapM_typeOf_ints hi]
 simp only [map_pure,pure_bind]
 cases a with
 | nil=>exact absurd (EX.mp d.symm) h2
 | cons v a =>
  have c:((List.map (fun _=>Value.type "int") (v :: a)).toArray.all fun x=>x == Value.type "int")=true:=by
   simp only [List.all_toArray,List.all_map,List.all_eq_true]
   intro _ _
   rfl
  have h0:(List.map (fun _=>Value.type "int") (v :: a)).toArray[0]?=some (Value.type "int"):=by simp
  rw [h0]
  simp only [c,if_true,pure_bind,Option.any_some]
  exact Ea h
end
end L2
end
section
namespace L2
open PySem PySem.Spec PyProof.Rows
theorem IsNts.at {h h':Heap} {b:Addr} {n:List Int} (x:IsNts h b n) (e:∀ o,h.get? b=some o->h'.get? b=some o):IsNts h' b n:=by
 obtain ⟨it,⟨o,e1,r⟩,j⟩:=x
 exact ⟨it,⟨o,e o e1,r⟩,j⟩
structure NRow (h:Heap) (bs:List Addr) (ns:List (List Int)):Prop where
 len:ns.length=bs.length
 at':∀ (i:Nat) (b:Addr) (n:List Int),bs[i]?=some b->ns[i]?=some n->IsNts h b n/\n ≠ []
 asc:∀ (i:Nat) (x y:List Int),ns[i]?=some y->ns[i+1]?=some x->HT.lexLt x y=false
theorem NRow.keep {h h':Heap} {bs:List Addr} {ns:List (List Int)} (r:NRow h bs ns) (k:∀ b ∈ bs,∀ o,h.get? b=some o->h'.get? b=some o):NRow h' bs ns :=
 ⟨r.len,fun i b n e1 a=>⟨(r.at' i b n e1 a).1.at (k b (Ep e1)),(r.at' i b n e1 a).2⟩,r.asc⟩
end L2
end
section
namespace L2
open PySem PySem.Spec PyProof.Rows
end L2
end
section
namespace L2
open PySem PySem.Spec PyProof.Rows
end L2
end
section
namespace L2
open PySem PySem.Spec PyProof.Rows
theorem iW:∀ bs:List Addr,Vals (bs.map V.ref) (bs.map Value.ref)
 | []=>.nil
 | _ :: bs=>.cons rfl (iW bs)
end L2
end
section
namespace L2
open PySem
abbrev Up (xs:Array Nat):Prop:=xs.toList.Pairwise (· < ·)
theorem Up.at {xs:Array Nat} (h:Up xs) {i k:Nat} (a:i < k) (b:k < xs.size):xs[i]'(by omega) < xs[k]:=by
 have:=List.pairwise_iff_getElem.mp h i k (by simp;omega) (by simpa using b) a
 simpa using this
theorem y6 {xs:Array Nat} (h:Up xs) (j:Nat):∀ (fuel lo hi:Nat),hi - lo<=fuel->lo<=hi->hi<=xs.size ->
  (∀ i (z:i < xs.size),i < lo->xs[i] < j)->(∀ i (z:i < xs.size),hi<=i->j<=xs[i]) ->
  (∀ i (z:i < xs.size),i < SetTable.below.go xs j fuel lo hi->xs[i] < j)/\(∀ i (z:i < xs.size),SetTable.below.go xs j fuel lo hi<=i->j<=xs[i])/\SetTable.below.go xs j fuel lo hi<=xs.size:=by
 intro fuel
 induction fuel with
 | zero =>
  intro lo hi f l z a b
  have e:lo=hi:=by omega
  subst e
  unfold SetTable.below.go
  exact ⟨a,b,z⟩
 | succ fuel ih =>
  intro lo hi f l z a b
  unfold SetTable.below.go
  by_cases g:lo < hi
  ·rw [if_pos g]
   have hm:(lo+hi) / 2 < xs.size:=by omega
   have m:xs.getD ((lo+hi) / 2) j=xs[(lo+hi) / 2]:=by simp [Array.getD,hm]
   dsimp only
   rw [m]
   by_cases c:xs[(lo+hi) / 2] < j
   ·rw [if_pos c]
    refine ih _ _ (by omega) (by omega) z (fun i k d=>?_) b
    by_cases e:i=(lo+hi) / 2
    ·subst e;exact c
    ·exact Nat.lt_trans (h.at (show i < (lo+hi) / 2 by omega) hm) c
   ·rw [if_neg c]
    refine ih _ _ (by omega) (by omega) (by omega) a (fun i k d=>?_)
    by_cases e:i=(lo+hi) / 2
    ·subst e;omega
    ·have:=h.at (show (lo+hi) / 2 < i by omega) k;omega
  ·rw [if_neg g]
   have e:lo=hi:=by omega
   subst e
   exact ⟨a,b,z⟩
theorem lM {xs:Array Nat} (h:Up xs) (j:Nat):(∀ i (z:i < xs.size),i < SetTable.below xs j->xs[i] < j)/\(∀ i (z:i < xs.size),SetTable.below xs j<=i->j<=xs[i])/\SetTable.below xs j<=xs.size :=
 y6 h j xs.size 0 xs.size (by omega) (by omega) (Eu _) (fun i z c=>by omega) (fun i z c=>by omega)
theorem sJ {xs:Array Nat} (h:Up xs) {i:Nat} (hi:i < xs.size):SetTable.below xs (xs[i]+1)=i+1:=by
 obtain ⟨a,b,c⟩:=lM h (xs[i]+1)
 generalize SetTable.below xs (xs[i]+1)=r at *
 by_cases l:r<=i
 ·have:=b i hi l;omega
 ·by_cases g:i+1 < r
  ·have h1:=a (i+1) (by omega) g
   have h2:=h.at (show i < i+1 by omega) (by omega)
   omega
  ·omega
theorem sI {xs:Array Nat} (h:Up xs):SetTable.below xs 0=0:=by
 obtain ⟨a,b,c⟩:=lM h 0
 by_cases l:0 < SetTable.below xs 0
 ·have:=a 0 (by omega) l;omega
 ·omega
theorem uq {xs:Array Nat} (h:Up xs) {j:Nat} (m:(xs[SetTable.below xs j]? == some j)=false):Up (SetTable.insertAt xs (SetTable.below xs j) j):=by
 obtain ⟨a,b,c⟩:=lM h j
 show (SetTable.insertAt xs (SetTable.below xs j) j).toList.Pairwise _
 rw [SetTable.toList_insertAt]
 generalize SetTable.below xs j=r at *
 have g:∀ x ∈ xs.toList.take r,x < j:=fun x d=>by
  obtain ⟨i,hi,rfl⟩:=List.mem_take_iff_getElem.mp d
  simp at hi
  exact a i (by omega) (by omega)
 have f:∀ x ∈ xs.toList.drop r,j < x:=fun x d=>by
  obtain ⟨i,hi,rfl⟩:=List.mem_drop_iff_getElem.mp d
  simp at hi
  have h1:=b (r+i) (by omega) (by omega)
  have h2:xs[r]'(by omega) ≠ j:=by
   intro e
   rw [Array.getElem?_eq_getElem (by omega),e] at m
   simp at m
  simp only [Array.getElem_toList]
  rcases Nat.eq_zero_or_pos i with e | e
  ·subst e
   simp only [Nat.add_zero] at h1 ⊢
   omega
  ·have h3:=h.at (show r < r+i by omega) (by omega)
   have n:=b r (by omega) (Eu _)
   omega
 have l:(xs.toList.take r ++ xs.toList.drop r).Pairwise (· < ·):=by rw [List.take_append_drop];exact h
 rw [List.pairwise_append] at l ⊢
 refine ⟨l.1,List.pairwise_cons.mpr ⟨f,l.2.1⟩,fun x d y k=>?_⟩
 rcases Ei.mp k with rfl | k
 ·exact g x d
 ·exact Nat.lt_trans (g x d) (f y k)
theorem uA {t:SetTable} {j:Nat} (h:∀ i,t.slot j ≠ .live i):(t.place[SetTable.below t.place j]? == some j)=false:=by
 cases e:(t.place[SetTable.below t.place j]? == some j) with
 | false=>rfl
 | true =>
  refine absurd ?_ (h (SetTable.below t.place j))
  unfold SetTable.slot
  simp only [e,if_true]
theorem xt {t:SetTable} {f:Nat->Int} {h:Int} {j:Nat} {d:Option Nat}:∀ (n:Nat) (p:SetTable.Probe),(∀ x,p.dummy=some x->∀ i,t.slot x ≠ .live i) ->
  SetTable.probe.go t f h n p=some (.empty j d)->∀ i,t.slot (d.getD j) ≠ .live i:=by
 intro n
 induction n with
 | zero=>intro p _ e;simp [SetTable.probe.go] at e
 | succ n ih =>
  intro p g e
  have b:∀ q:SetTable.Probe,(t.advance q).dummy=q.dummy:=fun q=>by unfold SetTable.advance;split <;> rfl
  unfold SetTable.probe.go at e
  split at e
  ·rename_i c
   simp only [Option.some.injEq,SetTable.Met.empty.injEq] at e
   obtain ⟨e1,k⟩:=e
   cases hd:p.dummy with
   | none=>rw [<- k,hd,Option.getD_none,<- e1,c];exact fun i z=>by cases z
   | some x=>rw [<- k,hd,Option.getD_some];exact g x hd
  ·rename_i c
   refine ih _ (fun x a=>?_) e
   rw [b] at a
   simp only [Option.some.injEq] at a
   rw [<- a,c]
   exact fun i z=>by cases z
  ·split at e
   ·simp at e
   ·exact ih _ (fun x a=>g x (by rw [<- a,b])) e
theorem vp {t:SetTable} {h:Int} {j:Nat} {b:Bool} (e:t.freeSlot h=some (j,b)):∀ i,t.slot j ≠ .live i:=by
 unfold SetTable.freeSlot at e
 split at e
 ·rename_i f d a
  simp only [Option.some.injEq,Prod.mk.injEq] at e
  rw [<- e.1]
  exact xt _ _ (fun x c=>by simp [SetTable.probeStart] at c) a
 ·cases e
structure Tab (b:Bool) (t:SetTable):Prop where
 up:Up t.place
 led:t.led=b
theorem vS (n:Nat):Up (Array.range n):=by
 show (Array.range n).toList.Pairwise _
 rw [Array.toList_range]
 exact List.pairwise_lt_range
theorem Tab.stand {b:Bool} {t:SetTable} (h:Tab b t) (n:Nat):Tab b (t.standIn n):=⟨vS n,h.led⟩
theorem Tab.or {b:Bool} {t:SetTable} (h:Tab b t) (n:Nat):Tab b (t.orStandIn n):=by
 unfold SetTable.orStandIn
 split
 ·exact h
 ·exact h.stand n
theorem Tab.new {b:Bool} {t:SetTable} (h:Tab b t) (es:Array (Int × Value)) (k:Int) (x:Value):Tab b (layNew t es k x).2.1:=by
 unfold layNew
 split
 ·rename_i j d e
  have z:Tab b (t.put j).1:=⟨uq h.up (uA (vp e)),h.led⟩
  exact z.or _
 ·exact h.stand _
theorem Tab.all {b:Bool} {t:SetTable} (h:Tab b t) (es:Array (Int × Value)) (n:Nat):Tab b (relayAll t es n).2.1:=by
 unfold relayAll
 split
 ·rename_i t' order e
  dsimp only
  split
  ·unfold SetTable.relaid SetTable.laid at e
   simp only [Option.bind_eq_bind,EI,Option.pure_def,Option.some.injEq,Prod.mk.injEq] at e
   obtain ⟨k,_,e1,_⟩:=e
   subst e1
   refine ⟨?_,h.led⟩
   have aux:∀ (f:Nat->Option Nat) (m:Nat),((List.filterMap (fun j=>(f j).map (j,·)) (List.range m)).map (·.1)).Pairwise (· < ·):=fun f m=>by
    rw [List.pairwise_map,List.pairwise_filterMap]
    refine List.pairwise_lt_range.imp fun {a c} d x g y i=>?_
    rw [Ef] at g i
    obtain ⟨_,_,rfl⟩:=g
    obtain ⟨_,_,rfl⟩:=i
    exact d
   exact aux _ _
  ·exact h.stand _
 ·exact h.stand _
theorem Tab.off {b:Bool} {t:SetTable} (h:Tab b t) (c:Bool):Tab b (if c=true then t else { t with plain:=false }):=by
 cases c
 ·exact ⟨h.up,h.led⟩
 ·exact h
end L2
end
section
namespace L2
open PySem PyProof.Rows
abbrev hJ (w:World):Bool:=!w.params.followText "set-order"
def SetL (prog:Program) (w:World) (h:Heap) (a:Addr) (ns:List Int):Prop :=
 ∃ o es b t ms,h.get? a=some o/\o.ExactSet/\o.data=.set es b t/\ElemsOf (intKind prog w) es.toList/\IntsAre (es.toList.map (·.2)) ms/\ms.Perm ns/\es.size < scanBound/\t.fits es.size=true/\Tab (hJ w) t
theorem SetL.keep {prog:Program} {w:World} {h h':Heap} {a:Addr} {ns:List Int} (x:SetL prog w h a ns) (k:∀ o,h.get? a=some o->h'.get? a=some o):SetL prog w h' a ns :=
 let ⟨o,es,b,t,ms,e,r⟩:=x;⟨o,es,b,t,ms,k o e,r⟩
theorem SetL.typeIs {prog:Program} {w:World} {s:Shared} {a:Addr} {ns:List Int} (x:SetL prog w s.heap a ns):s.TypeIs (.ref a) "set" :=
 let ⟨o,_,_,_,_,e,c,_⟩:=x;⟨o,e,c.1⟩
def met (ns:List Int) (k:Int):List Int:=if k ∈ ns then ns else ns ++ [k]
theorem eT {prog:Program} {w:World}:∀ {l:List (Int × Value)},ElemsOf (intKind prog w) l->∃ ms,IntsAre (l.map (·.2)) ms
 | [],_=>⟨[],.nil⟩
 | e :: l,h=>by
  obtain ⟨ms,hm⟩:=eT h.tail
  obtain ⟨⟨k,a,_⟩,_⟩:=h.head
  obtain ⟨t,b⟩:=Value.isInt_shape a
  refine ⟨k :: ms,?_⟩
  rw [Ey,b]
  exact .cons k t hm
theorem jL {c ws:List Value} {ns ms:List Int} (p:List.Perm c ws) (a:IntsAre c ns) (b:IntsAre ws ms):ns.Perm ms:=by
 rw [<- a.nums,<- b.nums]
 exact p.map _
section
variable {prog:Program} {w:World} {A:Around} {E:Value->Shared->Prop} {s:Shared}
theorem vq {l:List (Int × Value)} {ms:List Int} {k:Int} (hi:IntsAre (l.map (·.2)) ms):(l.findIdx? (fun e=>(intKind prog w).is k e.2)).isSome=true ↔ k ∈ ms:=by
 induction l generalizing ms with
 | nil=>cases hi;simp
 | cons e l ih =>
  obtain ⟨h0,v⟩:=e
  rw [Ey] at hi
  cases hi with
  | cons n t hr =>
   rw [List.findIdx?_cons]
   by_cases c:k=n
   ·subst c
    rw [if_pos (intKind_is prog w k t)]
    simp
   ·have:(intKind prog w).is k (Value.int n t)=false:=by
     cases z:(intKind prog w).is k (Value.int n t) with
     | false=>rfl
     | true=>exact absurd ((intKind prog w).inj _ _ _ z (intKind_is prog w n t)) c
    rw [this]
    simp only [EK,if_false,Option.isSome_map,Ei,c,false_or]
    exact ih hr
theorem wA {a:Addr} {ns:List Int} {k:Int} {tk:Tok} {Q:Bool->Shared->Prop} (hS:SetL prog w s.heap a ns) (O:ns.length+1 < scanBound)
  (h:∀ b h',Heap.SameBut a s.heap h'->SetL prog w h' a (met ns k)->Q b { s with heap:=h' }):wpAny (model prog w) A (setAddHashed a (.int k tk) (hashInt k)) Q E s:=by
 obtain ⟨o,es,I,t,ms,y,hex,hd,l,hi,B,P,hf,S⟩:=hS
 have hn:es.size=ns.length:=by rw [<- B.length_eq,<- hi.length,En,Array.length_toList]
 have C:=vq (prog:=prog) (w:=w) (k:=k) hi
 unfold setAddHashed setAddHashedIn
 refine Eb (DZ (wpAny_setState_of y hd hf ?_))
 dsimp only
 rw [if_pos (byScan_of (x:=.int k tk) rfl P l)]
 refine DZ (DZ (wpAny_rule (DZ (wpAny_setScan_of (knd:=intKind prog w) (intKind_is prog w k tk) y hd hf l ?_))))
 cases R:List.findIdx? (fun e=>(intKind prog w).is k e.2) es.toList with
 | some j =>
  rw [R] at C
  have M:k ∈ ns:=B.mem_iff.mp (C.mp rfl)
  refine Ea (Ea ?_)
  have:=h false s.heap (Heap.SameBut.refl a s.heap) ⟨o,es,I,t,ms,y,hex,hd,l,hi,by rw [met,if_pos M];exact B,P,hf,S⟩
  exact this
 | none =>
  rw [R] at C
  have M:k ∉ ns:=fun z=>by have:=C.mpr (B.mem_iff.mpr z);simp at this
  have p:=layNew_perm t es (hashInt k) (.int k tk)
  have f1:=layNew_fits t es (hashInt k) (.int k tk)
  have t1:=S.new es (hashInt k) (.int k tk)
  generalize layNew t es (hashInt k) (.int k tk)=L at p f1 t1 ⊢
  obtain ⟨d,u,wd,T⟩:=L
  dsimp only at p f1 t1 ⊢
  rw [Array.toList_push] at p
  have m:ElemsOf (intKind prog w) d.toList:=(l.push (intKind_is prog w k tk) rfl).perm p
  obtain ⟨J,W⟩:=eT m
  have b1:d.size=es.size+1:=by have:=p.length_eq;simpa using this
  have q1:J.Perm (met ns k):=by
   have i0:IntsAre ((es.toList ++ [(hashInt k,Value.int k tk)]).map (·.2)) (ms ++ [k]):=by
    rw [List.map_append]
    exact hi.append (.cons k tk .nil)
   rw [met,if_neg M]
   exact (jL (p.map _) W i0).trans (B.append_right [k])
  have done:∀ (h1:Heap) (i:Obj) (f:Array (Int × Value)) (n:Nat) (g:SetTable),h1.get? a=some i->i.ExactSet->i.data=.set f n g->f.toList.Perm d.toList->g.fits f.size=true->Tab (hJ w) g->Heap.SameBut a s.heap h1->Q true { s with heap:=h1 }:=by
   intro h1 i f n g g1 g2 g3 D X Z Y
   obtain ⟨N,U⟩:=eT (m.perm D)
   exact h true h1 Y ⟨i,f,n,g,N,g1,g2,g3,m.perm D,U,(jL (D.map _) U W).trans q1,by have:=D.length_eq;simp at this;omega,X,Z⟩
  have V:∀ (b:Bool) {K:Shared} {G:Unit->Shared->Prop},G () K->wpAny (model prog w) A (match b with | true=>rule "set.scan.the-table-gave-way" | false=>pure ()) G E K:=fun b K G q=>by
   cases b
   ·exact Ea q
   ·exact wpAny_rule q
  have two:∀ (c:Bool),wpAny (model prog w) A (do
    storeSet a d (if c=true then u else { u with plain:=false })
    if (!wd && (if c=true then u else { u with plain:=false }).tooFull)=true then do
     let r:=relayAll (if c=true then u else { u with plain:=false }) d (SetTable.grown d.size)
     (match r.2.2 with | true=>rule "set.scan.the-table-gave-way" | false=>pure ())
     storeSet a r.1 r.2.1
     pure (some true)
    else pure (some true)) (fun r s'=>r=some true/\Q true s') E s:=by
   intro c
   have g:=t1.off c
   have f2:(if c=true then u else { u with plain:=false }).fits d.size=true:=by cases c <;> exact f1
   generalize (if c=true then u else { u with plain:=false })=v at g f2 ⊢
   refine DZ (wpAny_storeSet_of (hz:=fits_of_scanBound (by omega)) y hd ?_)
   have i:(s.heap.update a (Obj.putSet d v)).get? a=some { o with data:=.set d (I+1) v }:=by
    have:=ED (Obj.putSet d v) y (by rw [putSet_of d v hd];rfl)
    rw [putSet_of d v hd] at this
    exact this
   split
   ·have F:=relayAll_perm v d (SetTable.grown d.size)
    have H:=relayAll_fits v d (SetTable.grown d.size)
    have t3:=g.all d (SetTable.grown d.size)
    generalize relayAll v d (SetTable.grown d.size)=r at F H t3 ⊢
    obtain ⟨f,v2,g2⟩:=r
    dsimp only at F H t3 ⊢
    have b3:f.size=d.size:=by have:=F.length_eq;simpa using this
    refine DZ (V _ (DZ (wpAny_storeSet_of (hz:=fits_of_scanBound (by omega)) i rfl (Ea ⟨rfl,?_⟩))))
    have o2:((s.heap.update a (Obj.putSet d v)).update a (Obj.putSet f v2)).get? a=some { o with data:=.set f (I+1+1) v2 }:=by
     have:=ED (Obj.putSet f v2) i (by rw [putSet_of f v2 rfl];rfl)
     rw [putSet_of f v2 rfl] at this
     exact this
    exact done _ _ f _ v2 o2 hex rfl F H t3 ((Heap.SameBut.update _ a _).trans (Heap.SameBut.update _ a _))
   ·refine Ea ⟨rfl,?_⟩
    exact done _ _ d _ v i hex rfl (List.Perm.refl _) f2 g (Heap.SameBut.update _ a _)
  have fin:∀ (r:Option Bool) (s':Shared) {x:Sem Bool},r=some true/\Q true s'->wpAny (model prog w) A (match r with | some b=>pure b | none=>x) Q E s':=fun r s' x z=>by
   obtain ⟨rfl,q⟩:=z
   exact Ea q
  refine DZ (V _ ?_)
  split
  ·refine DZ (wpAny_of_eq (a:=true) rfl ?_)
   exact wpAny_mono (two true) (fun r s' z=>fin r s' z) fun _ _ z=>z
  ·refine DZ (Ea ?_)
   exact wpAny_mono (two true) (fun r s' z=>fin r s' z) fun _ _ z=>z
end
end L2
end
section
namespace L2
open PySem PyProof.Rows
theorem jg (ns:List Int) (k:Int):(met ns k).length<=ns.length+1:=by
 unfold met
 split <;> simp
theorem pN:∀ (ks ns:List Int),(ks.foldl met ns).length<=ns.length+ks.length
 | [],ns=>Eu _
 | k :: ks,ns=>by
  have a:=pN ks (met ns k)
  have b:=jg ns k
  simp only [List.foldl_cons,EF]
  omega
section
variable {prog:Program} {w:World} {A:Around} {E:Value->Shared->Prop}
theorem wv {S I l:Addr} {items:Array Value} {R:Result->Shared->Prop} (r:A.handled=none) (g:I ≠ S) (B:l ≠ S) (y:l ≠ I) :
  ∀ (k i:Nat) (s:Shared) (ns ms:List Int),items.size - i=k->s.heap.IsTupleIter I l i->s.heap.IsTuple l items->IntsAre (items.toList.drop i) ms->SetL prog w s.heap S ns->ns.length+ms.length+1 < scanBound ->
   (∀ h' tk,SetL prog w h' S (ms.foldl met ns)->(∀ b o,b ≠ S->b ≠ I->s.heap.get? b=some o->h'.get? b=some o)->R (.ok (.ret .none)) { s with heap:=h',toks:=tk }) ->
   codeAny (model prog w) A (.builtin "set.update.loop" ⟨[.ref S,.ref I],[]⟩) R s:=by
 intro k
 induction k with
 | zero =>
  intro i s ns ms u hi d a m j h
  refine codeAny_builtin F.entry_set_update_loop ?_
  rw [Around.under_plainId F.plain_set_update_loop _]
  have e:ms=[]:=by
   rw [List.drop_eq_nil_of_le (by simp;omega)] at a
   cases a
   rfl
  subst e
  refine DZ (wpAny_pyNext_tuple_end (s:=s) r hi d (Array.getElem?_eq_none (by omega)) fun h' f=>?_)
  exact Ea (h h' s.toks (m.keep fun o e=>f _ _ (Ne.symm g) e) fun b o _ c e=>f _ _ c e)
 | succ k ih =>
  intro i s ns ms u hi d a m j h
  have lt:i < items.size:=by omega
  refine codeAny_builtin F.entry_set_update_loop ?_
  rw [Around.under_plainId F.plain_set_update_loop _]
  rw [List.drop_eq_getElem_cons (by simpa using lt)] at a
  generalize x:items.toList[i]=v at a
  have f:items[i]?=some v:=by rw [<- x,Array.getElem?_eq_getElem lt,Array.getElem_toList]
  cases a with
  | @cons n t _ ms' hr =>
   refine DZ (wpAny_pyNext_tuple_item (s:=s) hi d f fun h1 C s1=>?_)
   have q:SetL prog w h1 S ns:=m.keep fun o e=>s1.extBut _ _ (Ne.symm g) e
   have E:h1.IsTuple l items:=d.extBut s1.extBut y
   refine DZ (Eb (Eb (DZ ((intKind prog w).pyHash (k:=n) (intKind_is prog w n t) ?_))))
   refine wA (s:={ s with heap:=h1,toks:=s.toks+1 }) q (by simp only [EF] at j;omega) fun b h2 s2 z=>?_
   refine Ea ⟨plainId_quiet F.plain_set_update_loop _,?_⟩
   have G:=jg ns n
   refine ih (i+1) { s with heap:=h2,toks:=s.toks+1 } (met ns n) ms' (by omega) (C.extBut s2.extBut g) (E.extBut s2.extBut B) hr z (by simp only [EF] at j;omega) fun h3 p D k3=>?_
   exact h h3 p D fun b o c1 c2 e=>k3 b o c1 c2 (s2.extBut _ _ c1 (s1.extBut _ _ c2 e))
variable {s:Shared}
theorem AB {a:Value} {Q:Value->Shared->Prop} (h:∀ o,o=({ cls:=.type "set",dict:=none,data:=.set #[] 0 (.fresh 0 0 (hJ w)) }:Obj)->Q (.ref s.heap.objs.size) { s with heap:=s.heap.push o }) :
  codeAny (model prog w) A (.call (.builtin "set.__new__") ⟨[.type "set",a],[]⟩) (wants Q E) s:=by
 refine codeAny_of_tree ?_
 refine DZ (wpAny_of_eq (F.newCall_set_1 a) (Ea ⟨plainId_quiet F.plain_set_new _,codeAny_builtin F.entry_set_new ?_⟩))
 rw [Around.under_plainId F.plain_set_new _]
 have sub:=sub_set_self
 obtain ⟨b,g,d,tk,os⟩:=s
 wp_walk
 refine wpAny_askSetting ?_
 wp_walk
 exact h _ rfl
theorem ot {l:Addr} {items:Array Value} {ns:List Int} {Q:Value->Shared->Prop} (y:A.handled=none) (q:s.heap.IsTuple l items) (hi:IntsAre items.toList ns) (G:items.size+1 < scanBound)
  (h:∀ h' tk,SetL prog w h' s.heap.objs.size (ns.foldl met [])->(∀ b o,s.heap.get? b=some o->h'.get? b=some o)->Q (.ref s.heap.objs.size) { s with heap:=h',toks:=tk }) :
  wpAny (model prog w) A (call (.type "set") [.ref l]) Q E s:=by
 obtain ⟨c,tl,r⟩:=F.called_set.mro
 have made:=F.called_set.made
 have below:=F.called_set.sub
 have j:=F.called_set.notType
 have B:=F.called_set.canCreate
 have one:=F.typeCall_set_1 (.ref l)
 obtain ⟨i,g,d,tk,os⟩:=s
 refine wpAny_call (codeAny_of_tree (Ea ⟨Code.quiet_builtin _ (by decide +kernel),codeAny_builtin F.entry_type_call ?_⟩))
 rw [Around.under_plain (weight_type_call_type "set" [.ref l] []) rfl]
 repeat (any_goals (first | assumption | wp_step))
 refine codeAny_mono (AB (E:=E) (Q:=fun v x=>v=.ref i.objs.size/\x=⟨i.push { cls:=.type "set",dict:=none,data:=.set #[] 0 (.fresh 0 0 (hJ w)) },g,d,tk,os⟩) fun o e=>by subst e;exact ⟨rfl,rfl⟩) ?_
 rintro (e | f) x p
 ·exact p
 cases f with
 | ret v =>
  obtain ⟨rfl,rfl⟩:=p
  have got:(i.push { cls:=.type "set",dict:=none,data:=.set #[] 0 (.fresh 0 0 (hJ w)) }).get? i.objs.size=some { cls:=.type "set",dict:=none,data:=.set #[] 0 (.fresh 0 0 (hJ w)) }:=Em _ rfl
  have ty:(⟨i.push { cls:=.type "set",dict:=none,data:=.set #[] 0 (.fresh 0 0 (hJ w)) },g,d,tk,os⟩:Shared).TypeIs (.ref i.objs.size) "set":=⟨_,got,rfl⟩
  have n:(i.push { cls:=.type "set",dict:=none,data:=.set #[] 0 (.fresh 0 0 (hJ w)) }).IsTuple l items:=q.push _
  refine DZ (wpAny_isInstance ty sub_set_self (wpAny_ite_false rfl ?_))
  refine DZ (Eb (wpAny_callSpecial?_slot ty F.called_set.init (wpAny_call (codeAny_call_builtin F.called_set.init.plain F.entry_set_init (check_set_init_1 ty ?_)))))
  obtain ⟨⟨c2,H,J,s2⟩,h2,u,I,t⟩:=id n
  simp only at u t
  subst u t
  have C:=F.sub_tuple_set
  have D:=F.sub_tuple_frozenset
  wp_walk using wpAny_pyIter_tuple n
  have lt:l < i.objs.size:=by obtain ⟨_,e,_⟩:=q;exact Ek e
  refine wv (l:=l) (items:=items) (by simpa using y) (by rw [EQ];exact Nat.ne_of_gt (Nat.lt_succ_self _)) (Ew lt) (by rw [EQ];exact Ew (Nat.lt_succ_of_lt lt)) items.size 0 _ [] ns (by omega) ⟨_,Em _ rfl,rfl,rfl⟩ (n.push _) (by simpa using hi) ⟨_,#[],0,_,[],Ee _ got,⟨rfl,rfl,rfl⟩,rfl,(fun e he=>by simp at he),.nil,List.Perm.refl _,by decide,rfl,⟨List.Pairwise.nil,rfl⟩⟩ (by have:=hi.length;simp at this;simp;omega) fun h' m S k=>?_
  wp_walk
  exact h h' m S fun b o e=>k b o (fun z=>by subst z;exact absurd (Ek e) (Nat.lt_irrefl _)) (fun z=>by have a:=Ek e;rw [z,EQ] at a;exact absurd a (Nat.not_lt.mpr (Nat.le_succ _))) (Ee _ (Ee _ e))
 | _=>exact p.elim
end
end L2
end
section
namespace L2
open PySem PyProof.Rows
theorem Ah {α:Type} (f:Nat->Nat):∀ (n k:Nat) (left:List α) (out:Array α),left.length<=n->(pickOrder.go f n k left out).toList.Perm (out.toList ++ left):=by
 intro n
 induction n with
 | zero =>
  intro k left out h
  obtain rfl:left=[]:=EX.mp (by omega)
  simp [pickOrder.go]
 | succ n ih =>
  intro k left out h
  unfold pickOrder.go
  cases e:left[f k % left.length]? with
  | none =>
   have d:left.length<=f k % left.length:=List.getElem?_eq_none_iff.mp e
   have z:left.length=0:=by
    rcases Nat.eq_zero_or_pos left.length with z | z
    ·exact z
    ·have:=Nat.mod_lt (f k) z;omega
   obtain rfl:left=[]:=EX.mp z
   simp
  | some x =>
   have b:f k % left.length < left.length:=(Eo.mp e).1
   dsimp only
   refine (ih _ _ _ (by rw [List.length_eraseIdx];split <;> omega)).trans ?_
   rw [Array.toList_push,List.append_assoc]
   refine List.Perm.append_left _ ?_
   rw [List.eraseIdx_eq_take_drop_succ]
   have c:left=left.take (f k % left.length) ++ x :: left.drop (f k % left.length+1):=by
    rw [<- (Eo.mp e).2,<- List.drop_eq_getElem_cons b,List.take_append_drop]
   have p:=(List.perm_middle (a:=x) (l₁:=left.take (f k % left.length)) (l₂:=left.drop (f k % left.length+1))).symm
   rw [<- c] at p
   exact p
theorem uP {α:Type} (f:Nat->Nat) (xs:Array α):(pickOrder f xs).toList.Perm xs.toList:=by
 have:=Ah f xs.size 0 xs.toList #[] (by simp)
 simpa [pickOrder] using this
section
variable {prog:Program} {w:World} {A:Around} {E:Value->Shared->Prop}
theorem m5 {α:Type}:∀ (n:Nat) (xs:List α) (s:Shared) {Q:List α->Shared->Prop},xs.length<=n->(∀ ys d',ys.Perm xs->Q ys { s with drawn:=d' })->wpAny (model prog w) A (drawOrder n xs) Q E s
 | 0,xs,s,Q,h,hQ=>by
  obtain rfl:xs=[]:=EX.mp (by omega)
  exact Ea (hQ [] s.drawn (List.Perm.refl _))
 | n+1,[],s,Q,h,hQ=>Ea (hQ [] s.drawn (List.Perm.refl _))
 | n+1,x :: xs,s,Q,h,hQ=>by
  unfold drawOrder
  refine DZ (fun Γ p hΓ=>?_)
  show Sem.wp _ _ (Sem.choose _ _ Sem.pure) _ _ _ _
  rw [Sem.wp_choose]
  refine ⟨by simp,?_⟩
  generalize hi:(model prog w).w.draws .order (s.drawn.get .order) % (x :: xs).length=i
  have lt:i < (x :: xs).length:=by rw [<- hi];exact Nat.mod_lt _ (by simp)
  refine (show wpAny (model prog w) A (pure i) _ E { s with drawn:=s.drawn.bump .order } from Ea ?_) Γ p hΓ
  obtain ⟨y,a⟩:∃ y,(x :: xs)[i]?=some y:=⟨_,Ej lt⟩
  rw [a]
  dsimp only
  refine DZ (m5 n ((x :: xs).eraseIdx i) _ (by rw [List.length_eraseIdx,if_pos lt];simp at h ⊢;omega) fun ys d' b=>?_)
  refine Ea (hQ (y :: ys) d' ?_)
  refine (b.cons y).trans ?_
  rw [List.eraseIdx_eq_take_drop_succ]
  have c:x :: xs=(x :: xs).take i ++ y :: (x :: xs).drop (i+1):=by
   rw [<- (Eo.mp a).2,<- List.drop_eq_getElem_cons lt,List.take_append_drop]
  exact (List.perm_middle.symm).trans (by rw [<- c])
end
theorem slot_next:Slot "set_iterator" "__next__" "set_iterator.__next__" :=
 .of (owner:="set_iterator") (n:="__next__") (by rw [typeLookup_type,builtinLookup_eq_fast];kernel_rfl) (by decide +kernel) (by decide +kernel) (by decide +kernel) (by first | exact .inl (by decide +kernel) | exact .inr (by decide +kernel)) (by rw [isSubtype_type];kernel_rfl)
theorem lF:entryFor table "set_iterator.__next__"=some Builtin.«set_iterator.__next__»:=entryFor_of_tree (by kernel_rfl)
theorem xD:Manifest.owners.lookup (String.ofList (['r','o','t','a','r','e','t','i','_','t','e','s']:List Char).reverse)=some Manifest.sig_set_iterator:=by kernel_rfl
theorem ng (a:Value):argsOk "set_iterator.__next__" ⟨[a],[]⟩:=by
 unfold argsOk
 rw [signature?_of (id:="set_iterator.__next__") (n:=['_','_','t','x','e','n','_','_']) (o:=['r','o','t','a','r','e','t','i','_','t','e','s']) (by kernel_rfl) xD]
 kernel_rfl
theorem sf:entryFor table "set.__iter__"=some Builtin.«frozenset.__iter__»:=entryFor_alias (id':="frozenset.__iter__") (by kernel_rfl) rfl (by decide +kernel) (by kernel_rfl)
def SIt (w : World) (h : Heap) (I a : Addr) (es : Array (Int × Value)) (b : Nat) (t : SetTable) (ord : List Value) (i : Nat) : Prop :=
  ∃ first, h.get? I = some { cls := .type "set_iterator", dict := none, data := .fields #[first, rawInt i, .ref a, rawInt es.size, rawInt b], slots := #[] } /\
    ((w.params.followText "set-order" = true /\ first = rawInt 0 /\ ord = (pickOrder (w.params.setOrder a b) es).toList.map (·.2)) \/
     (w.params.followText "set-order" = false /\ (!t.plain && es.size > 1) = false /\ (∃ k : Nat, first = rawInt k /\ SetTable.below t.place k = i) /\ ord = es.toList.map (·.2)) \/
     (∃ (T : Addr) (ps : List Nat), first = .ref T /\ T ≠ I /\ h.get? T = some { cls := .type "tuple", data := .seq (ps.map fun (p : Nat) => rawInt p).toArray } /\ ps.Perm (List.range es.size) /\ ord = ps.filterMap fun p => es[p]?.map (·.2)))
structure SAt (w:World) (h:Heap) (a:Addr) (es:Array (Int × Value)) (ep:Nat) (t:SetTable):Prop where
 at':∃ o,h.get? a=some o/\o.data=.set es ep t
 fits:t.fits es.size=true
 tab:Tab (hJ w) t
section
variable {prog:Program} {w:World} {A:Around} {E:Value->Shared->Prop} {s:Shared}
theorem wu {I a:Addr} {es:Array (Int × Value)} {c:Nat} {t:SetTable} {ord:List Value} {i:Nat} {v:Value} {Q:Option Value->Shared->Prop} (F:SIt w s.heap I a es c t ord i) (M:SAt w s.heap a es c t) (d:ord[i]?=some v)
  (j:∀ h',SIt w h' I a es c t ord (i+1)->Heap.SameBut I s.heap h'->Q (some v) { s with heap:=h' }):wpAny (model prog w) A (pyNext (.ref I)) Q E s:=by
 obtain ⟨⟨o,f,hd⟩,hf,B⟩:=M
 obtain ⟨first,g1,m⟩:=F
 obtain ⟨z,g,H,tk,os⟩:=s
 have ty:(⟨z,g,H,tk,os⟩:Shared).TypeIs (.ref I) "set_iterator":=⟨_,g1,rfl⟩
 have led:=B.led
 unfold pyNext
 refine DZ (wpAny_attempt (wpAny_callSpecial?_slot ty slot_next (wpAny_call_entry slot_next ty lF ?_ (ng _))))
 rcases m with ⟨l,rfl,b⟩ | ⟨l,nd,⟨k,rfl,bk⟩,b⟩ | ⟨T,ps,rfl,C,gT,pp,b⟩
 ·have L:(model prog w).w.params.followText "set-order"=true:=l
  have h:(pickOrder (w.params.setOrder a c) es)[i]?.map (·.2)=some v:=by rw [<- d,b];simp
  obtain ⟨x,G,ex⟩:=Ef.mp h
  have at2:Option.map (fun e:Int × Value=>(e.2,Int.toNat 0)) (pickOrder (({ program:=(model prog w).prog,params:=(model prog w).w.params }:Setting).params.setOrder a c) es)[(i:Int).toNat]?=some (v,0):=by
   refine (show Option.map _ (pickOrder (w.params.setOrder a c) es)[(i:Int).toNat]?=_ from ?_)
   rw [Int.toNat_natCast,G,<- ex];rfl
  wp_walk using wpAny_setState_of f hd hf,wpAny_askSetting
  rw [at2]
  wp_walk
  exact ⟨_,rfl,Ea (j _ ⟨rawInt 0,ED _ (ED _ g1 rfl) rfl,.inl ⟨l,rfl,b⟩⟩ ((Heap.SameBut.update ..).trans (Heap.SameBut.update ..)))⟩
 ·have L:(model prog w).w.params.followText "set-order"=false:=l
  have D:t.led=true:=by rw [led];simp [hJ,l]
  have lt:i < es.size:=by
   have:=(Eo.mp d).1
   rw [b] at this
   simpa using this
  have P:t.place.size=es.size:=by
   unfold SetTable.fits at hf
   rw [Bool.and_eq_true] at hf
   exact eq_of_beq hf.1
  have ev:es[i].2=v:=by
   rw [b,Et,Array.getElem?_toList,Array.getElem?_eq_getElem lt] at d
   simpa using d
  have y:SetTable.below t.place (k:Int).toNat=i:=bk
  wp_walk using wpAny_setState_of f hd hf,wpAny_askSetting
  refine wpAny_ite_false (show decide ((!t.plain && decide (es.size > 1))=true)=false by rw [nd];rfl) ?_
  wp_walk
  rw [y,Array.getElem?_eq_getElem lt,Array.getElem?_eq_getElem (show i < t.place.size by omega)]
  wp_walk
  subst ev
  exact ⟨_,rfl,Ea (j _ ⟨rawInt (t.place[i]+1:Nat),ED _ (ED _ g1 rfl) rfl,.inr (.inl ⟨l,nd,⟨_,rfl,sJ B.up (by omega)⟩,b⟩)⟩ ((Heap.SameBut.update ..).trans (Heap.SameBut.update ..)))⟩
 ·obtain ⟨p,x,u,n,ev⟩:∃ p x,ps[i]?=some p/\es[p]?=some x/\x.2=v:=by
   have all:∀ (l:List Nat),(∀ p ∈ l,p < es.size)->∀ i:Nat,(l.filterMap fun p=>es[p]?.map fun x:Int × Value=>x.2)[i]?=l[i]?.bind fun p=>es[p]?.map fun x:Int × Value=>x.2:=by
    intro l
    induction l with
    | nil=>intro _ i;simp
    | cons p l ih =>
     intro r i
     rw [List.filterMap_cons,Array.getElem?_eq_getElem (r p Ec)]
     cases i with
     | zero=>simp [Array.getElem?_eq_getElem (r p Ec)]
     | succ i=>simpa using ih (fun q J=>r q (Ed _ J)) i
   rw [b,all ps (fun p z=>List.mem_range.mp (pp.mem_iff.mp z))] at d
   obtain ⟨p,e1,O⟩:=EI.mp d
   obtain ⟨x,N,K⟩:=Ef.mp O
   exact ⟨p,x,e1,N,K⟩
  wp_walk using wpAny_setState_of f hd hf,wpAny_askSetting
  rw [show (List.map (fun p:Nat=>rawInt p) ps).toArray[(i:Int).toNat]?=some (rawInt p) by simp [u]]
  wp_walk using wpAny_setState_of f hd hf,wpAny_askSetting
  rw [show es[(p:Int).toNat]?=some x from n]
  wp_walk
  subst ev
  exact ⟨_,rfl,Ea (j _ ⟨.ref T,ED _ g1 rfl,.inr (.inr ⟨T,ps,rfl,C,(Heap.SameBut.update ..).extBut _ _ C gT,pp,b⟩)⟩ (Heap.SameBut.update ..))⟩
theorem zG {I a:Addr} {es:Array (Int × Value)} {h:Nat} {t:SetTable} {ord:List Value} {i:Nat} {Q:Option Value->Shared->Prop} (D:A.handled=none) (B:SIt w s.heap I a es h t ord i) (H:SAt w s.heap a es h t) (d:ord.length<=i)
  (n:∀ h',Heap.ExtBut I s.heap h'->Q none { s with heap:=h' }):wpAny (model prog w) A (pyNext (.ref I)) Q E s:=by
 obtain ⟨⟨o,r,hd⟩,hf,J⟩:=H
 obtain ⟨first,g1,m⟩:=B
 obtain ⟨u,g,C,tk,os⟩:=s
 have ty:(⟨u,g,C,tk,os⟩:Shared).TypeIs (.ref I) "set_iterator":=⟨_,g1,rfl⟩
 have led:=J.led
 have c:A.in1.handled=none:=D
 unfold pyNext
 refine DZ (wpAny_attempt (wpAny_callSpecial?_slot ty slot_next (wpAny_call_entry slot_next ty lF ?_ (ng _))))
 rcases m with ⟨l,rfl,f⟩ | ⟨l,nd,⟨k,rfl,bk⟩,f⟩ | ⟨T,ps,rfl,K,gT,pp,f⟩
 ·have G:(model prog w).w.params.followText "set-order"=true:=l
  have at2:Option.map (fun e:Int × Value=>(e.2,Int.toNat 0)) (pickOrder (({ program:=(model prog w).prog,params:=(model prog w).w.params }:Setting).params.setOrder a h) es)[(i:Int).toNat]?=none:=by
   refine (show Option.map _ (pickOrder (w.params.setOrder a h) es)[(i:Int).toNat]?=_ from ?_)
   rw [Int.toNat_natCast,Array.getElem?_eq_none (by rw [f] at d;simpa using d)];rfl
  wp_walk using wpAny_setState_of r hd hf,wpAny_askSetting
  rw [at2]
  wp_walk
  refine wpAny_raiseNew_none c ?_
  refine DZ (wpAny_isInstance (v:=.ref _) (T:="StopIteration") (b:=true) ?_ isSubtype_stop ?_)
  ·exact ⟨_,Em _ rfl,rfl⟩
  ·exact Ea (n _ (((Heap.SameBut.update ..).extBut.push _).push _))
 ·have G:(model prog w).w.params.followText "set-order"=false:=l
  have z:t.led=true:=by rw [led];simp [hJ,l]
  have ge:es.size<=i:=by rw [f] at d;simpa using d
  have j:SetTable.below t.place (k:Int).toNat=i:=bk
  wp_walk using wpAny_setState_of r hd hf,wpAny_askSetting
  refine wpAny_ite_false (show decide ((!t.plain && decide (es.size > 1))=true)=false by rw [nd];rfl) ?_
  wp_walk
  rw [j,Array.getElem?_eq_none ge]
  wp_walk
  refine wpAny_raiseNew_none c ?_
  refine DZ (wpAny_isInstance (v:=.ref _) (T:="StopIteration") (b:=true) ?_ isSubtype_stop ?_)
  ·exact ⟨_,Em _ rfl,rfl⟩
  ·exact Ea (n _ (((Heap.SameBut.update ..).extBut.push _).push _))
 ·have len:∀ (l:List Nat),(∀ p ∈ l,p < es.size)->(l.filterMap fun p=>es[p]?.map fun x:Int × Value=>x.2).length=l.length:=by
   intro l
   induction l with
   | nil=>intro _;rfl
   | cons p l ih =>
    intro y
    rw [List.filterMap_cons,Array.getElem?_eq_getElem (y p Ec)]
    simpa using ih fun q F=>y q (Ed _ F)
  rw [f,len ps fun p u=>List.mem_range.mp (pp.mem_iff.mp u)] at d
  wp_walk using wpAny_setState_of r hd hf,wpAny_askSetting
  rw [show (List.map (fun p:Nat=>rawInt p) ps).toArray[(i:Int).toNat]?=none by simpa using d]
  wp_walk
  refine wpAny_raiseNew_none c ?_
  refine DZ (wpAny_isInstance (v:=.ref _) (T:="StopIteration") (b:=true) ?_ isSubtype_stop ?_)
  ·exact ⟨_,Em _ rfl,rfl⟩
  ·exact Ea (n _ ((((Heap.SameBut.update ..).trans (Heap.SameBut.update ..)).extBut.push _).push _))
end
end L2
end
section
namespace L2
open PySem PyProof.Rows
section
variable {prog:Program} {w:World} {A:Around} {E:Value->Shared->Prop} {s:Shared}
theorem wx {a:Addr} {es:Array (Int × Value)} {h:Nat} {t:SetTable} {Q:Value->Shared->Prop} (m:SAt w s.heap a es h t) (d:s.TypeIs (.ref a) "set") (hz:es.size<=sizeLine)
  (f:∀ h' I d' ord,s.heap.objs.size<=I->ord.Perm (es.toList.map (·.2))->SIt w h' I a es h t ord 0->(∀ b o,s.heap.get? b=some o->h'.get? b=some o)->Q (.ref I) { s with heap:=h',drawn:=d' }) :
  wpAny (model prog w) A (pyIter (.ref a)) Q E s:=by
 obtain ⟨⟨o,c,hd⟩,hf,n⟩:=m
 obtain ⟨i,g,j,tk,os⟩:=s
 refine wpAny_pyIter_slot d F.slot_set_iter (wpAny_call_entry F.slot_set_iter d sf ?_ (F.args_set_iter_1 _))
 cases l:w.params.followText "set-order" with
 | true =>
  have k:(model prog w).w.params.followText "set-order"=true:=l
  wp_walk using wpAny_setState_of c hd hf,wpAny_askSetting
  exact ⟨_,rfl,"set_iterator",_,⟨_,Em _ rfl,rfl⟩,slot_next.lookup,f _ i.objs.size j _ (Eu _) ((uP (w.params.setOrder a h) es).map _) ⟨rawInt 0,Em _ rfl,.inl ⟨l,rfl,rfl⟩⟩ fun b o e=>Ee _ e⟩
 | false =>
  have k:(model prog w).w.params.followText "set-order"=false:=l
  cases nd:(!t.plain && decide (es.size > 1)) with
  | false =>
   wp_walk using wpAny_setState_of c hd hf,wpAny_askSetting
   refine wpAny_ite_false (show decide ((!w.params.followText "set-order" && (!t.plain && decide (es.size > 1)))=true)=false by rw [l,nd];rfl) ?_
   wp_walk using wpAny_setState_of c hd hf,wpAny_askSetting
   exact ⟨_,rfl,"set_iterator",_,⟨_,Em _ rfl,rfl⟩,slot_next.lookup,f _ i.objs.size j _ (Eu _) (List.Perm.refl _) ⟨rawInt 0,Em _ rfl,.inr (.inl ⟨l,nd,⟨0,rfl,sI n.up⟩,rfl⟩)⟩ fun b o e=>Ee _ e⟩
  | true =>
   wp_walk using wpAny_setState_of c hd hf,wpAny_askSetting
   refine wpAny_ite_true (show decide ((!w.params.followText "set-order" && (!t.plain && decide (es.size > 1)))=true)=true by rw [l,nd];rfl) ?_
   refine DZ (m5 _ _ _ (by simp) fun ys d' pp=>?_)
   have q:ys.length=es.size:=by have:=pp.length_eq;simpa using this
   refine DZ (wpAny_newTuple ?_ (by simp;omega))
   refine DZ (DZ (wpAny_setState_of (Ee _ c) hd hf (Ea ?_)))
   wp_walk
   have pm:(ys.filterMap fun p=>es[p]?.map fun x:Int × Value=>x.2).Perm (es.toList.map (·.2)):=by
    refine (pp.filterMap _).trans ?_
    rw [<- filterMap_getElem?_range es,List.map_filterMap]
   refine ⟨_,rfl,"set_iterator",_,⟨_,Em _ rfl,rfl⟩,slot_next.lookup,f _ _ d' _ ?_ pm ⟨.ref i.objs.size,Em _ rfl,.inr (.inr ⟨_,ys,rfl,?_,Ee _ (Em _ rfl),pp,rfl⟩)⟩ fun b o e=>Ee _ (Ee _ e)⟩
   ·rw [EQ];exact Nat.le_succ _
   ·rw [EQ];exact Ew (Nat.lt_succ_self _)
theorem SAt.keep {h h':Heap} {a:Addr} {es:Array (Int × Value)} {b:Nat} {t:SetTable} (x:SAt w h a es b t) (k:∀ o,h.get? a=some o->h'.get? a=some o):SAt w h' a es b t :=
 let ⟨⟨o,e,d⟩,f,t⟩:=x;⟨⟨o,k o e,d⟩,f,t⟩
theorem SIt.keep {h h':Heap} {S I a:Addr} {es:Array (Int × Value)} {c:Nat} {t:SetTable} {ord:List Value} {i:Nat} (x:SIt w h I a es c t ord i) (l:I ≠ S) (e:∀ T ps,h.get? T=some { cls:=.type "tuple",data:=.seq ps }->T ≠ S) (k:∀ b o,b ≠ S->h.get? b=some o->h'.get? b=some o):SIt w h' I a es c t ord i:=by
 obtain ⟨f,g,m⟩:=x
 refine ⟨f,k _ _ l g,?_⟩
 rcases m with m | m | ⟨T,ps,e1,n,d,j⟩
 ·exact .inl m
 ·exact .inr (.inl m)
 ·exact .inr (.inr ⟨T,ps,e1,n,k _ _ (e _ _ d) d,j⟩)
theorem AV (x:A.handled=none) {I a S:Addr} (B:a ≠ I) (h:S ≠ I) (C:S ≠ a) {es:Array (Int × Value)} {r:Nat} {t:SetTable} {ord:List Value} (hz:ord.length<=sizeLine) (res:Value) {R:Result->Shared->Prop} :
  ∀ (k i:Nat) (s:Shared) (c:Nat),ord.length - i=k->i<=ord.length->SIt w s.heap I a es r t ord i->SAt w s.heap a es r t ->
  s.heap.get? S=some { cls:=.type "list",dict:=none,data:=.seq (ord.take i).toArray c,slots:=#[] } ->
  (∀ h' u tk,h'.get? S=some { cls:=.type "list",dict:=none,data:=.seq ord.toArray u,slots:=#[] }->(∀ b o,b ≠ I->b ≠ S->s.heap.get? b=some o->h'.get? b=some o)->R (.ok (.ret res)) { s with heap:=h',toks:=tk }) ->
  codeAny (model prog w) A (.builtin "list.extend.loop" ⟨[.ref S,.ref I,res],[]⟩) R s:=by
 intro k
 induction k with
 | zero =>
  intro i s c y hi hit hm f fin
  obtain rfl:i=ord.length:=by omega
  refine codeAny_builtin F.entry_extend_loop ?_
  rw [Around.under_plainId F.plain_extend_loop _]
  refine DZ (zG (s:=s) (show A.in1.handled=none from x) hit hm (Eu _) fun h' p=>?_)
  rw [List.take_length] at f
  exact Ea (fin h' c s.toks (p S _ h f) fun b o d _ e=>p b o d e)
 | succ k ih =>
  intro i s c y hi hit hm f fin
  have lt:i < ord.length:=by omega
  refine codeAny_builtin F.entry_extend_loop ?_
  rw [Around.under_plainId F.plain_extend_loop _]
  refine DZ (wu (s:=s) (v:=ord[i]) hit hm (Ej lt) fun h1 l s1=>?_)
  have g:=s1.extBut _ _ h f
  refine DZ (wpAny_updateSeq g rfl (Ea ⟨plainId_quiet F.plain_extend_loop _,?_⟩) (by simp;omega) (by simp;omega))
  obtain ⟨c2,q⟩:∃ c2,(h1.update S (Obj.mapSeq (·.push ord[i]))).get? S=some (seqObj "list" ((ord.take i).toArray.push ord[i]) c2):=⟨_,get?_update_seq g (·.push ord[i])⟩
  have up:∀ b o,b ≠ S->h1.get? b=some o->(h1.update S (Obj.mapSeq (·.push ord[i]))).get? b=some o:=fun b o n e=>(Heap.SameBut.update ..).extBut _ _ n e
  have tk:(ord.take i).toArray.push ord[i]=(ord.take (i+1)).toArray:=by
   rw [List.take_add_one,Ej lt]
   simp
  rw [tk] at q
  refine ih (i+1) { s with heap:=h1.update S (Obj.mapSeq (·.push ord[i])) } c2 (by omega) lt (l.keep (S:=S) (Ne.symm h) (fun T ps e z=>by subst z;rw [g] at e;simp at e) up) ((hm.keep fun o e=>s1.extBut _ _ B e).keep fun o e=>up _ _ (Ne.symm C) e) q fun h3 D j g3 k3=>?_
  exact fin h3 D j g3 fun b o d m e=>k3 b o d m (up _ _ m (s1.extBut _ _ d e))
theorem yx {d:Addr} {Q:Bool->Shared->Prop} (ty:s.TypeIs (.ref d) "set") (h:Q false s):wpAny (model prog w) A (Builtin.List.listLengthHint (.ref d)) Q E s:=by
 unfold Builtin.List.listLengthHint
 refine DZ (wpAny_specialOf ty F.slot_set_len.lookup ?_)
 have cut:splitId "set.__len__"=some ("set","__len__"):=by kernel_rfl
 dsimp only
 simp only [cut]
 refine DZ (wpAny_isInstance ty (b:=true) sub_set_self (wpAny_ite_false rfl ?_))
 rw [if_pos (by kernel_rfl)]
 exact DZ (wpAny_typeOf ty (Ea h))
theorem ql {a:Addr} {es:Array (Int × Value)} {B:Nat} {t:SetTable} {Q:List Value->Shared->Prop} (N:A.handled=none) (K:SAt w s.heap a es B t) (ty:s.TypeIs (.ref a) "set") (hz:es.size<=sizeLine)
  (h:∀ h' d' tk ord,ord.Perm (es.toList.map (·.2))->s.heap.objs.size<=h'.objs.size->(∀ b o,s.heap.get? b=some o->h'.get? b=some o)->Q ord { s with heap:=h',drawn:=d',toks:=tk }):wpAny (model prog w) A (collect (.ref a)) Q E s:=by
 have lt:a < s.heap.objs.size:=by obtain ⟨⟨o,e,_⟩,_⟩:=K;exact Ek e
 obtain ⟨d,g,m,tk,os⟩:=s
 unfold collect
 refine DZ (wpAny_runValue (codeAny_builtin F.entry_proto_collect ?_))
 rw [Around.under_plainId F.plain_proto_collect _]
 refine DZ (wpAny_newObj_type (Ea ⟨plainId_quiet F.plain_list_iadd _,codeAny_builtin F.entry_list_iadd ?_⟩))
 rw [Around.under_plainId F.plain_list_iadd _]
 have L:(d.push { cls:=.type "list",data:=.seq ([]:List Value).toArray }).get? d.objs.size=some { cls:=.type "list",data:=.seq ([]:List Value).toArray }:=Em _ rfl
 have a1:SAt w (d.push { cls:=.type "list",data:=.seq ([]:List Value).toArray }) a es B t:=K.keep fun o e=>Ee _ e
 have f:(⟨d.push { cls:=.type "list",data:=.seq ([]:List Value).toArray },g,m,tk,os⟩:Shared).TypeIs (.ref a) "set":=let ⟨o,e,c⟩:=ty;⟨o,Ee _ e,c⟩
 have W:(d.push { cls:=.type "list",data:=.seq ([]:List Value).toArray }).objs.size=d.objs.size+1:=EQ ..
 have O:∀ b o,d.get? b=some o->(d.push { cls:=.type "list",data:=.seq ([]:List Value).toArray }).get? b=some o:=fun b o e=>Ee _ e
 refine (show wpAny _ A.in1 (Builtin.List.listExtendWith (.ref d.objs.size) (.ref a) (.ref d.objs.size)) _ _ ⟨d.push { cls:=.type "list",data:=.seq ([]:List Value).toArray },g,m,tk,os⟩ from ?_)
 generalize d.push { cls:=.type "list",data:=.seq ([]:List Value).toArray }=H1 at *
 unfold Builtin.List.listExtendWith
 refine DZ (wpAny_typeOf f ?_)
 rw [if_neg (by
  have e1:Builtin.List.listSameRef (.ref d.objs.size) (.ref a)=false:=beq_false_of_ne (Nat.ne_of_gt lt)
  have Y:(Value.type "set" == Value.type "list")=false:=by decide
  have X:(Value.type "set" == Value.type "tuple")=false:=by decide
  rw [e1,Y,X]
  decide)]
 refine DZ (wx (s:=⟨H1,g,m,tk,os⟩) a1 f hz fun h2 I k ord j pm p l=>?_)
 have x:(⟨h2,g,k,tk,os⟩:Shared).TypeIs (.ref a) "set":=let ⟨o,e,c⟩:=f;⟨o,l _ _ e,c⟩
 refine DZ (Eb (yx x ?_))
 have j:H1.objs.size<=I:=j
 rw [W] at j
 have C:d.objs.size ≠ I:=Ew j
 have V:a ≠ I:=Ew (Nat.lt_trans lt j)
 have ol:ord.length=es.size:=by have:=pm.length_eq;simpa using this
 have v:h2.get? d.objs.size=some (seqObj "list" #[] 0):=l _ _ L
 have a2:SAt w h2 a es B t:=a1.keep fun o e=>l _ _ e
 refine wpAny_ite_true (by kernel_rfl) ?_
 refine DZ (wpAny_rule ?_)
 refine DZ (DZ (listUpdate_at (s:=⟨h2,g,k,tk,os⟩) v rfl ?_))
 obtain ⟨H,G⟩:∃ H,(h2.update d.objs.size (Obj.mapSeq (·.push Value.none))).get? d.objs.size=some (seqObj "list" (#[].push Value.none) H):=⟨_,get?_update_seq v (·.push Value.none)⟩
 refine listUpdate_at (s:=⟨h2.update d.objs.size (Obj.mapSeq (·.push Value.none)),g,k,tk,os⟩) G rfl ?_
 obtain ⟨r,D⟩:∃ r,((h2.update d.objs.size (Obj.mapSeq (·.push Value.none))).update d.objs.size (Obj.mapSeq (·.pop))).get? d.objs.size=some (seqObj "list" (#[].push Value.none).pop r):=⟨_,get?_update_seq G (·.pop)⟩
 have i:∀ b o,b ≠ d.objs.size->h2.get? b=some o->((h2.update d.objs.size (Obj.mapSeq (·.push Value.none))).update d.objs.size (Obj.mapSeq (·.pop))).get? b=some o:=fun b o n e=>(Heap.SameBut.update ..).extBut _ _ n ((Heap.SameBut.update ..).extBut _ _ n e)
 have q:=p.keep (S:=d.objs.size) (Ne.symm C) (fun T ps e z=>by subst z;rw [v] at e;simp [seqObj] at e) i
 have P:=a2.keep fun o e=>i _ _ (Ew lt) e
 have U:d.objs.size < ((h2.update d.objs.size (Obj.mapSeq (·.push Value.none))).update d.objs.size (Obj.mapSeq (·.pop))).objs.size:=Ek D
 generalize ((h2.update d.objs.size (Obj.mapSeq (·.push Value.none))).update d.objs.size (Obj.mapSeq (·.pop)))=H4 at *
 refine Ea ⟨plainId_quiet F.plain_extend_loop _,AV (ord:=ord) N V C (Nat.ne_of_gt lt) (by omega) _ ord.length 0 ⟨H4,g,k,tk,os⟩ r (by omega) (Nat.zero_le _) q P (by simpa [seqObj] using D) fun R Z y J M=>?_⟩
 refine DZ (wpAny_load J ?_)
 refine Ea ?_
 have e:ord.toArray.toList=ord:=by simp
 refine e.symm ▸ h R k y ord pm ?_ fun b o e=>?_
 ·exact Nat.le_of_lt (Ek J)
 ·have u:=Ek e
  exact M b o (Ew (Nat.lt_trans u j)) (Ew u) (i _ _ (Ew u) (l _ _ (O _ _ e)))
end
end L2
end
section
namespace L2
open PySem PySem.Spec PyProof.Rows
section
variable {X:Cx}
abbrev zI (X:Cx) (p:Addr) (ns:List Int):HO:=.ext fun h=>SetL X.prog X.w h p ns
theorem Inv.drew {pins:List (Addr × Obj)} {σ:St} {H:Hp} {s:Shared} {d:Drawn} (I:Inv X pins σ H s):Inv X pins σ H { s with drawn:=d } :=
 ⟨I.ok,I.os,I.bare,I.base,I.loc,I.cell,I.free,I.freeC,I.pin,I.hok,I.len⟩
def rSet (X:Cx):List V->Hp->VK->Prop:=fun xs H Q=>∃ (l:Addr) (ns:List Int),xs=[.ref l]/\SqT X.K H l (ns.map V.int)/\ns.length < 64/\∀ p,H p=none->Q (.ref p) (upd H p (zI X p (ns.foldl met [])))
theorem vD (f:X.calm=true):cp X (.type "set") (rSet X):=by
 intro pins s σ H xs us Q I c h
 obtain ⟨l,ns,rfl,b,g,q⟩:=h
 obtain ⟨u,rfl,d⟩:=d8 c
 cases (show u=Value.ref l from d)
 obtain ⟨its,r,p,hz⟩:=I.tuple b
 have hlen:=r.length
 refine ot (I.ok.hd f) (show s.heap.IsTuple l its.toArray from p) (by simpa using ly r) (by simp at hlen ⊢;unfold scanBound;omega) fun h' tk S k=>?_
 exact ⟨.ref s.heap.objs.size,_,I.laid (a:=s.heap.objs.size) (o:=zI X s.heap.objs.size (ns.foldl met [])) (t':=tk) k (Eu _) ⟨S,(let ⟨o,_,_,_,_,e,_⟩:=S;⟨o,e⟩),fun h1 h2 x k=>x.keep k⟩,rfl,q _ (I.hok.fresh (Eu _))⟩
def xb (X:Cx):List V->Hp->VK->Prop:=fun xs H Q=>∃ (p:Addr) (ns:List Int),xs=[.ref p]/\H p=some (zI X p ns)/\ns.length < 64/\∀ q,H q=none->∀ a:List Int,a.Perm ns->a.Pairwise (·<=·)->Q (.ref q) (upd H q (.lst (a.map V.int)))
theorem sk (C:X.calm=true):cp X (.builtin "sorted") (xb X):=by
 intro pins s σ H xs us Q I B h
 obtain ⟨p,ns,rfl,E,i,q⟩:=h
 obtain ⟨u,rfl,J⟩:=d8 B
 cases (show u=Value.ref p from J)
 obtain ⟨S,_,_⟩:=I.hok p _ E
 have ty:=S.typeIs (s:=s)
 obtain ⟨o,es,K,t,ms,D,hex,hd,F,hi,pm,y,hf,G⟩:=S
 have w:=I.ok.hd C
 have sz:es.size<=sizeLine:=fits_of_scanBound y
 refine Calls.call_function_entry kind_sorted plain_sorted entry_sorted (args_sorted1 _) (DZ (Ea (DZ (ql (show X.A.in1.handled=none from w) ⟨⟨o,D,hd⟩,hf,G⟩ ty sz fun h1 d1 m ord po j x=>?_))))
 obtain ⟨ks,f⟩:∃ ks,IntsAre ord ks:=by
  have:∀ v ∈ ord,∃ n t,v=Value.int n t:=fun v l=>by
   have:=po.mem_iff.mp l
   exact hi.all v this
  clear po
  induction ord with
  | nil=>exact ⟨[],.nil⟩
  | cons v ord ih =>
   obtain ⟨n,t,rfl⟩:=this v Ec
   obtain ⟨ks,h⟩:=ih fun v l=>this v (Ed _ l)
   exact ⟨n :: ks,.cons n t h⟩
 have k:ks.Perm ns:=(jL po f hi).trans pm
 have ol:ord.length < 64:=by rw [f.length,k.length_eq];exact i
 refine DZ (wpAny_newList ?_)
 have got:(h1.push (seqObj "list" ord.toArray 0)).get? h1.objs.size=some (seqObj "list" ord.toArray 0):=Em _ rfl
 refine DZ (Eb (wpAny_call_entry slot_list_sort ⟨_,got,rfl⟩ entry_list_sort (list_sort_tree got f ol fun out g a b c=>⟨_,rfl,Ea ⟨_,rfl,?_⟩⟩) (args_list_sort _)))
 obtain ⟨e,he⟩:=sortedHeap_at (out:=out) got
 have nl:g.length < 64:=by rw [b.length_eq,k.length_eq];exact i
 have keep:∀ (b:Addr) (u:Obj),s.heap.get? b=some u->(sortedHeap (h1.push (seqObj "list" ord.toArray 0)) h1.objs.size ord out).get? b=some u:=fun b u z=>by
  have r:=Ek z
  rw [sortedHeap_old (Ew (EB r j)) (by rw [EQ];exact Nat.lt_succ_of_lt (EB r j))]
  exact Ee _ (x _ _ z)
 refine ⟨.ref h1.objs.size,_,(I.drew (d:=d1)).laid (a:=h1.objs.size) (o:=.lst (g.map V.int)) (t':=m) keep j ⟨?_,out.toList,e,iX a,by rw [he]⟩,rfl,q _ (I.hok.fresh j) g (b.trans k) c⟩
 rw [En]
 have:64<=sizeLine:=by decide
 omega
end
end L2
end
section
namespace L2
open PySem PySem.Spec PyProof.Rows
section
variable {X:Cx}
theorem pE {k v:Expr} {pos:Pos} {Q:Value->Shared->Prop} {A:Around} {E:Value->Shared->Prop} {s:Shared} {prog:Program} {w:World} {env:Env}
  (h:wpAny (model prog w) A (eval k env) (fun x s1=>wpAny (model prog w) A (eval v env) (fun y s2=>wpAny (model prog w) A (dictSet s.heap.objs.size x y) (fun _ s3=>Q (.ref s.heap.objs.size) s3) E s2) E s1) E { s with heap:=s.heap.push { cls:=.type "dict",data:=.dict #[] } }) :
  wpAny (model prog w) A (eval (.Dict [some k] [v] pos) env) Q E s:=by
 rw [arm_eval_Dict]
 refine DZ (wpAny_standAt ?_)
 have e:=dictDisplay_pairs [(eval k env,(do let x <- eval v env;standAt pos;pure x:Sem Value))] (by simp) (by simp)
 refine (show wpAny (model prog w) A (dictDisplay ([(eval k env,(do let x <- eval v env;standAt pos;pure x:Sem Value))].map fun p=>(some p.1,p.2))) Q E s from ?_)
 rw [e]
 refine DZ ?_
 unfold subDict
 refine DZ (wpAny_alloc (DZ (Eb ?_)))
 rw [if_pos (by simp)]
 refine DZ ?_
 unfold evalPairs
 refine DZ (wpAny_mono h (fun x s1 h1=>?_) fun _ _ z=>z)
 refine DZ (Eb (DZ (wpAny_mono h1 (fun y s2 h2=>?_) fun _ _ z=>z)))
 refine DZ (wpAny_standAt (Ea ?_))
 refine DZ (Eb (Ea (Ea (Eb ?_))))
 simp only [List.forIn_cons,List.forIn_nil]
 refine DZ (DZ (DZ (wpAny_mono h2 (fun _ s3 h3=>?_) fun _ _ z=>z)))
 exact Ea (Ea (Ea (Ea (Ea h3))))
def tD1K (k:Key) (v:V):TE:=fun _ H Q=>∀ p,H p=none->Q (.ref p) (upd (upd H p (.dK [])) p (.dK [(k,v)]))
theorem C0 {k v:Expr} {key:Key} {d:V} {pos:Pos} (j:PE X k (tC (kV key))) (m:PE X v (tC d)):PE X (.Dict [some k] [v] pos) (tD1K key d):=by
 intro pins s σ H Q I q
 have u:=I.hok.fresh (Eu s.heap.objs.size)
 have p:=I.laid (a:=s.heap.objs.size) (o:=.dK []) (h':=s.heap.push { cls:=.type "dict",data:=.dict #[] }) (t':=s.toks) (fun _ _ q=>Ee _ q) (Eu _) (yO s.heap I.big)
 refine pE (thn (j pins _ σ _ (fun x H2=>x=kV key/\H2=upd H s.heap.objs.size (.dK [])) p ⟨rfl,rfl⟩) fun x s1 ⟨A,H1,g,n,e1,f⟩=>thn (m pins s1 σ H1 (fun y H2=>y=d/\H2=upd H s.heap.objs.size (.dK [])) g ⟨rfl,f⟩) fun y s2 ⟨c,H2,e,l,w,t⟩=>?_)
 subst e1 f w t
 obtain ⟨z,hd,B,rel,h⟩:=sh e.hok (.inl aJ)
 cases rel
 refine ic (hsz:=Nat.zero_le _) (tQ n) h fun h' b i=>?_
 have he:∃ q,h'.get? s.heap.objs.size=some q:=let ⟨q,_,_,r,_⟩:=b;⟨q,r⟩
 have hz:[(key,c)].length<=sizeLine:=(by decide:1<=sizeLine)
 exact ⟨.ref s.heap.objs.size,_,kQ e (by rw [aJ];exact True.intro) i he (yN (kvs:=[(key,c)]) hz hd (KV.put (kvs:=[]) .nil key l) b),rfl,q _ u⟩
def tD1T (ns:List Int) (v:V):TE:=fun _ H Q=>∀ p,H p=none->∀ b,upd H p (.dT []) b=none->Q (.ref p) (upd (upd (upd H p (.dT [])) b (.tup (ns.map V.int))) p (.dT [(ns.map Sum.inl,v)]))
theorem CZ {es:List Expr} {x1:Nat} {v:Expr} {ns:List Int} {d:V} {pos pos':Pos} (hu:X.A.units+1 < cLine) (h0:ns ≠ []) (hz:ns.length<=100) (t:es.map vJ=ns.map some) (B:PE X v (tC d)):PE X (.Dict [some (.Tuple es x1 pos')] [v] pos) (tD1T ns d):=by
 intro pins s σ H Q I q
 have K:=I.hok.fresh (Eu s.heap.objs.size)
 have F:=I.laid (a:=s.heap.objs.size) (o:=.dT []) (h':=s.heap.push { cls:=.type "dict",data:=.dict #[] }) (t':=s.toks) (fun _ _ q=>Ee _ q) (Eu _) (qf s.heap I.big)
 have M:=xx (X:=X) (x1:=x1) (pos:=pos') (tH ns t)
 have len:(ns.map V.int).length<=sizeLine:=by rw [En,sizeLine_eq];omega
 refine pE (thn (M pins _ σ _ (fun x H2=>∃ b,x=.ref b/\upd H s.heap.objs.size (.dT []) b=none/\H2=upd (upd H s.heap.objs.size (.dT [])) b (.tup (ns.map V.int))) F ⟨len,fun b e=>⟨b,rfl,e,rfl⟩⟩) fun x s1 ⟨O,H1,n,D,b,e1,e,N⟩=>thn (B pins s1 σ H1 (fun y H2=>y=d/\H2=H1) n ⟨rfl,rfl⟩) fun y s2 ⟨J,H2,j,u,L,G⟩=>?_)
 subst e1 N L G
 have nb:b ≠ s.heap.objs.size:=fun z=>by rw [z,aJ] at e;cases e
 cases (show x=Value.ref b from D)
 have i:upd (upd H s.heap.objs.size (.dT [])) b (.tup (ns.map V.int)) s.heap.objs.size=some (.dT []):=by rw [aw (Ne.symm nb),aJ]
 have hb2:upd (upd H s.heap.objs.size (.dT [])) b (.tup (ns.map V.int)) b=some (.tup ((ns.map Sum.inl).map kV)):=by rw [aJ,EV];rfl
 obtain ⟨z,hd,xs,rel,p⟩:=sg j.hok (.inl i)
 cases rel
 refine iL (hsz:=Nat.zero_le _) (show (tupleKind (bO X.prog X.w)).room X.A from Nat.lt_of_succ_lt hu) (nY j.hok hb2) p fun h' h r=>?_
 obtain ⟨m,f,g,l,h2,h3,E,_,C⟩:=h
 refine ⟨.ref s.heap.objs.size,_,kQ (ob:=.dT [(ns.map Sum.inl,J)]) j (by rw [i];exact True.intro) r ⟨m,l⟩ ⟨(by decide:1<=sizeLine),hd,_,(KT.put (kvs:=[]) .nil (ns.map Sum.inl) hb2 u).keeps fun c ys k=>?_,m,f,g,l,h2,h3,E,C⟩,rfl,q _ K b e⟩
 rw [aw (Bw k i (fun z=>nomatch z))]
 exact k
end
end L2
end
section
namespace L2
open PySem PySem.Spec PyProof.Rows
def qP (l:Array Value):Obj:=seqObj "tuple" l 0
def ev (cmp:Nat->Nat->Option Bool) {α:Type} (m:Sem α):Option Addr->Option (α × Option Addr):=by
 induction m with
 | pure a=>exact fun p=>some (a,p)
 | rule _ k ih=>exact ih ()
 | load b _ k ih=>exact fun p=>match p with
  | none=>ih (qP #[]) (some b)
  | some a=>match cmp a b with
   | some true=>ih (qP #[Value.none]) none
   | some false=>ih (qP #[]) none
   | none=>none
 | _=>exact fun _=>none
theorem t4 {cmp:Nat->Nat->Option Bool} {α β:Type} (m:Sem α) (f:α->Sem β):∀ p,ev cmp (m.bind f) p=(ev cmp m p).bind fun r=>ev cmp (f r.1) r.2:=by
 induction m with
 | pure a=>exact fun p=>rfl
 | rule _ k ih=>exact ih ()
 | load b _ k ih =>
  intro p
  cases p with
  | none=>exact ih _ _
  | some a =>
   show (match cmp a b with
    | some true=>ev cmp ((k (qP #[Value.none])).bind f) none
    | some false=>ev cmp ((k (qP #[])).bind f) none
    | none=>none)=Option.bind (match cmp a b with
    | some true=>ev cmp (k (qP #[Value.none])) none
    | some false=>ev cmp (k (qP #[])) none
    | none=>none) _
   cases cmp a b with
   | none=>rfl
   | some t=>cases t <;> exact ih _ _
 | _=>exact fun _=>rfl
def rG (k:SortKind):Prop:=k=ba true\/k=oneType'
structure Fol (φ:Keyed->Keyed) (st ps:SortSt):Prop where
 kind:rG (kindOf st)
 kind':kindOf ps=ba true
 arr:arrOf st=(arrOf ps).map φ
 pend:pendingOf st=pendingOf ps
 mg:gallopOf st=gallopOf ps
 fail:failedOf st=none
 fail':failedOf ps=none
class EqRl (α:Type) where
instance:EqRl Nat:=⟨⟩
instance:EqRl Bool:=⟨⟩
instance:EqRl PUnit:=⟨⟩
instance {α:Type} [EqRl α]:EqRl (Option α):=⟨⟩
instance {α:Type} [EqRl α]:EqRl (Array α):=⟨⟩
instance {α β:Type} [EqRl α] [EqRl β]:EqRl (α × β):=⟨⟩
instance {α:Type} [EqRl α]:EqRl (ForInStep α):=⟨⟩
class Rl (φ:Keyed->Keyed) (α:Type) where
 rel:α->α->Prop
variable {φ:Keyed->Keyed}
instance rlO {α:Type} [Rl φ α]:Rl φ (Option α):=⟨fun x y=>match x,y with | none,none=>True | some a,some b=>Rl.rel φ a b | _,_=>False⟩
instance rlP {α β:Type} [Rl φ α] [Rl φ β]:Rl φ (α × β):=⟨fun x y=>Rl.rel φ x.1 y.1/\Rl.rel φ x.2 y.2⟩
instance rlF {α:Type} [Rl φ α]:Rl φ (ForInStep α):=⟨fun x y=>match x,y with | .done a,.done b=>Rl.rel φ a b | .yield a,.yield b=>Rl.rel φ a b | _,_=>False⟩
instance rlK:Rl φ Keyed:=⟨fun p i=>p = φ i⟩
instance rlA:Rl φ (Array Keyed):=⟨fun p i=>p=i.map φ⟩
instance rlS:Rl φ SortSt:=⟨Fol φ⟩
instance (priority:=high) rlE {α:Type} [EqRl α]:Rl φ α:=⟨Eq⟩
section
variable {prog:Program} {w:World} {A:Around} {E:Value->Shared->Prop} {s:Shared} {cmp:Nat->Nat->Option Bool} {α β:Type}
def Sim (prog:Program) (w:World) (A:Around) (E:Value->Shared->Prop) (s:Shared) (φ:Keyed->Keyed) (cmp:Nat->Nat->Option Bool) {α:Type} [Rl φ α] (m p:StateT SortSt Sem α):Prop :=
 ∀ st ps b d q,Fol φ st ps->ev cmp (p.run ps) none=some ((b,d),q)->∃ a c,Rl.rel φ a b/\Fol φ c d/\q=none/\∀ Q:α->SortSt->Prop,Q a c->wpS (model prog w) A E s m Q st
theorem aL [Rl φ α] {a b:α} (h:Rl.rel φ a b):Sim prog w A E s φ cmp (pure a) (pure b):=by
 intro st ps d c g f e
 cases e
 exact ⟨a,st,h,f,rfl,fun Q q=>wpS_pure q⟩
theorem cq [Rl φ α] [Rl φ β] {m p:StateT SortSt Sem α} {f g:α->StateT SortSt Sem β} (h:Sim prog w A E s φ cmp m p) (k:∀ a b,Rl.rel φ a b->Sim prog w A E s φ cmp (f a) (g b)):Sim prog w A E s φ cmp (m >>= f) (p >>= g):=by
 intro st ps o d t v e
 have e:ev cmp ((p.run ps).bind fun x=>(g x.1).run x.2) none=some ((o,d),t):=e
 rw [t4] at e
 obtain ⟨⟨⟨b,i⟩,u⟩,e1,z⟩:=EI.mp e
 obtain ⟨a,st1,r,j,rfl,h1⟩:=h st ps b i u v e1
 obtain ⟨c,n,y,l,rfl,h2⟩:=k a b r st1 i o d t j z
 exact ⟨c,n,y,l,rfl,fun Q q=>wpS_bind (h1 _ (h2 Q q))⟩
theorem aB [EqRl α] [Rl φ β] {m p:StateT SortSt Sem α} {f g:α->StateT SortSt Sem β} (h:Sim prog w A E s φ cmp m p) (k:∀ a,Sim prog w A E s φ cmp (f a) (g a)):Sim prog w A E s φ cmp (m >>= f) (p >>= g) :=
 cq h fun a b (r:a=b)=>r ▸ k a
theorem bB [EqRl α] [Rl φ β] {m p:StateT SortSt Sem (Option α)} {f g:Option α->StateT SortSt Sem β} (h:Sim prog w A E s φ cmp m p) (c:Sim prog w A E s φ cmp (f none) (g none)) (ks:∀ a,Sim prog w A E s φ cmp (f (some a)) (g (some a))):Sim prog w A E s φ cmp (m >>= f) (p >>= g) :=
 cq h fun a b (r:a=b)=>r ▸ (match a with | none=>c | some a=>ks a)
theorem bF [Rl φ α] {c:Prop} [Decidable c] {m n p q:StateT SortSt Sem α} (h1:c->Sim prog w A E s φ cmp m p) (h2:¬ c->Sim prog w A E s φ cmp n q):Sim prog w A E s φ cmp (if c then m else n) (if c then p else q):=by
 by_cases h:c
 ·rw [if_pos h,if_pos h];exact h1 h
 ·rw [if_neg h,if_neg h];exact h2 h
theorem wn [Rl φ α] {m p:StateT SortSt Sem α} (h:∀ ps,ev cmp (p.run ps) none=none):Sim prog w A E s φ cmp m p:=fun st ps b a q f e=>by
 rw [h] at e
 cases e
theorem cM [Rl φ α] {m:StateT SortSt Sem α} {t:String}:Sim prog w A E s φ cmp m (unsupported t:Sem α):=wn fun _=>rfl
theorem j6 [Rl φ α] {f g : Nat -> α -> StateT SortSt Sem (ForInStep α)} (h : ∀ i x y, Rl.rel φ x y -> @Sim prog w A E s φ cmp _ rlF (f i x) (g i y)) : ∀ (l : List Nat) (x y : α), Rl.rel φ x y -> Sim prog w A E s φ cmp (forIn l x f) (forIn l y g)
  | [], x, y, r => by rw [List.forIn_nil, List.forIn_nil]; exact aL r
  | i :: l, x, y, r => by
    rw [List.forIn_cons, List.forIn_cons]
    refine @cq _ _ _ _ _ _ _ _ _ rlF _ _ _ _ _ (h i x y r) fun a b c => ?_
    cases a <;> cases b <;> first | exact False.elim c | skip
    · exact aL c
    · exact j6 h l _ _ c
theorem fA [Rl φ α] {f g:Nat->α->StateT SortSt Sem (ForInStep α)} {a b:Nat} {x y:α} (r:Rl.rel φ x y) (h:∀ i x y,Rl.rel φ x y->@Sim prog w A E s φ cmp _ rlF (f i x) (g i y)):Sim prog w A E s φ cmp (forIn [a:b] x f) (forIn [a:b] y g):=by
 rw [Std.Legacy.Range.forIn_eq_forIn_range',Std.Legacy.Range.forIn_eq_forIn_range']
 exact j6 h _ _ _ r
theorem ir [EqRl α] {f g:Nat->α->StateT SortSt Sem (ForInStep α)} {a b:Nat} {x:α} (h:∀ i x,Sim prog w A E s φ cmp (f i x) (g i x)):Sim prog w A E s φ cmp (forIn [a:b] x f) (forIn [a:b] x g):=by
 refine fA rfl fun i x y r=>?_
 cases r
 intro st ps b d q k e
 obtain ⟨c,j,r,d5⟩:=h i x st ps b d q k e
 refine ⟨c,j,?_,d5⟩
 obtain rfl:c=b:=r
 cases c <;> exact (rfl:_=_)
theorem sS:Sim prog w A E s φ cmp (get:StateT SortSt Sem SortSt) get:=by
 intro st ps b a q f e
 cases e
 exact ⟨st,st,f,f,rfl,fun Q q=>wpS_get q⟩
theorem dM {f g:SortSt->SortSt} (h:∀ st ps,Fol φ st ps->Fol φ (f st) (g ps)):Sim prog w A E s φ cmp (modify f:StateT SortSt Sem PUnit) (modify g):=by
 intro st ps b a q c e
 cases e
 exact ⟨_,_,rfl,h st ps c,rfl,fun Q q=>wpS_modify q⟩
theorem zD {c a:SortSt} (h:Fol φ c a):Sim prog w A E s φ cmp (set c:StateT SortSt Sem PUnit) (set a):=by
 intro st ps b a q d e
 cases e
 exact ⟨_,_,rfl,h,rfl,fun Q q=>Ea ⟨rfl,q⟩⟩
theorem dL {r:String}:Sim prog w A E s φ cmp (liftM (PySem.rule r:Sem Unit):StateT SortSt Sem Unit) (liftM (PySem.rule r:Sem Unit)):=by
 intro st ps b a q c e
 cases e
 exact ⟨_,st,rfl,c,rfl,fun Q q=>wpS_lift (wpAny_rule ⟨rfl,q⟩)⟩
theorem wr {arr:Array Keyed} {i:Nat}:Sim prog w A E s φ cmp (elem' (arr.map φ) i) (elem' arr i):=by
 rw [elem'_eq,elem'_eq]
 cases e:arr[i]? with
 | none=>exact cM
 | some x =>
  have:(arr.map φ)[i]?=some (φ x):=by rw [Array.getElem?_map,e];rfl
  rw [this]
  exact aL rfl
theorem bM [Rl φ α] {arr:Array Keyed} {i:Nat} {f g:Keyed->StateT SortSt Sem α} (k:∀ u,Sim prog w A E s φ cmp (f (φ u)) (g u)):Sim prog w A E s φ cmp (elem' (arr.map φ) i >>= f) (elem' arr i >>= g) :=
 cq wr fun u u' (hu:u = φ u')=>hu ▸ k u'
end
def lG (bs:List Addr) (x:Keyed):Keyed:=match x.1 with
 | .ref i=>(.ref (bs.getD i 0),.ref (bs.getD i 0))
 | _=>(.none,.none)
def bE (ns:List (List Int)) (i j:Nat):Option Bool:=match ns[i]?,ns[j]? with
 | some x,some y=>some (HT.lexLt x y)
 | _,_=>none
section
variable {prog:Program} {w:World} {A:Around} {E:Value->Shared->Prop} {s:Shared} {bs:List Addr} {ns:List (List Int)}
theorem p7 {v:Value} (h:∀ a,v ≠ .ref a):∃ t,Builtin.List.listItems v=Sem.unsupported t:=by
 cases v
 case ref a=>exact absurd rfl (h a)
 case builtin id =>
  by_cases b:(withoutEnding? id "#opaque").isSome=true
  ·have e:notAStandIn (.builtin id)=Sem.unsupported id:=if_pos b
   refine ⟨id,?_⟩
   show Sem.bind (Sem.bind (notAStandIn (.builtin id)) _) _=_
   rw [e]
   rfl
  ·have e:notAStandIn (.builtin id)=Sem.pure ():=if_neg b
   have c:Builtin.List.listItems (.builtin id)=Sem.bind (Sem.bind (notAStandIn (.builtin id)) _) _:=rfl
   rw [e] at c
   exact ⟨_,c⟩
 all_goals exact ⟨_,rfl⟩
theorem AL {v y:Value} (h:∀ a,v ≠ .ref a):∃ t,keyLt' (ba true) v y=Sem.unsupported t:=by
 obtain ⟨t,e⟩:=p7 h
 obtain ⟨G,e1⟩:∃ G,keyLt' (ba true) v y=(Builtin.List.listItems v).bind G:=⟨_,rfl⟩
 exact ⟨t,by rw [e1,e];rfl⟩
theorem AK {v:Value} {i:Addr} (h:∀ a,v ≠ .ref a):∃ t,keyLt' (ba true) (.ref i) v=(Builtin.List.listItems (.ref i)).bind fun _=>Sem.unsupported t:=by
 obtain ⟨t,e⟩:=p7 h
 obtain ⟨G,e1⟩:∃ G:Array Value->Array Value->Sem Bool,keyLt' (ba true) (.ref i) v=(Builtin.List.listItems (.ref i)).bind fun xs=>(Builtin.List.listItems v).bind (G xs):=⟨_,rfl⟩
 exact ⟨t,by rw [e1,e];rfl⟩
theorem uT {a b:Addr} {x y:List Int} {Q:Bool->Shared->Prop} (i:IsNts s.heap a x) (m:IsNts s.heap b y) (hu:A.units < cLine) (h:Q (HT.lexLt x y) s):wpAny (model prog w) A (oneLt' true (.ref a) (.ref b)) Q E s:=by
 obtain ⟨r,⟨⟨c1,e,t,f⟩,e1,c1,l,d1⟩,k⟩:=i
 obtain ⟨o,⟨⟨c2,c,p,d⟩,n,c2,j,g⟩,q⟩:=m
 simp only at c1 d1 c2 g
 subst c1 d1 c2 g
 rw [oneLt'_eq]
 simp only [if_true]
 refine DZ (wpAny_cRoomFor hu ?_)
 refine DZ (wpAny_callSpecialIfBound?_slot (T:="tuple") ⟨_,e1,rfl⟩ PySem.F.slot_tuple_lt (call_meets PySem.F.slot_tuple_lt (T:="tuple") ⟨_,e1,rfl⟩ PySem.F.entry_tuple_lt (PySem.F.args_tuple_lt_2 _ _) (HT.tuple_lt_ints a b r o l j e c f d x y k q) ⟨e1,n,?_⟩))
 exact ER h
theorem Cd (hu:A.units < cLine) (p:∀ (i:Nat) (n:List Int),ns[i]?=some n->IsNts s.heap (bs.getD i 0) n) (x y:Keyed):Sim prog w A E s (lG bs) (bE ns) (lt' (lG bs x) (lG bs y)) (lt' x y):=by
 intro st ps b c q f e
 obtain ⟨x1,z⟩:=x
 obtain ⟨o,v⟩:=y
 have l:=f.kind'
 cases ps with
 | mk k a pd g fl =>
 have l:k=ba true:=l
 subst l
 by_cases d:∀ a,x1 ≠ .ref a
 ·obtain ⟨t,h⟩:=AL (y:=o) d
  rw [lt'_eq] at e
  have e:ev (bE ns) (Sem.bind (Sem.bind (Sem.attempt (keyLt' (ba true) x1 o)) _) _) none=some ((b,c),q):=e
  rw [h] at e
  cases e
 ·by_cases r:∀ a,o ≠ .ref a
  ·obtain ⟨i,d⟩:=Classical.not_forall.mp d
   obtain rfl:x1=.ref i:=Classical.not_not.mp d
   obtain ⟨t,h⟩:=AK (i:=i) r
   rw [lt'_eq] at e
   have e:ev (bE ns) (Sem.bind (Sem.bind (Sem.attempt (keyLt' (ba true) (.ref i) o)) _) _) none=some ((b,c),q):=e
   rw [h] at e
   cases e
  ·obtain ⟨i,d⟩:=Classical.not_forall.mp d
   obtain rfl:x1=.ref i:=Classical.not_not.mp d
   obtain ⟨j,r⟩:=Classical.not_forall.mp r
   obtain rfl:o=.ref j:=Classical.not_not.mp r
   have e:(match bE ns i j with
    | some true=>some ((some true,SortSt.mk' (ba true) a pd g fl),none)
    | some false=>some ((some false,SortSt.mk' (ba true) a pd g fl),none)
    | none=>none)=some ((b,c),q):=e
   unfold bE at e
   cases e1:ns[i]? with
   | none=>rw [e1] at e;cases e
   | some n =>
    cases u:ns[j]? with
    | none=>rw [e1,u] at e;cases e
    | some m =>
     rw [e1,u] at e
     have e:(match some (HT.lexLt n m) with
      | some true=>some ((some true,SortSt.mk' (ba true) a pd g fl),none)
      | some false=>some ((some false,SortSt.mk' (ba true) a pd g fl),none)
      | none=>none)=some ((b,c),q):=e
     have e:some ((some (HT.lexLt n m),SortSt.mk' (ba true) a pd g fl),(none:Option Addr))=some ((b,c),q):=by
      rw [<- e]
      cases HT.lexLt n m <;> rfl
     cases e
     refine ⟨_,st,rfl,f,rfl,fun Q q=>?_⟩
     rw [lt'_eq]
     refine wpS_bind (wpS_get ?_)
     rcases f.kind with l | l <;> rw [l]
     ·refine wpS_bind (wpS_lift (wpAny_attempt (vh (p i n e1) (p j m u) ⟨rfl,?_⟩)))
      exact wpS_pure q
     ·rw [keyLt'_oneType]
      refine wpS_bind (wpS_lift (wpAny_attempt (uT (p i n e1) (p j m u) hu ⟨rfl,?_⟩)))
      exact wpS_pure q
end
end L2
end
section
namespace L2
open PySem PySem.Spec PyProof.Rows
def tX:Bool->Keyed->Array Keyed->Nat->Nat->Nat->StateT SortSt Sem (Option Nat):=sortPriv% PySem.Builtin.gallop
def pO:Array Keyed->Array Keyed->StateT SortSt Sem (Array Keyed):=sortPriv% PySem.Builtin.mergeLo
def pP:Array Keyed->Array Keyed->StateT SortSt Sem (Array Keyed):=sortPriv% PySem.Builtin.mergeHi
def wz:Nat->StateT SortSt Sem Unit:=sortPriv% PySem.Builtin.setMinGallop
section
variable {prog:Program} {w:World} {A:Around} {E:Value->Shared->Prop} {s:Shared} {φ:Keyed->Keyed} {cmp:Nat->Nat->Option Bool}
theorem mj {g:Nat}:Sim prog w A E s φ cmp (wz g) (wz g) :=
 dM fun st ps f=>⟨f.kind,f.kind',f.arr,f.pend,rfl,f.fail,f.fail'⟩
theorem iu {γ δ β:Type} [EqRl γ] [EqRl δ] [Rl φ β] {m p:StateT SortSt Sem (Option γ × δ)} {f g:Option γ × δ->StateT SortSt Sem β} (h:Sim prog w A E s φ cmp m p) (a:∀ d,Sim prog w A E s φ cmp (f (none,d)) (g (none,d))) (ks:∀ c d,Sim prog w A E s φ cmp (f (some c,d)) (g (some c,d))):Sim prog w A E s φ cmp (m >>= f) (p >>= g) :=
 aB h fun x=>match x with
  | (none,d)=>a d
  | (some c,d)=>ks c d
theorem o4 (a:∀ x y:Keyed,Sim prog w A E s φ cmp (lt' (φ x) (φ y)) (lt' x y)) {i j:Nat}:Sim prog w A E s φ cmp (ltAt' i j) (ltAt' i j):=by
 rw [ltAt'_eq]
 refine cq sS fun st ps f=>?_
 have e:arrOf st=(arrOf ps).map φ:=Fol.arr f
 dsimp only
 rw [e]
 exact bM fun u=>bM fun v=>a u v
theorem dl {β:Type} (p q:β->Nat):∀ (l:List β) (xs:Array Keyed),l.foldl (fun a k=>a.swapIfInBounds (p k) (q k)) (xs.map φ)=(l.foldl (fun a k=>a.swapIfInBounds (p k) (q k)) xs).map φ
 | [],xs=>rfl
 | k :: l,xs=>by
  rw [List.foldl_cons,List.foldl_cons,<- dl p q l]
  congr 1
  apply Array.ext_getElem?
  intro i
  rw [Array.getElem?_map]
  by_cases h1:p k < xs.size
  ·by_cases h2:q k < xs.size
   ·rw [getElem?_swapIB (by simpa using h1) (by simpa using h2),getElem?_swapIB h1 h2]
    simp only [Array.getElem?_map]
    repeat' split
    all_goals rfl
   ·rw [Array.swapIfInBounds_def,Array.swapIfInBounds_def,dif_pos (by simpa using h1),dif_neg (by simpa using h2),dif_pos h1,dif_neg h2,Array.getElem?_map]
  ·rw [Array.swapIfInBounds_def,Array.swapIfInBounds_def,dif_neg (by simpa using h1),dif_neg h1,Array.getElem?_map]
theorem sQ {i j:Nat}:Sim prog w A E s φ cmp (reverseSlice' i j) (reverseSlice' i j):=by
 rw [reverseSlice'_eq]
 refine dM fun st ps f=>⟨f.kind,f.kind',?_,f.pend,f.mg,f.fail,f.fail'⟩
 show mirror (arrOf st) _ _ _=(mirror (arrOf ps) _ _ _).map φ
 rw [f.arr]
 exact dl _ _ _ _
theorem o5 {i j:Nat}:Sim prog w A E s φ cmp (moveDown' i j) (moveDown' i j):=by
 rw [moveDown'_eq]
 refine dM fun st ps f=>⟨f.kind,f.kind',?_,f.pend,f.mg,f.fail,f.fail'⟩
 show bubble (arrOf st) _ _=(bubble (arrOf ps) _ _).map φ
 rw [f.arr]
 exact dl _ _ _ _
theorem zF (a:∀ x y:Keyed,Sim prog w A E s φ cmp (lt' (φ x) (φ y)) (lt' x y)) {lo n ok:Nat}:Sim prog w A E s φ cmp (binarySort' lo n ok) (binarySort' lo n ok):=by
 rw [binarySort'_eq]
 repeat' first
  | exact aL rfl
  | exact cM
  | refine bF (fun _=>?_) (fun _=>?_)
  | (refine bB (o4 a) ?_ (fun u=>?_) <;> try dsimp only)
  | (refine aB sQ (fun u=>?_);try dsimp only)
  | (refine aB o5 (fun u=>?_);try dsimp only)
  | (refine aB dL (fun u=>?_);try dsimp only)
  | (refine iu (ir fun i x=>?_) (fun d=>?_) (fun c d=>?_) <;> try dsimp only)
  | (refine aB (ir fun i x=>?_) (fun x=>?_) <;> try dsimp only)
theorem zE (a:∀ x y:Keyed,Sim prog w A E s φ cmp (lt' (φ x) (φ y)) (lt' x y)) {lo n:Nat}:Sim prog w A E s φ cmp (countRun' lo n) (countRun' lo n):=by
 rw [countRun'_eq]
 repeat' first
  | exact aL rfl
  | exact cM
  | refine bF (fun _=>?_) (fun _=>?_)
  | (refine bB (o4 a) ?_ (fun u=>?_) <;> try dsimp only)
  | (refine aB sQ (fun u=>?_);try dsimp only)
  | (refine aB o5 (fun u=>?_);try dsimp only)
  | (refine aB dL (fun u=>?_);try dsimp only)
  | (refine iu (ir fun i x=>?_) (fun d=>?_) (fun c d=>?_) <;> try dsimp only)
  | (refine aB (ir fun i x=>?_) (fun x=>?_) <;> try dsimp only)
end
end L2
end
section
namespace L2
open PySem PySem.Spec PyProof.Rows
section
variable {prog:Program} {w:World} {A:Around} {E:Value->Shared->Prop} {s:Shared} {φ:Keyed->Keyed} {cmp:Nat->Nat->Option Bool}
theorem fy (a:∀ x y:Keyed,Sim prog w A E s φ cmp (lt' (φ x) (φ y)) (lt' x y)) {left:Bool} {key:Keyed} {arr:Array Keyed} {base n hint:Nat}:Sim prog w A E s φ cmp (tX left (φ key) (arr.map φ) base n hint) (tX left key arr base n hint):=by
 refine bB (bM fun u=>bF (fun _=>a _ _) (fun _=>aB (a _ _) fun r=>aL rfl)) (aL rfl) (fun u=>?_)
 dsimp only
 repeat' first
  | exact aL rfl
  | refine bF (fun _=>?_) (fun _=>?_)
  | (refine bB (bM fun u=>bF (fun _=>a _ _) (fun _=>aB (a _ _) fun r=>aL rfl)) ?_ (fun u=>?_) <;> try dsimp only)
  | (refine iu (ir fun i x=>?_) (fun d=>?_) (fun c d=>?_) <;> try dsimp only)
end
end L2
end
section
namespace L2
open PySem PySem.Spec PyProof.Rows
section
variable {prog:Program} {w:World} {A:Around} {E:Value->Shared->Prop} {s:Shared} {φ:Keyed->Keyed} {cmp:Nat->Nat->Option Bool}
theorem j8 {α:Type} [EqRl α] {a:α}:@Rl.rel φ α rlE a a:=rfl
theorem gp {X Y:Array Keyed} (h:X=Y.map φ):Rl.rel φ X Y:=h
theorem eA {α:Type} [Rl φ α] {a b:α} (h:Rl.rel φ a b):@Rl.rel φ _ rlO (some a) (some b):=h
theorem eC {α:Type} [Rl φ α]:@Rl.rel φ _ rlO (none:Option α) none:=trivial
theorem eD {α:Type} [Rl φ α] {a b:α} (h:Rl.rel φ a b):@Rl.rel φ _ rlF (ForInStep.done a) (ForInStep.done b):=h
theorem cY {α:Type} [Rl φ α] {a b:α} (h:Rl.rel φ a b):@Rl.rel φ _ rlF (ForInStep.yield a) (ForInStep.yield b):=h
theorem eB {α β:Type} [Rl φ α] [Rl φ β] {a b:α} {c d:β} (h:Rl.rel φ a b) (h':Rl.rel φ c d):@Rl.rel φ _ rlP (a,c) (b,d):=⟨h,h'⟩
theorem wq {γ : Type} [EqRl γ] {a b : Nat} {x y : Option (Array Keyed) × Array Keyed × γ} {f g : Nat -> Option (Array Keyed) × Array Keyed × γ -> StateT SortSt Sem (ForInStep (Option (Array Keyed) × Array Keyed × γ))} (r : Rl.rel φ x y)
    (h : ∀ i o d c, Sim prog w A E s φ cmp (f i (o.map (Array.map φ), d.map φ, c)) (g i (o, d, c))) : Sim prog w A E s φ cmp (forIn [a:b] x f) (forIn [a:b] y g) := by
  refine fA r fun i x y r => ?_
  obtain ⟨x1, u, e⟩ := x
  obtain ⟨t, j, l⟩ := y
  obtain ⟨k, n, m⟩ := r
  obtain rfl : u = j.map φ := n
  obtain rfl : e = l := m
  cases x1 <;> cases t <;> first | exact False.elim k | skip
  · exact h i none j e
  · rename_i p q
    obtain rfl : p = q.map φ := k
    exact h i (some q) j e
theorem uC {γ β : Type} [EqRl γ] [Rl φ β] {m p : StateT SortSt Sem (Option (Array Keyed) × Array Keyed × γ)} {f g : Option (Array Keyed) × Array Keyed × γ -> StateT SortSt Sem β} (h : Sim prog w A E s φ cmp m p) (k : ∀ d c, Sim prog w A E s φ cmp (f (none, d.map φ, c)) (g (none, d, c))) (ks : ∀ r d c, Sim prog w A E s φ cmp (f (some (r.map φ), d.map φ, c)) (g (some r, d, c))) : Sim prog w A E s φ cmp (m >>= f) (p >>= g) := by
  refine cq h fun x y r => ?_
  obtain ⟨x1, o, a⟩ := x
  obtain ⟨n, b, i⟩ := y
  obtain ⟨e, l, j⟩ := r
  obtain rfl : o = b.map φ := l
  obtain rfl : a = i := j
  cases x1 <;> cases n <;> first | exact False.elim e | skip
  · exact k b a
  · rename_i p q
    obtain rfl : p = q.map φ := e
    exact ks q b a
theorem cN {β:Type} [Rl φ β] {f g:SortSt->StateT SortSt Sem β} (k:∀ st ps,Fol φ st ps->Sim prog w A E s φ cmp (f st) (g ps)):Sim prog w A E s φ cmp (get >>= f) (get >>= g) :=
 cq sS fun st ps a=>k st ps a
theorem oZ (e:∀ x y:Keyed,Sim prog w A E s φ cmp (lt' (φ x) (φ y)) (lt' x y)) (a b:Array Keyed):Sim prog w A E s φ cmp (pO (a.map φ) (b.map φ)) (pO a b):=by
 refine aB dL fun _=>?_
 refine bM fun y=>?_
 simp only [Array.size_map]
 refine bF (fun _=>aL (by (repeat' first | with_reducible exact eC | with_reducible apply eD | with_reducible apply cY | with_reducible apply eA | (with_reducible apply gp;simp only [Array.map_append,Array.map_push,Array.map_extract,Array.map_reverse,List.map_toArray,Ey,List.map_nil];done) | with_reducible apply eB | with_reducible exact j8))) fun _=>?_
 refine bF (fun _=>aL (by (repeat' first | with_reducible exact eC | with_reducible apply eD | with_reducible apply cY | with_reducible apply eA | (with_reducible apply gp;simp only [Array.map_append,Array.map_push,Array.map_extract,Array.map_reverse,List.map_toArray,Ey,List.map_nil];done) | with_reducible apply eB | with_reducible exact j8))) fun _=>?_
 refine cN fun st ps g=>?_
 have f:=g.mg
 simp only [gallopOf] at f
 rw [f]
 repeat' first
  | exact aL (by (repeat' first | with_reducible exact eC | with_reducible apply eD | with_reducible apply cY | with_reducible apply eA | (with_reducible apply gp;simp only [Array.map_append,Array.map_push,Array.map_extract,Array.map_reverse,List.map_toArray,Ey,List.map_nil];done) | with_reducible apply eB | with_reducible exact j8))
  | exact cM
  | refine bF (fun _=>?_) (fun _=>?_)
  | refine aB mj (fun _=>?_)
  | refine aB dL (fun _=>?_)
  | refine bM fun u=>?_
  | (refine bB (fy e) ?_ (fun u=>?_) <;> try dsimp only)
  | (refine bB (e _ _) ?_ (fun u=>?_) <;> try dsimp only)
  | (refine uC (wq (by (repeat' first | with_reducible exact eC | with_reducible apply eD | with_reducible apply cY | with_reducible apply eA | (with_reducible apply gp;simp only [Array.map_append,Array.map_push,Array.map_extract,Array.map_reverse,List.map_toArray,Ey,List.map_nil];done) | with_reducible apply eB | with_reducible exact j8)) fun i o d c=>?_) (fun d c=>?_) (fun r d c=>?_) <;> try dsimp only)
end
end L2
end
section
namespace L2
open PySem PySem.Spec PyProof.Rows
section
variable {prog:Program} {w:World} {A:Around} {E:Value->Shared->Prop} {s:Shared} {φ:Keyed->Keyed} {cmp:Nat->Nat->Option Bool}
theorem wo {γ : Type} [EqRl γ] {a b : Nat} {x y : Option (Array Keyed) × Nat × Nat × Array Keyed × γ} {f g : Nat -> Option (Array Keyed) × Nat × Nat × Array Keyed × γ -> StateT SortSt Sem (ForInStep (Option (Array Keyed) × Nat × Nat × Array Keyed × γ))} (r : Rl.rel φ x y)
    (h : ∀ i o m n d c, Sim prog w A E s φ cmp (f i (o.map (Array.map φ), m, n, d.map φ, c)) (g i (o, m, n, d, c))) : Sim prog w A E s φ cmp (forIn [a:b] x f) (forIn [a:b] y g) := by
  refine fA r fun i x y r => ?_
  obtain ⟨x1, C, F, H, e⟩ := x
  obtain ⟨G, t, v, j, u⟩ := y
  obtain ⟨k, l, B, D, z⟩ := r
  obtain rfl : C = t := l
  obtain rfl : F = v := B
  obtain rfl : H = j.map φ := D
  obtain rfl : e = u := z
  cases x1 <;> cases G <;> first | exact False.elim k | skip
  · exact h i none _ _ j e
  · rename_i p q
    obtain rfl : p = q.map φ := k
    exact h i (some q) _ _ j e
theorem uB {γ β : Type} [EqRl γ] [Rl φ β] {m p : StateT SortSt Sem (Option (Array Keyed) × Nat × Nat × Array Keyed × γ)} {f g : Option (Array Keyed) × Nat × Nat × Array Keyed × γ -> StateT SortSt Sem β} (h : Sim prog w A E s φ cmp m p) (u : ∀ m n d c, Sim prog w A E s φ cmp (f (none, m, n, d.map φ, c)) (g (none, m, n, d, c))) (ks : ∀ r m n d c, Sim prog w A E s φ cmp (f (some (r.map φ), m, n, d.map φ, c)) (g (some r, m, n, d, c))) : Sim prog w A E s φ cmp (m >>= f) (p >>= g) := by
  refine cq h fun x y r => ?_
  obtain ⟨x1, v, B, D, a⟩ := x
  obtain ⟨C, j, l, b, k⟩ := y
  obtain ⟨e, i, t, z, o⟩ := r
  obtain rfl : v = j := i
  obtain rfl : B = l := t
  obtain rfl : D = b.map φ := z
  obtain rfl : a = k := o
  cases x1 <;> cases C <;> first | exact False.elim e | skip
  · exact u _ _ b a
  · rename_i p q
    obtain rfl : p = q.map φ := e
    exact ks q _ _ b a
theorem o0 (e:∀ x y:Keyed,Sim prog w A E s φ cmp (lt' (φ x) (φ y)) (lt' x y)) (a b:Array Keyed):Sim prog w A E s φ cmp (pP (a.map φ) (b.map φ)) (pP a b):=by
 refine aB dL fun _=>?_
 simp only [Array.size_map]
 refine bM fun y=>?_
 refine bF (fun _=>aL (by (repeat' first | with_reducible exact eC | with_reducible apply eD | with_reducible apply cY | with_reducible apply eA | (with_reducible apply gp;simp only [Array.map_append,Array.map_push,Array.map_extract,Array.map_reverse,List.map_toArray,Ey,List.map_nil];done) | with_reducible apply eB | with_reducible exact j8))) fun _=>?_
 refine bF (fun _=>aL (by (repeat' first | with_reducible exact eC | with_reducible apply eD | with_reducible apply cY | with_reducible apply eA | (with_reducible apply gp;simp only [Array.map_append,Array.map_push,Array.map_extract,Array.map_reverse,List.map_toArray,Ey,List.map_nil];done) | with_reducible apply eB | with_reducible exact j8))) fun _=>?_
 refine cN fun st ps g=>?_
 have f:=g.mg
 simp only [gallopOf] at f
 rw [f]
 repeat' first
  | exact aL (by (repeat' first | with_reducible exact eC | with_reducible apply eD | with_reducible apply cY | with_reducible apply eA | (with_reducible apply gp;simp only [Array.map_append,Array.map_push,Array.map_extract,Array.map_reverse,List.map_toArray,Ey,List.map_nil];done) | with_reducible apply eB | with_reducible exact j8))
  | exact cM
  | refine bF (fun _=>?_) (fun _=>?_)
  | refine aB mj (fun _=>?_)
  | refine aB dL (fun _=>?_)
  | refine bM fun u=>?_
  | (refine bB (fy e) ?_ (fun u=>?_) <;> try dsimp only)
  | (refine bB (e _ _) ?_ (fun u=>?_) <;> try dsimp only)
  | (refine uB (wo (by (repeat' first | with_reducible exact eC | with_reducible apply eD | with_reducible apply cY | with_reducible apply eA | (with_reducible apply gp;simp only [Array.map_append,Array.map_push,Array.map_extract,Array.map_reverse,List.map_toArray,Ey,List.map_nil];done) | with_reducible apply eB | with_reducible exact j8)) fun i o m n d c=>?_) (fun m n d c=>?_) (fun r m n d c=>?_) <;> try dsimp only)
end
end L2
end
section
namespace L2
open PySem PySem.Spec PyProof.Rows
section
variable {prog:Program} {w:World} {A:Around} {E:Value->Shared->Prop} {s:Shared} {φ:Keyed->Keyed} {cmp:Nat->Nat->Option Bool}
theorem mW {G:Array Keyed->Keyed × Nat->Array Keyed} (b:∀ a p j,G (a.map φ) (φ p,j)=(G a (p,j)).map φ):∀ (l:List (Keyed × Nat)) (xs:Array Keyed),(l.map fun x=>(φ x.1,x.2)).foldl G (xs.map φ)=(l.foldl G xs).map φ
 | [],xs=>rfl
 | (p,j) :: l,xs=>by
  rw [Ey,List.foldl_cons,List.foldl_cons,<- mW b l]
  dsimp only
  rw [b]
theorem sR {m:Array Keyed} {G:Array Keyed->Keyed × Nat->Array Keyed} {f:SortSt->Array Keyed->SortSt} (hf:∀ st X,f st X=setArr st (X.toList.zipIdx.foldl G (arrOf st))) (c:∀ a p j,G (a.map φ) (φ p,j)=(G a (p,j)).map φ):Sim prog w A E s φ cmp (modify fun st=>f st (m.map φ)) (modify fun st=>f st m):=by
 refine dM fun st ps b=>?_
 rw [hf,hf]
 refine ⟨b.kind,b.kind',?_,b.pend,b.mg,b.fail,b.fail'⟩
 show _=Array.map φ (m.toList.zipIdx.foldl G (arrOf ps))
 rw [<- mW c,<- b.arr]
 show (m.map φ).toList.zipIdx.foldl G (arrOf st)=_
 congr 1
 rw [Array.toList_map,List.zipIdx_map]
 rfl
theorem mm {β:Type} [Rl φ β] {m p:StateT SortSt Sem (Array Keyed)} {f g:Array Keyed->StateT SortSt Sem β} (h:Sim prog w A E s φ cmp m p) (k:∀ d,Sim prog w A E s φ cmp (f (d.map φ)) (g d)):Sim prog w A E s φ cmp (m >>= f) (p >>= g):=by
 refine cq h fun x y (r:x=y.map φ)=>?_
 rw [r]
 exact k y
theorem o3 (e:∀ x y:Keyed,Sim prog w A E s φ cmp (lt' (φ x) (φ y)) (lt' x y)) (i:Nat):Sim prog w A E s φ cmp (mergeAt' i) (mergeAt' i):=by
 refine cN fun st ps c=>?_
 have h1:=c.arr
 have h2:=c.pend
 simp only [arrOf,pendingOf] at h1 h2
 rw [h2]
 generalize (pendingOf ps)[i]?=a
 generalize (pendingOf ps)[i+1]?=b
 cases a with
 | none=>exact cM
 | some a =>
 cases b with
 | none=>exact cM
 | some b =>
 obtain ⟨sa,na,h⟩:=a
 obtain ⟨sb,nb,g⟩:=b
 refine aB (zD ⟨c.kind,c.kind',c.arr,rfl,c.mg,c.fail,c.fail'⟩) fun _=>?_
 rw [h1]
 refine bM fun u=>?_
 refine bB (fy e) (aL rfl) fun k=>?_
 refine bF (fun _=>aL rfl) fun _=>?_
 refine bM fun u=>?_
 refine bB (fy e) (aL rfl) fun k=>?_
 refine bF (fun _=>aL rfl) fun _=>?_
 simp only [<- Array.map_extract]
 refine bF (fun _=>?_) fun _=>?_
 ·refine mm (oZ e _ _) fun d=>aB (sR (fun _ _=>rfl) fun _ _ _=>Array.map_setIfInBounds.symm) fun _=>cN fun st ps f=>aL ?_
  show (failedOf st).isNone=(failedOf ps).isNone
  rw [f.fail,f.fail']
 ·refine mm (o0 e _ _) fun d=>aB (sR (fun _ _=>rfl) fun _ _ _=>Array.map_setIfInBounds.symm) fun _=>cN fun st ps f=>aL ?_
  show (failedOf st).isNone=(failedOf ps).isNone
  rw [f.fail,f.fail']
theorem oY {f:SortSt->SortSt} (F:Array (Nat × Nat × Nat)->Array (Nat × Nat × Nat)) (hf:∀ st,f st=setPending st (F (pendingOf st))):Sim prog w A E s φ cmp (modify f) (modify f) :=
 dM fun st ps a=>by
  rw [hf,hf]
  exact ⟨a.kind,a.kind',a.arr,congrArg F a.pend,a.mg,a.fail,a.fail'⟩
theorem wm (a:∀ x y:Keyed,Sim prog w A E s φ cmp (lt' (φ x) (φ y)) (lt' x y)):Sim prog w A E s φ cmp sortRuns' sortRuns':=by
 rw [sortRuns'_eq]
 refine cN fun st ps b=>?_
 have hsz:(arrOf st).size=(arrOf ps).size:=by rw [b.arr,Array.size_map]
 dsimp only
 rw [hsz]
 generalize (arrOf ps).size=n
 repeat' first
  | exact aL rfl
  | refine bF (fun _=>?_) (fun _=>?_)
  | (refine bB (zE a) ?_ (fun u=>?_) <;> try dsimp only)
  | (refine aB (zF a) (fun u=>?_);try dsimp only)
  | (refine aB (o3 a _) (fun u=>?_);try dsimp only)
  | (refine aB dL (fun u=>?_);try dsimp only)
  | (refine aB (oY (fun p=>p.push _) fun _=>rfl) (fun u=>?_);try dsimp only)
  | (refine aB (oY (fun p=>p.modify (p.size - 1) _) fun _=>rfl) (fun u=>?_);try dsimp only)
  | (refine cN fun st ps b=>?_;rw [b.pend];generalize pendingOf ps=p;try dsimp only)
  | (refine iu (ir fun i x=>?_) (fun d=>?_) (fun c d=>?_) <;> try dsimp only)
  | (generalize Array.back? _=d;rcases d with _ | ⟨s1,e,x⟩ <;> dsimp only)
  | (generalize (if p.size > 1 then p[p.size - 2]? else none)=d;rcases d with _ | ⟨s1,e,x⟩ <;> dsimp only)
end
end L2
end
section
namespace L2
open PySem PySem.Spec PyProof.Rows
def mJ (n:Nat):Array Keyed:=((List.range n).map fun i=>((Value.ref i,Value.ref i):Keyed)).toArray
def lh (x:Keyed):Option Nat:=match x.1 with
 | .ref i=>some i
 | _=>none
def bA (ns:List (List Int)):Option (List Nat) :=
 match ev (bE ns) (sortRuns'.run (SortSt.mk' (ba true) (mJ ns.length) #[] 7 none)) none with
 | some ((_,st),_)=>(arrOf st).toList.mapM lh
 | none=>none
end L2
end
section
namespace L2
open PySem PySem.Spec PyProof.Rows
structure NRs (h:Heap) (bs:List Addr) (ns:List (List Int)):Prop where
 len:ns.length=bs.length
 at':∀ (i:Nat) (b:Addr) (n:List Int),bs[i]?=some b->ns[i]?=some n->IsNts h b n
theorem NRs.tail {h:Heap} {b:Addr} {bs:List Addr} {n:List Int} {ns:List (List Int)} (r:NRs h (b :: bs) (n :: ns)):NRs h bs ns :=
 ⟨by simpa using r.len,fun i b n e1 a=>r.at' (i+1) b n (by simpa using e1) (by simpa using a)⟩
theorem NRs.keep {h h':Heap} {bs:List Addr} {ns:List (List Int)} (r:NRs h bs ns) (k:∀ b ∈ bs,∀ o,h.get? b=some o->h'.get? b=some o):NRs h' bs ns :=
 ⟨r.len,fun i b n e1 a=>(r.at' i b n e1 a).at (k b (Ep e1))⟩
theorem NRs.mem {h:Heap} {bs:List Addr} {ns:List (List Int)} (r:NRs h bs ns):∀ b ∈ bs,∃ n ∈ ns,IsNts h b n:=fun b c=>by
 obtain ⟨i,hi⟩:=List.getElem?_of_mem c
 have a:i < ns.length:=by rw [r.len];exact (Eo.mp hi).1
 exact ⟨ns[i],List.getElem_mem _,r.at' i b _ hi (Ej a)⟩
def kOk (ns:List (List Int)):Prop:=(∀ n ∈ ns,n ≠ [])\/ns.head?=some []
theorem qW:bA []=some []:=by kernel_rfl
theorem qV (n:List Int):bA [n]=some [0]:=by kernel_rfl
section
variable {prog:Program} {w:World} {A:Around} {E:Value->Shared->Prop} {s:Shared}
theorem yE {b:Addr} {Q:Option Value->Shared->Prop} (a:IsNts s.heap b []) (h:Q none s):wpAny (model prog w) A (firstOfTuple' (.ref b)) Q E s:=by
 obtain ⟨it,⟨o,e,c,k,d⟩,j⟩:=a
 refine DZ (wpAny_typeOf (T:="tuple") ⟨o,e,c⟩ ?_)
 rw [if_neg (by decide)]
 refine DZ (listItems_at e d ?_)
 have:it[0]?=none:=by
  rw [<- Array.getElem?_toList]
  generalize it.toList=l at j
  cases j
  rfl
 rw [this]
 exact Ea h
theorem iT {Q:List (Option Value)->Shared->Prop}:∀ (bs:List Addr) (ns:List (List Int)),NRs s.heap bs ns->(∀ os:List (Option Value),(ns.head?=some []->os.head?=some none)->Q os s) ->
  wpAny (model prog w) A ((bs.map Value.ref).mapM firstOfTuple') Q E s
 | [],[],_,q=>by
  simp only [List.map_nil,List.mapM_nil]
  exact Ea (q [] fun h=>by cases h)
 | [],_ :: _,r,_=>by have:=r.len;cases this
 | _ :: _,[],r,_=>by have:=r.len;cases this
 | b :: bs,n :: ns,r,q=>by
  rw [Ey,List.mapM_cons]
  have a:=r.at' 0 b n rfl rfl
  cases n with
  | nil=>exact DZ (yE a (DZ (iT bs ns r.tail fun os _=>Ea (q (none :: os) fun _=>rfl))))
  | cons i n=>exact DZ (mZ a (by simp) fun j t=>DZ (iT bs ns r.tail fun os _=>Ea (q (some (.int j t) :: os) fun h=>by simp at h)))
theorem l8 {Q:List Value->Shared->Prop}:∀ (bs:List Addr) (ns:List (List Int)),NRs s.heap bs ns->Q (bs.map fun _=>.type "tuple") s->wpAny (model prog w) A ((bs.map Value.ref).mapM typeOf) Q E s
 | [],_,_,q=>by
  simp only [List.map_nil,List.mapM_nil]
  exact Ea q
 | _ :: _,[],r,_=>by have:=r.len;cases this
 | b :: bs,n :: ns,r,q=>by
  rw [Ey,List.mapM_cons]
  obtain ⟨it,⟨o,e,c,k,d⟩,j⟩:=r.at' 0 b n rfl rfl
  exact DZ (wpAny_typeOf (T:="tuple") ⟨o,e,c⟩ (DZ (l8 bs ns r.tail (Ea q))))
theorem yj {bs:List Addr} {ns:List (List Int)} {Q:SortKind->Shared->Prop} (h2:bs ≠ []) (r:NRs s.heap bs ns) (a:kOk ns) (h:∀ k,rG k->Q k s):wpAny (model prog w) A (keyKind' (bs.map Value.ref).toArray) Q E s:=by
 rcases a with a | a
 ·refine yi h2 (fun b f=>?_) (h _ (.inl rfl))
  obtain ⟨n,e,x⟩:=r.mem b f
  exact ⟨n,a n e,x⟩
 ·rw [keyKind'_eq,List.mapM_toArray]
  refine DZ ?_
  rw [map_eq_pure_bind]
  refine DZ (iT bs ns r fun os d=>Ea ?_)
  have d:=d a
  obtain ⟨os,rfl⟩:∃ l,os=none :: l:=by
   cases os with
   | nil=>cases d
   | cons x l=>cases d;exact ⟨l,rfl⟩
  rw [if_neg (by simp),if_neg (by simp),oneTypeOnly'_eq,List.mapM_toArray]
  refine DZ (DZ ?_)
  rw [map_eq_pure_bind]
  refine DZ (l8 bs ns r (Ea ?_))
  have h0:(List.map (fun _:Addr=>Value.type "tuple") bs).toArray[0]?=some (Value.type "tuple"):=by
   cases bs with
   | nil=>exact absurd rfl h2
   | cons b bs=>simp
  have c:((List.map (fun _:Addr=>Value.type "tuple") bs).toArray.all fun x=>x == Value.type "tuple")=true:=by
   simp only [List.all_toArray,List.all_map,List.all_eq_true]
   intro _ _
   rfl
  rw [h0]
  dsimp only
  rw [if_pos c]
  exact Ea (Ea (h _ (.inr rfl)))
theorem uS (bs:List Addr):(bs.map Value.ref).toArray.zip (bs.map Value.ref).toArray=(mJ bs.length).map (lG bs):=by
 apply Array.ext_getElem?
 intro i
 rw [List.zip_toArray,Array.getElem?_map]
 unfold mJ
 simp only [List.getElem?_toArray,Et]
 by_cases hi:i < bs.length
 ·rw [List.getElem?_range hi]
  have e:bs[i]?=some bs[i]:=Ej hi
  have:((bs.map Value.ref).zip (bs.map Value.ref))[i]?=some (Value.ref bs[i],Value.ref bs[i]):=by
   simp [List.getElem?_zip_eq_some,e]
  rw [this]
  simp [lG,List.getD,e]
 ·rw [List.getElem?_eq_none (by simp;omega),List.getElem?_eq_none (by simp;omega)]
  rfl
theorem pH {bs:List Addr}:∀ {l:List Keyed} {is:List Nat},l.mapM lh=some is->l.map (fun x=>(lG bs x).2)=is.map fun i=>Value.ref (bs.getD i 0)
 | [],is,h=>by cases h;rfl
 | x :: l,is,h=>by
  rw [List.mapM_cons] at h
  obtain ⟨i,e1,h⟩:=EI.mp h
  obtain ⟨a,c,h⟩:=EI.mp h
  cases h
  rw [Ey,Ey,pH c]
  congr 1
  unfold lh at e1
  unfold lG
  cases b:x.1 <;> rw [b] at e1 <;> cases e1
  rfl
theorem uF {bs:List Addr} {ns:List (List Int)} {is:List Nat} {k:SortKind} {Q:Unit->SortSt->Prop} (hu:A.units < cLine) (r:NRs s.heap bs ns) (g:rG k) (c:bA ns=some is)
  (h:∀ b,(arrOf b).map (·.2)=(is.map fun i=>Value.ref (bs.getD i 0)).toArray->failedOf b=none->Q () b) :
  wpS (model prog w) A E s sortRuns' Q (SortSt.mk' k ((bs.map Value.ref).toArray.zip (bs.map Value.ref).toArray) #[] 7 none):=by
 unfold bA at c
 cases e:ev (bE ns) (sortRuns'.run (SortSt.mk' (ba true) (mJ ns.length) #[] 7 none)) none with
 | none=>rw [e] at c;cases c
 | some p =>
  obtain ⟨⟨u,ps⟩,q⟩:=p
  rw [e] at c
  have c:(arrOf ps).toList.mapM lh=some is:=c
  have j:∀ (i:Nat) (n:List Int),ns[i]?=some n->IsNts s.heap (bs.getD i 0) n:=fun i n e=>by
   have hi:i < bs.length:=by rw [<- r.len];exact (Eo.mp e).1
   have d:bs[i]?=some bs[i]:=Ej hi
   rw [List.getD,d]
   exact r.at' i _ n d e
  obtain ⟨a,b,_,f,_,hw⟩:=wm (Cd (prog:=prog) (w:=w) (E:=E) hu j) (SortSt.mk' k ((bs.map Value.ref).toArray.zip (bs.map Value.ref).toArray) #[] 7 none) (SortSt.mk' (ba true) (mJ ns.length) #[] 7 none) u ps q
   ⟨g,rfl,by rw [r.len];exact uS bs,rfl,rfl,rfl,rfl⟩ e
  refine hw _ (h b ?_ f.fail)
  rw [f.arr,Array.map_map]
  apply Array.ext'
  rw [Array.toList_map]
  exact pH c
theorem wk {a:Addr} {bs:List Addr} {ns:List (List Int)} {is:List Nat} {n:Nat} {P:Fin->Shared->Prop} (hu:A.units < cLine) (p:s.heap.get? a=some (seqObj "list" (bs.map Value.ref).toArray n)) (r:NRs s.heap bs ns) (q:kOk ns) (j:bA ns=some is) (hsz:bs.length<=sizeLine) (v:is.length<=sizeLine)
  (h:P (.done (.ret .none)) { s with heap:=sortedHeap s.heap a (bs.map Value.ref) (is.map fun i=>Value.ref (bs.getD i 0)).toArray }) :
  wpAny (model prog w) A (Builtin.«list.sort» ⟨[.ref a],[]⟩) P E s:=by
 rw [list_sort_plain]
 have D:a < s.heap.objs.size:=Ek p
 have hsz2:(bs.map Value.ref).toArray.size<=sizeLine:=by simpa using hsz
 have g:(is.map fun i=>Value.ref (bs.getD i 0)).toArray.size<=sizeLine:=by simpa using v
 have u:∀ b ∈ bs,b ≠ a:=fun b t z=>by
  obtain ⟨m,_,it,⟨o,e1,c,_⟩,_⟩:=r.mem b t
  rw [z,p] at e1
  cases e1
  have c:Value.type "list"=Value.type "tuple":=c
  injection c with c
  exact absurd c (by decide)
 refine DZ (listItems_at p rfl ?_)
 refine DZ (listUpdate_at p rfl ?_)
 obtain ⟨e1,l⟩:∃ e1,(s.heap.update a (Obj.mapSeq fun _=>#[])).get? a=some (seqObj "list" #[] e1):=⟨_,get?_update_seq p (fun _=>#[])⟩
 refine DZ (seqEpoch_at l rfl ?_)
 refine DZ (wpAny_newTuple ?_)
 refine DZ (wpAny_newList ?_)
 refine Eb ?_
 have d:(((s.heap.update a (Obj.mapSeq fun _=>#[])).push (seqObj "tuple" (bs.map Value.ref).toArray 0)).push (seqObj "list" #[] 0)).get? a=some (seqObj "list" #[] e1) :=
  Ee _ (Ee _ l)
 have y:NRs (((s.heap.update a (Obj.mapSeq fun _=>#[])).push (seqObj "tuple" (bs.map Value.ref).toArray 0)).push (seqObj "list" #[] 0)) bs ns:=r.keep fun b t o e =>
  Ee _ (Ee _ ((EO _ _ (Ne.symm (u b t))).trans e))
 show wpAny (model prog w) A _ P E { s with heap:=((s.heap.update a (Obj.mapSeq fun _=>#[])).push (seqObj "tuple" (bs.map Value.ref).toArray 0)).push (seqObj "list" #[] 0) }
 dsimp only
 by_cases h2:(bs.map Value.ref).toArray.size < 2
 ·rw [if_pos h2,if_pos h2]
  refine DZ (Ea ?_)
  rw [StateT.run_pure]
  refine DZ (Ea ?_)
  dsimp only
  have out:((bs.map Value.ref).toArray.zip (bs.map Value.ref).toArray).map (·.2)=(is.map fun i=>Value.ref (bs.getD i 0)).toArray:=by
   have B:=r.len
   match bs,ns,B,h2 with
   | [],[],_,_=>rw [qW] at j;cases j;simp
   | [b],[n],_,_=>rw [qV] at j;cases j;simp [List.zip_toArray]
   | _ :: _ :: _,_,_,h2=>simp at h2;omega
  refine DZ (seqEpoch_at d rfl ?_)
  show wpAny _ _ (Builtin.List.listUpdate (.ref a) (fun _=>((bs.map Value.ref).toArray.zip (bs.map Value.ref).toArray).map (·.2)) >>= _) _ _ _
  rw [out]
  refine DZ (listUpdate_at d rfl ?_ (hsz2:=Nat.le_succ_of_le g))
  simp only [bne_self_eq_false,EK,if_false]
  exact Ea h
 ·rw [if_neg h2,if_neg h2]
  have x:bs ≠ []:=fun z=>by subst z;simp at h2
  refine DZ (yj x y q fun k q=>?_)
  refine DZ (wpAny_mono (uF (Q:=fun _ f=>(arrOf f).map (·.2)=(is.map fun i=>Value.ref (bs.getD i 0)).toArray/\failedOf f=none) hu y q j fun f a1 a2=>⟨a1,a2⟩) ?_ fun _ _ e=>e)
  rintro ⟨⟨⟩,f⟩ s' ⟨rfl,C,hf⟩
  dsimp only
  refine DZ (seqEpoch_at d rfl ?_)
  rw [C]
  refine DZ (listUpdate_at d rfl ?_ (hsz2:=Nat.le_succ_of_le g))
  rw [hf]
  simp only [bne_self_eq_false,EK,if_false]
  exact Ea h
end
end L2
end
section
namespace L2
open PySem PySem.Spec PyProof.Rows
section
variable {prog:Program} {w:World} {A:Around} {E:Value->Shared->Prop} {s:Shared}
theorem qU {l:Addr} {bs:List Addr} {ns:List (List Int)} {is:List Nat} {Q:Value->Shared->Prop} (hu:A.units+2 < cLine) (j:s.heap.IsList l (bs.map Value.ref).toArray) (r:NRs s.heap bs ns) (n:kOk ns) (k:bA ns=some is) (hsz:bs.length<=sizeLine) (d:is.length<=sizeLine)
  (h:∀ h' p,s.heap.objs.size<=p->(∀ b o,s.heap.get? b=some o->h'.get? b=some o)->(∃ e,h'.get? p=some (seqObj "list" (is.map fun i=>Value.ref (bs.getD i 0)).toArray e))->Q (.ref p) { s with heap:=h' }) :
  wpAny (model prog w) A (call (.builtin "sorted") [.ref l]) Q E s:=by
 refine Calls.call_function_entry kind_sorted plain_sorted entry_sorted (args_sorted1 _) ?_
 unfold Builtin.«sorted»
 refine DZ (m:=checkCount "sorted" 1 1 _) (Ea ?_)
 refine DZ (collect_list j ?_ (by rw [En];exact hsz))
 refine DZ (wpAny_newList ?_ (by rw [En];exact hsz))
 obtain ⟨h1,f,q,e1⟩:∃ h1,(∀ b o,s.heap.get? b=some o->h1.get? b=some o)/\s.heap.objs.size<=h1.objs.size/\h1=(s.heap.push (seqObj "list" #[] 0)).update s.heap.objs.size (Obj.mapSeq (· ++ (bs.map Value.ref).toArray)):=by
  refine ⟨_,fun b o e=>?_,?_,rfl⟩
  ·exact (EO _ _ (Nat.ne_of_gt (Ek e))).trans (Ee _ e)
  ·rw [Heap.size_update,EQ]
   exact Nat.le_succ _
 rw [<- e1]
 have a:(h1.push (seqObj "list" (bs.map Value.ref).toArray 0)).get? h1.objs.size=some (seqObj "list" (bs.map Value.ref).toArray 0):=Em _ rfl
 have g:∀ b o,s.heap.get? b=some o->(h1.push (seqObj "list" (bs.map Value.ref).toArray 0)).get? b=some o:=fun b o e=>Ee _ (f b o e)
 show wpAny _ _ _ _ _ { s with heap:=h1.push (seqObj "list" (bs.map Value.ref).toArray 0) }
 refine DZ (Eb (wpAny_call_entry slot_list_sort ⟨_,a,rfl⟩ entry_list_sort (wk (s:={ s with heap:=h1.push (seqObj "list" (bs.map Value.ref).toArray 0) }) ?_ a (r.keep fun b _ o e=>g b o e) n k hsz d ⟨_,rfl,?_⟩) (args_list_sort _)))
 ·exact hu
 refine Ea ⟨_,rfl,h _ h1.objs.size q (fun b o e=>?_) ?_⟩
 ·have hb1:b < h1.objs.size:=Ek (f b o e)
  unfold sortedHeap
  refine (EO _ _ (Nat.ne_of_gt hb1)).trans (Ee _ (Ee _ ?_))
  exact (EO _ _ (Nat.ne_of_gt hb1)).trans (g b o e)
 ·unfold sortedHeap
  obtain ⟨e1,c⟩:∃ e1,((h1.push (seqObj "list" (bs.map Value.ref).toArray 0)).update h1.objs.size (Obj.mapSeq fun _=>#[])).get? h1.objs.size=some (seqObj "list" #[] e1):=⟨_,get?_update_seq a (fun _=>#[])⟩
  exact ⟨_,get?_update_seq (Ee _ (Ee _ c)) (fun _=>(is.map fun i=>Value.ref (bs.getD i 0)).toArray)⟩
end
section
variable {X:Cx}
def xc (K:FG):List V->Hp->VK->Prop:=fun xs H Q=>∃ (l:Addr) (bs:List Addr) (ns:List (List Int)) (is:List Nat),xs=[.ref l]/\SqL K H l (bs.map V.ref)/\ns.length=bs.length/\(∀ (i:Nat) (b:Addr) (n:List Int),bs[i]?=some b->ns[i]?=some n->H b=some (.tup (n.map V.int))) /\
 kOk ns/\bA ns=some is/\ns.length<=sizeLine/\is.length<=sizeLine/\∀ p,H p=none->Q (.ref p) (upd H p (.lst (is.map fun i=>V.ref (bs.getD i 0))))
theorem td:∀ {us:List Value} {bs:List Addr},Vals (bs.map V.ref) us->us=bs.map Value.ref
 | _,[],h=>by cases h;rfl
 | _,b :: bs,h=>by
  cases h with
  | cons r h =>
   cases (show _=Value.ref b from r)
   rw [Ey,td h]
theorem so (hu:X.A.units+2 < cLine):cp X (.builtin "sorted") (xc X.K):=by
 intro pins s σ H xs us Q I v h
 obtain ⟨l,bs,ns,is,rfl,g,z,t,m,j,hz,c,q⟩:=h
 obtain ⟨u,rfl,B⟩:=d8 v
 cases (show u=Value.ref l from B)
 obtain ⟨its,w,p,_⟩:=I.list g
 have y:=td w
 subst y
 refine qU hu (by simpa using p.isList) ⟨z,fun i b n e1 C=>?_⟩ m j (by omega) c fun h' p f k ⟨e,he⟩=>?_
 ·obtain ⟨its,r,p,_⟩:=I.tuple (SqT.of (t i b n e1 C))
  exact ⟨_,p,ly r⟩
 ·have x:(is.map fun i=>V.ref (bs.getD i 0))=(is.map fun i=>bs.getD i 0).map V.ref:=by rw [EV];rfl
  have d:(is.map fun i=>Value.ref (bs.getD i 0))=(is.map fun i=>bs.getD i 0).map Value.ref:=by rw [EV];rfl
  refine ⟨.ref p,_,I.laid (a:=p) (o:=.lst (is.map fun i=>V.ref (bs.getD i 0))) (t':=s.toks) (fun b o q=>k b o q) f ⟨by rw [En];exact c,is.map (fun i=>Value.ref (bs.getD i 0)),e,?_,he⟩,rfl,q p (I.hok.fresh f)⟩
  rw [x,d]
  exact iW _
end
end L2
end
section
namespace PySem
namespace F
end F
end PySem
namespace PySem
namespace F
end F
end PySem
end
section
namespace L2
open PySem PySem.Spec PyProof.Rows
def IsRv (h:Heap) (r a:Addr) (i:Int):Prop:=∃ o,h.get? r=some o/\o.cls=.type "reversed"/\o.data=.fields #[.ref a,rawInt i]
section
variable {prog:Program} {w:World} {A:Around} {E:Value->Shared->Prop} {s:Shared}
theorem IsRv.at {h h':Heap} {r a:Addr} {i:Int} (x:IsRv h r a i) (e:∀ o,h.get? r=some o->h'.get? r=some o):IsRv h' r a i:=let ⟨o,b,q⟩:=x;⟨o,e _ b,q⟩
end
end L2
end
section
namespace L2
open PySem PySem.Spec PyProof.Rows
end L2
end
section
namespace L2
open PySem PySem.Spec PyProof.Rows
theorem xu (xs:Array Value):((List.range xs.size).filterMap fun (m:Nat)=>xs[(((xs.size:Int) - 1)+(m:Int) * (-1)).toNat]?)=xs.toList.reverse:=by
 have h:∀ (l:List Value) (k:Nat),k<=l.length->((List.range k).filterMap fun m:Nat=>l[((l.length:Int) - 1+(m:Int) * (-1)).toNat]?)=l.reverse.take k:=by
  intro l k
  induction k with
  | zero=>intro _;simp
  | succ k ih =>
   intro a
   rw [List.range_succ,List.filterMap_append,ih (by omega),List.take_add_one]
   congr 1
   have e:((l.length:Int) - 1+(k:Int) * (-1)).toNat=l.length - 1 - k:=by omega
   rw [List.filterMap_cons,List.filterMap_nil,e,List.getElem?_reverse (by omega)]
   cases l[l.length - 1 - k]? <;> rfl
 have:=h xs.toList xs.size (by simp)
 simp only [Array.length_toList,Array.getElem?_toList] at this
 rw [this,List.take_of_length_le (by simp)]
section
variable {prog:Program} {w:World} {A:Around} {E:Value->Shared->Prop} {s:Shared}
theorem jC {sl:Addr} {t:Tok} {n:Nat} {Q:Int × Int × Nat->Shared->Prop} (c:s.heap.IsSliceOf sl .none .none (.int (-1) t)) (h:Q ((n:Int) - 1,-1,n) s) :
  wpAny (model prog w) A (Builtin.Slice.sliceApplied (.ref sl) (pure (n:Int))) Q E s:=by
 obtain ⟨os,b,d,a⟩:=id c
 unfold Builtin.Slice.sliceApplied Builtin.Slice.sliceFields
 refine DZ (DZ (wpAny_field b a (x:=.none) rfl (DZ (wpAny_field b a (x:=.none) rfl (DZ (wpAny_field b a (x:=.int (-1) t) rfl (Ea ?_)))))))
 refine DZ (HT.slicePart_ (.int (-1) t) ?_)
 show wpAny _ _ (if ((-1:Int) == 0)=true then _ else _) _ _ s
 rw [if_neg (by decide)]
 refine DZ (HT.slicePart_ .none (DZ (HT.slicePart_ .none (DZ (Ea ?_)))))
 have e1:Builtin.Slice.sliceAdjust none none (-1) (n:Int)=((n:Int) - 1,-1):=rfl
 show wpAny _ _ (match Builtin.Slice.sliceAdjust none none (-1) (n:Int) with | (lo,hi)=>pure (lo,(-1:Int),Builtin.Slice.slicePlaces lo hi (-1))) _ _ s
 rw [e1]
 have e:Builtin.Slice.slicePlaces ((n:Int) - 1) (-1) (-1)=n:=by
  unfold Builtin.Slice.slicePlaces
  rw [if_neg (by decide)]
  by_cases q:(n:Int) - 1 > -1
  ·rw [if_pos q]
   have:((n:Int) - 1 - -1 - 1) / (- -1)+1=n:=by
    rw [show (- -1:Int)=1 from rfl,Int.ediv_one];omega
   rw [this];simp
  ·rw [if_neg q]
   have:n=0:=by omega
   subst this;rfl
 show wpAny _ _ (pure ((n:Int) - 1,(-1:Int),Builtin.Slice.slicePlaces ((n:Int) - 1) (-1) (-1))) _ _ s
 rw [e]
 exact Ea h
theorem jr {t sl:Addr} {items:Array Value} {u:Tok} {Q:Value->Shared->Prop} (b:IsTup s.heap t items) (f:s.heap.IsSliceOf sl .none .none (.int (-1) u))
  (h:Q (.ref s.heap.objs.size) { s with heap:=s.heap.push { cls:=.type "tuple",data:=.seq items.toList.reverse.toArray } })
  (hsz:items.size<=sizeLine):wpAny (model prog w) A (getItem (.ref t) (.ref sl)) Q E s:=by
 have a:sizeOk (.seq items.toList.reverse.toArray):=by
  show items.toList.reverse.toArray.size<=sizeLine
  rw [Ex,List.length_reverse,Array.length_toList]
  exact hsz
 obtain ⟨os,c,d,g⟩:=id f
 have e:s.TypeIs (.ref sl) "slice":=⟨os,c,d⟩
 unfold getItem
 try with_reducible refine Eb ?_
 first | refine DZ (Ea ?_) | skip
 refine DZ (wpAny_sequenceKey b.typeIs (by decide) ?_)
 refine DZ (wpAny_callSpecial?_slot (name:=Str.ofString "__getitem__") b.typeIs PyProof.Rows.slot_tuple_getitem
  (wpAny_call_entry PyProof.Rows.slot_tuple_getitem b.typeIs entry_tuple_getitem ?_ (args_tuple_getitem _ _)))
 show wpAny _ _ (Builtin.Tuple.tupleItemsOf (.ref t) >>= _) _ _ s
 refine DZ (tupleItemsOf_ b ?_)
 refine DZ (wpAny_typeOf e ?_)
 rw [if_pos (by decide)]
 refine DZ (jC f ?_)
 show wpAny _ _ (if (((items.size:Int) - 1 == 0) && ((-1:Int) == 1) && (items.size == items.size))=true then _ else _) _ _ s
 rw [if_neg (by simp),xu]
 first
  | exact DZ (m:=Builtin.Tuple.tupleExact _) (wpAny_newObj_type (Ea ⟨_,rfl,Ea h⟩) a)
  | exact DZ (m:=Builtin.Tuple.tupleExact _) (wpAny_newObj_type (DZ (Ea (Ea ⟨_,rfl,Ea h⟩))) a)
  | exact DZ (DZ (m:=Builtin.Tuple.tupleExact _) (wpAny_newObj_type (Ea (Ea ⟨_,rfl,Ea h⟩)) a))
  | exact DZ (DZ (m:=Builtin.Tuple.tupleExact _) (wpAny_newObj_type (Ea ⟨_,rfl,Ea h⟩) a))
end
section
variable {X:Cx}
def Be (K:FG) (te:TE) (b:TO):TE:=fun σ H Q=>te σ H fun x H1=>b σ H1 fun o H2=>∃ a xs,o=some (-1)/\x=.ref a/\SqT K H2 a xs/\∀ p,H2 p=none->Q (.ref p) (upd H2 p (.tup xs.reverse))
theorem Vals.rev:∀ {xs:List V} {us:List Value},Vals xs us->Vals xs.reverse us.reverse
 | [],_,.nil=>.nil
 | x :: xs,_,.cons r t=>by
  rw [List.reverse_cons,List.reverse_cons]
  exact (Vals.rev t).append (.cons r .nil)
theorem Aj {e st:Expr} {te:TE} {f:TO} {p2 pos:Pos} (he:PE X e te) (p:PO X (some st) f):PE X (.Subscript e (.Slice none none (some st) p2) pos) (Be X.K te f):=by
 intro pins s σ H Q I h
 refine Subscript_ (thn (he pins s σ H _ I h) fun v s1 ⟨x,H1,k,j,n⟩=>?_)
 refine wpAny_Slice ?_
 rw [evalPart_none]
 refine Ea ?_
 refine Ea ?_
 refine thn (p pins s1 σ H1 _ k n) fun y s3 ⟨o,g,u,po,m⟩=>?_
 obtain ⟨a,xs,rfl,rfl,l,q⟩:=m
 cases j
 cases po with
 | int i t =>
 have c:Inv X pins σ g { s3 with heap:=s3.heap.push { cls:=.type "slice",data:=.fields #[.none,.none,.int (-1) t] } }:=u.kept (t':=s3.toks) fun b ob q=>Ee _ q
 obtain ⟨its,r,d,hz⟩:=c.tuple l
 have hlen:its.toArray.size=xs.length:=by rw [Ex];exact r.length.symm
 show wpAny (model X.prog X.w) X.A (subscriptTail e (.Slice none none (some st) p2) (.ref a) (.ref s3.heap.objs.size)) (EP X pins σ Q) X.xe { s3 with heap:=s3.heap.push { cls:=.type "slice",data:=.fields #[.none,.none,.int (-1) t] } }
 refine tail_any (ops:=[.ref a,.ref s3.heap.objs.size]) d.typeIs PyProof.Rows.slot_tuple_getitem.lookup ?_ (by with_unfolding_all rfl)
 refine jr d (Heap.IsSliceOf.new ..) ?_ (by rw [hlen];exact hz)
 refine ⟨.ref (s3.heap.push { cls:=.type "slice",data:=.fields #[.none,.none,.int (-1) t] }).objs.size,_,c.laid (t':=s3.toks) (o:=.tup xs.reverse) (fun b ob q=>Ee _ q) (Eu _) ?_,rfl,q _ (c.hok.fresh (Eu _))⟩
 exact ⟨by rw [List.length_reverse];exact hz,_,r.rev,IsTupD.new _ _⟩
end
end L2
end
section
namespace L2
open PySem PySem.W PySem.Spec PyProof.Rows
abbrev excO (a:Addr) (cls:Value):HO:=.ext fun h=>∃ o,h.get? a=some o/\o.cls=cls
abbrev excF (ob:Obj) (a:Addr) (cls:Value):HO:=.frz ob (excO a cls)
structure ExcK (K:FG) (D:Addr):Prop where
 ga:findIn K (.ref D) "__getattribute__"=some (some (.builtin "BaseException.__getattribute__"))
 gt:findIn K (.ref D) "__getattr__"=some none
 cl:(clsIn K D).isSome=true
 ca:findIn K (.ref D) "__class__"=some (some (.builtin "object.__class__"))
 sp:specialIn K (.builtin "object.__class__") "__get__"=some (some (.builtin "getset_descriptor.__get__"))
 tk:takesIn K (.builtin "object.__class__")=some true
 ob:mroIn K D (.type "object")=some true
 be:mroIn K D (.type "BaseException")=some true
structure XName (K:FG) (c:String) (D:Addr):Prop where
 ns:nsIn K mainGlobals (Str.ofString c)=some (some (.ref D))
 ex:ExcK K D
theorem XName.inj {K:FG} {c:String} {D d:Addr} (a:XName K c D) (b:XName K c d):D=d:=by
 have:=a.ns.symm.trans b.ns
 cases this
 rfl
end L2
end
section
namespace L2
open PySem
section
variable {K:FG} {h:Heap} {mg:Str->Option Value}
theorem jH {h:Heap}:∀ {l:List Nat} {a:Nat} {o:Obj},(l.filterMap fun a=>(h.get? a).map fun o=>(a,o)).lookup a=some o->h.get? a=some o
 | [],_,_,e=>by cases e
 | b :: l,a,o,e=>by
  rw [List.filterMap_cons] at e
  cases d:h.get? b with
  | none=>rw [d] at e;exact jH e
  | some p =>
   rw [d] at e
   replace e:List.lookup a ((b,p) :: l.filterMap fun a=>(h.get? a).map fun o=>(a,o))=some o:=e
   rw [List.lookup_cons] at e
   cases c:a == b with
   | true=>rw [c] at e;cases eq_of_beq c;cases e;exact d
   | false=>rw [c] at e;exact jH e
theorem fragAt_in (h:Heap):(yC h).In h:=fun _ _ e=>jH e
def stPos (s:Stmt):Pos:=match s with
 | .FunctionDef _ _ _ _ _ _ _ _ _ p=>p
 | _=>⟨0,0,0,0⟩
theorem DH {n:Str} {st:Stmt} (X:K.In h) (G:h.Ns mainGlobals mg) (e:qe K n=lD n st):Def K mg n st:=by
 unfold qe at e
 split at e
 ·rename_i f hf
  split at e
  ·rename_i c d fd sl a
   unfold lD at e
   obtain ⟨name,qual,params,body,scope,globals,closure,defaults,kw,doc,pm,an,cd,ct,bi⟩:=fd
   simp only [Option.some.injEq,Prod.mk.injEq] at e
   obtain ⟨rfl,rfl,rfl,rfl,rfl,rfl,rfl,rfl,rfl,b⟩:=e
   exact ⟨f,_,DC (st:=st) a b (by unfold PySem.W.keepIn;simp only [a]),PySem.W.mg_of X G hf⟩
  ·cases e
 ·cases e
theorem rH {α β:Type} {f g:α->β} {l:List α} (e:l.map f=l.map g) (i:Nat) {a:α} (h:l[i]?=some a):f a=g a:=List.map_inj_left.mp e a (Ep h)
theorem aI {ds:List (Str × Stmt)} {n:Str} {st:Stmt} (X:K.In h) (G:h.Ns mainGlobals mg) (e:ds.map (fun p=>qe K p.1)=ds.map (fun p=>lD p.1 p.2)) (i:Nat) (hi:ds[i]?=some (n,st)):Def K mg n st:=DH X G (rH e i hi)
theorem cg {l:List Str} {n:Str} (X:K.In h) (G:h.Ns mainGlobals mg) (e:l.map (PySem.W.nsIn K mainGlobals)=l.map (fun _=>some none)) (i:Nat) (hi:l[i]?=some n):mg n=none:=PySem.W.mg_none_of X G (rH e i hi)
theorem nZ {l:List (Str × Int)} {n:Str} {v:Int} (X:K.In h) (G:h.Ns mainGlobals mg) (e:l.map (fun p=>n9 K p.1)=l.map (fun p=>some p.2)) (i:Nat) (hi:l[i]?=some (n,v)):∃ t,mg n=some (.int v t):=by
 have e:=rH e i hi
 unfold n9 at e
 dsimp only at e
 split at e
 ·rename_i b t a;cases e;exact ⟨t,PySem.W.mg_of X G a⟩
 ·cases e
theorem walk_ofS {l:PySem.W.OpenLaw} {n k:Nat} {q:Program} {loose:List Str} {L:(Str->Option Value)->Heap->Prop} {z:World->Heap->Prop} {d:DefRec} {S:FG->Prop} {CX:CXT} {sp:FG->Sp} {x:Str}
  (N:l.most=some n) (m:n<=sizeLine) (j:d.params.defaults=[]) (I:Room k callerA)
  (M:∀ (w:World) (h:Heap),z w h->∃ K:FG,K.In h/\S K)
  (F:∀ (w:World) (mg:Str->Option Value) (i:Addr) (h:Heap) (K:FG),S K->K.In h->h.Ns mainGlobals mg->mg d.name=some (.ref i) ->
   ∃ fd:FuncData,(∀ (s:Shared) (u:Value),BindsTo s fd ⟨[u],[]⟩ [(x,u)]) /\
    ∀ base:Heap,K.In base->base.Ns mainGlobals mg->FnOk l.prog w K mg base CX k i fd [x] (sp K))
  (t:∀ (K:FG) (H:Hp) (a:Addr) (ns:List Int),ns.length<=n->Bc H->SqL K H a (ns.map V.int)->sp K [.ref a] H (fun v _=>v=.bl true) fun _ _ _=>False)
  (y:∀ (H:Hp) (s:Shared) (e:Value) (s':Shared),CX [] H s (fun _ _ _=>False) e s'->False) :
  PySem.W.WalkO q loose L z l.row.toRowW d [] (fun f A=>PySem.call f A):=by
 refine Att.attach_call N j fun w s₀ P mg mb i o pm cd doc a A ns G Y Q hd D p c hints hlen J=>?_
 obtain ⟨K,B,r⟩:=M w _ Y
 obtain ⟨fd,E,O⟩:=F w mg i _ K r B G.T.g p
 exact yg B G.T.g G.T.b G.T.builtins G.T.nolimit J c hints (ES hlen m) I O E (fun H C r=>t K H a ns hlen C r) fun H e s'=>y H P e s'
end
end L2
end
section
namespace L3
open PySem L2
theorem nsE {α:Type} {p:α} {P:Prop} (e:(none:Option α)=some p):P:=nomatch e
inductive D where
 | non | bl (b:Bool) | int (i:Int) | str (x:Str)
 | tup (xs:List D) | lst (xs:List D) | fls (xs:List D) | dk (kvs:List (Key × D)) | dt (kvs:List (List Key × D))
 | exc (c:String) (fs:List (String × D))
def jm:D->Bool
 | .lst _=>true
 | .dk _=>true
 | .dt _=>true
 | _=>false
def FzL (K:FG) (H:Hp) (a:Addr) (b:List V):Prop:=(∃ o,H a=some (.frz o (.lst b)))\/∃ (o:Obj) (its:Array Value) (n:Nat),K.lookup a=some o/\o.cls=.type "list"/\o.dict=none/\o.data=.seq its n/\its.size<=sizeLine/\Vals b its.toList
theorem FzL.sq {K:FG} {H:Hp} {a:Addr} {b:List V} (h:FzL K H a b):SqL K H a b:=h.elim (fun ⟨o,e⟩=>.inl (.inr ⟨o,e⟩)) .inr
inductive Reps (R:D->V->List Addr->Prop):List D->List V->List Addr->Prop where
 | nil:Reps R [] [] []
 | cons {d v L ds vs L'}:R d v L->Reps R ds vs L'->Reps R (d :: ds) (v :: vs) (L ++ L')
inductive Rep (K:FG) (H:Hp):D->V->List Addr->Prop where
 | non:Rep K H .non .non []
 | bl (b:Bool):Rep K H (.bl b) (.bl b) []
 | int (i:Int):Rep K H (.int i) (.int i) []
 | str (x:Str):Rep K H (.str x) (.str x) []
 | tup {xs a vs L}:H a=some (.tup vs)->Reps (Rep K H) xs vs L->Rep K H (.tup xs) (.ref a) L
 | lst {xs a vs L}:H a=some (.lst vs)->Reps (Rep K H) xs vs L->Rep K H (.lst xs) (.ref a) (a :: L)
 | lstF {xs a vs L}:FzL K H a vs->Reps (Rep K H) xs vs L->Rep K H (.fls xs) (.ref a) L
 | dK {kvs a ps L}:H a=some (.dK ps)->kvs.map (·.1)=ps.map (·.1)->Reps (Rep K H) (kvs.map (·.2)) (ps.map (·.2)) L->Rep K H (.dk kvs) (.ref a) (a :: L)
 | dT {kvs a ps L}:H a=some (.dT ps)->kvs.map (·.1)=ps.map (·.1)->Reps (Rep K H) (kvs.map (·.2)) (ps.map (·.2)) L->Rep K H (.dt kvs) (.ref a) (a :: L)
 | exc {c a D ob}:XName K c D->H a=some (excF ob a (.ref D))->Rep K H (.exc c []) (.ref a) []
def RepV (K:FG) (H:Hp) (d:D) (v:V) (L:List Addr):Prop:=match d with
 | .non=>v=.non/\L=[]
 | .bl b=>v=.bl b/\L=[]
 | .int i=>v=.int i/\L=[]
 | .str x=>v=.str x/\L=[]
 | .tup xs=>∃ a e,v=.ref a/\H a=some (.tup e)/\Reps (Rep K H) xs e L
 | .lst xs=>∃ a e L',v=.ref a/\L=a :: L'/\H a=some (.lst e)/\Reps (Rep K H) xs e L'
 | .fls xs=>∃ a e,v=.ref a/\FzL K H a e/\Reps (Rep K H) xs e L
 | .dk kvs=>∃ a ps L',v=.ref a/\L=a :: L'/\H a=some (.dK ps)/\kvs.map (·.1)=ps.map (·.1)/\Reps (Rep K H) (kvs.map (·.2)) (ps.map (·.2)) L'
 | .dt kvs=>∃ a ps L',v=.ref a/\L=a :: L'/\H a=some (.dT ps)/\kvs.map (·.1)=ps.map (·.1)/\Reps (Rep K H) (kvs.map (·.2)) (ps.map (·.2)) L'
 | .exc c fs=>fs=[]/\L=[]/\∃ a D ob,v=.ref a/\XName K c D/\H a=some (excF ob a (.ref D))
theorem Rep.view {K:FG} {H:Hp} {d:D} {v:V} {L:List Addr} (r:Rep K H d v L):RepV K H d v L:=by
 cases r with
 | non=>exact ⟨rfl,rfl⟩
 | bl b=>exact ⟨rfl,rfl⟩
 | int i=>exact ⟨rfl,rfl⟩
 | str x=>exact ⟨rfl,rfl⟩
 | tup h r=>exact ⟨_,_,rfl,h,r⟩
 | lst h r=>exact ⟨_,_,_,rfl,rfl,h,r⟩
 | lstF h r=>exact ⟨_,_,rfl,h,r⟩
 | dK h k r=>exact ⟨_,_,_,rfl,rfl,h,k,r⟩
 | dT h k r=>exact ⟨_,_,_,rfl,rfl,h,k,r⟩
 | exc n h=>exact ⟨rfl,rfl,_,_,_,rfl,n,h⟩
def MutAt (H:Hp) (b:Addr):Prop:=(∃ xs,H b=some (.lst xs))\/(∃ ps,H b=some (.dK ps))\/∃ ps,H b=some (.dT ps)
theorem MutAt.ex {H:Hp} {b:Addr} (m:MutAt H b):∃ o,H b=some o:=by
 rcases m with ⟨_,h⟩ | ⟨_,h⟩ | ⟨_,h⟩ <;> exact ⟨_,h⟩
theorem MutAt.notup {H:Hp} {b:Addr} {a:List V} (m:MutAt H b) (h:H b=some (.tup a)):False:=by
 rcases m with ⟨_,e⟩ | ⟨_,e⟩ | ⟨_,e⟩ <;> rw [e] at h <;> cases h
theorem MutAt.nofrz {H:Hp} {b:Addr} {o:Obj} {u:HO} (m:MutAt H b) (h:H b=some (.frz o u)):False:=by
 rcases m with ⟨_,e⟩ | ⟨_,e⟩ | ⟨_,e⟩ <;> rw [e] at h <;> cases h
theorem FzL.keep {K:FG} {H H':Hp} {a:Addr} {c:List V} {M:Addr->Prop} (h:FzL K H a c) (k:∀ b o,H b=some o->¬ M b->H' b=some o) (hm:∀ b,M b->MutAt H b):FzL K H' a c:=h.elim (fun ⟨o,e⟩=>.inl ⟨o,k a _ e fun z=>(hm a z).nofrz e⟩) .inr
section
variable {K:FG} {H H':Hp} {d:D} {v:V} {L:List Addr}
theorem Rep.inH (r:Rep K H d v L):∀ b ∈ L,MutAt H b:=by
 refine Rep.rec (motive_1:=fun _ _ L _=>∀ b ∈ L,MutAt H b) (motive_2:=fun _ _ L _=>∀ b ∈ L,MutAt H b) ?_ ?_ ?_ ?_ ?_ ?_ ?_ ?_ ?_ ?_ ?_ ?_ r
 ·intro b a;cases a
 ·intro _ b a;cases a
 ·intro _ b a;cases a
 ·intro _ b a;cases a
 ·intro _ _ _ _ _ _ c;exact c
 ·intro _ _ _ _ h _ c b a
  rcases Ei.mp a with e | a
  ·rw [e];exact .inl ⟨_,h⟩
  ·exact c b a
 ·intro _ _ _ _ _ _ c;exact c
 ·intro _ _ _ _ h _ _ c b a
  rcases Ei.mp a with e | a
  ·rw [e];exact .inr (.inl ⟨_,h⟩)
  ·exact c b a
 ·intro _ _ _ _ h _ _ c b a
  rcases Ei.mp a with e | a
  ·rw [e];exact .inr (.inr ⟨_,h⟩)
  ·exact c b a
 ·intro _ _ _ _ _ _ b a;cases a
 ·intro b a;cases a
 ·intro _ _ _ _ _ _ _ _ g f b a
  rcases El.mp a with h | h
  ·exact g b h
  ·exact f b h
theorem Reps.inH {ds:List D} {c:List V} (r:Reps (Rep K H) ds c L):∀ b ∈ L,MutAt H b:=by
 induction r with
 | nil=>intro b a;cases a
 | cons r _ ih =>
  intro b a
  rcases El.mp a with h | h
  ·exact r.inH b h
  ·exact ih b h
theorem Rep.keep {M:Addr->Prop} (k:∀ b o,H b=some o->¬ M b->H' b=some o) (hm:∀ b,M b->MutAt H b) (r:Rep K H d v L):(∀ b ∈ L,¬ M b)->Rep K H' d v L:=by
 refine Rep.rec (motive_1:=fun d v L _=>(∀ b ∈ L,¬ M b)->Rep K H' d v L) (motive_2:=fun ds j L _=>(∀ b ∈ L,¬ M b)->Reps (Rep K H') ds j L) ?_ ?_ ?_ ?_ ?_ ?_ ?_ ?_ ?_ ?_ ?_ ?_ r
 ·intro _;exact .non
 ·intro b _;exact .bl b
 ·intro b _;exact .int b
 ·intro b _;exact .str b
 ·intro xs a j L h _ g f
  exact .tup (k a _ h fun z=>(hm a z).notup h) (g f)
 ·intro xs a j L h _ g f
  exact .lst (k a _ h (f a Ec)) (g fun b i=>f b (Ed _ i))
 ·intro xs a j L h _ g f
  exact .lstF (h.keep k hm) (g f)
 ·intro kvs a ps L h e _ g f
  exact .dK (k a _ h (f a Ec)) e (g fun b i=>f b (Ed _ i))
 ·intro kvs a ps L h e _ g f
  exact .dT (k a _ h (f a Ec)) e (g fun b i=>f b (Ed _ i))
 ·intro c a D ob n h _
  exact .exc n (k a _ h fun z=>(hm a z).nofrz h)
 ·intro _;exact .nil
 ·intro d v L ds j L' _ _ m l f
  exact .cons (m fun b i=>f b (Eg _ i)) (l fun b i=>f b (Eh _ i))
theorem Rep.same (r:Rep K H d v L) (s:Same H H'):Rep K H' d v L:=r.keep (M:=fun _=>False) (fun b o h _=>s b o h) (fun _ z=>z.elim) fun _ _ z=>z
theorem Reps.keep {M:Addr->Prop} {ds:List D} {c:List V} (k:∀ b o,H b=some o->¬ M b->H' b=some o) (hm:∀ b,M b->MutAt H b) (r:Reps (Rep K H) ds c L):(∀ b ∈ L,¬ M b)->Reps (Rep K H') ds c L:=by
 induction r with
 | nil=>intro _;exact .nil
 | cons r _ ih=>intro d;exact .cons (r.keep k hm fun b a=>d b (Eg _ a)) (ih fun b a=>d b (Eh _ a))
theorem Reps.same {ds:List D} {a:List V} (r:Reps (Rep K H) ds a L) (s:Same H H'):Reps (Rep K H') ds a L:=r.keep (M:=fun _=>False) (fun b o h _=>s b o h) (fun _ z=>z.elim) fun _ _ z=>z
end
inductive Fl where
 | u | l | z
 deriving DecidableEq
structure It3 where
 d:D
 v:V
 L:List Addr
 f:Fl
abbrev Sto:=List (Option (D × Fl))
structure Gm where
 H0:Hp
 bw:Addr->Prop
 pr:Nat->Bool
 σ0:St
 orig:Hp
 src:Addr->Prop
 lv:Nat->Option V
def OwnOk (G:Gm) (x:It3):Prop:=jm x.d=true/\∃ a L',x.v=.ref a/\x.L=a :: L'/\a ∉ L'/\(x.f=.u->G.H0 a=none\/G.bw a)
structure ItOk (K:FG) (G:Gm) (H:Hp) (x:It3):Prop where
 rep:Rep K H x.d x.v x.L
 own:x.f ≠ .z->OwnOk G x
 src:∀ c ∈ x.L,G.H0 c=none\/G.src c
structure Fx (G:Gm) (H:Hp) (T:List It3) (g:Nat->Option It3):Prop where
 frT:∀ x ∈ T,x.f ≠ .z->∀ a,x.v=.ref a->G.orig a=none
 frS:∀ i x,g i=some x->G.pr i=false->x.f ≠ .z->∀ a,x.v=.ref a->G.orig a=none
 bin:∀ b,G.bw b->∃ o,H b=some o
 ob:∀ b o,G.orig b=some o->∃ o',H b=some o'
 lvS:∀ i x,g i=some x->x.f=.l->G.lv i=some x.v
def NoRoot (x y:It3):Prop:=x.f ≠ .z->∀ a,x.v=.ref a->a ∉ y.L
def Apart3 (x y:It3):Prop:=NoRoot x y/\NoRoot y x
structure Wf (K:FG) (G:Gm) (H:Hp) (σ:St) (ρ:Sto) (T:List It3) (g:Nat->Option It3):Prop where
 len:σ.length = ρ.length
 sl:∀ i,(g i).map (fun x=>(x.d,x.f))=(ρ[i]?).join
 sv:∀ i x,g i=some x->σ[i]?=some (some x.v)
 okS:∀ i x,g i=some x->ItOk K G H x
 okT:∀ x ∈ T,ItOk K G H x
 ss:∀ i j x y,i ≠ j->g i=some x->g j=some y->NoRoot x y
 st:∀ i x,g i=some x->∀ y ∈ T,Apart3 x y
 tt:T.Pairwise Apart3
 base:∀ b o,G.H0 b=some o->¬ G.bw b->H b=some o
 pro:∀ i,G.pr i=true->σ[i]?=G.σ0[i]?
 fx:Fx G H T g
structure Le (K:FG) (G:Gm) (W:D->Sto->Prop) (G0:Gm) (W0:D->Sto->Prop):Prop where
 pr:G.pr=G0.pr
 ex:∀ (H:Hp) (σ:St) (ρ:Sto) (T:List It3) (g:Nat->Option It3) (e:D),Wf K G H σ ρ T g->W e ρ->∃ ρ0 T0 g0,Wf K G0 H σ ρ0 T0 g0/\W0 e ρ0
theorem Le.refl (K:FG) (G:Gm) (W:D->Sto->Prop):Le K G W G W:=⟨rfl,fun _ _ ρ T g _ w h=>⟨ρ,T,g,w,h⟩⟩
theorem Le.trans {K:FG} {G G1 c:Gm} {W f d:D->Sto->Prop} (a:Le K G W G1 f) (b:Le K G1 f c d):Le K G W c d:=⟨a.pr.trans b.pr,fun H σ ρ T g e w h=>by
 obtain ⟨ρ1,i,g1,j,h1⟩:=a.ex H σ ρ T g e w h
 exact b.ex H σ ρ1 i g1 e j h1⟩
section
variable {K:FG} {G:Gm} {H H':Hp} {σ:St} {ρ:Sto} {T T':List It3} {g:Nat->Option It3} {x y z:It3}
theorem ItOk.keep {M:Addr->Prop} (h:ItOk K G H x) (k:∀ b o,H b=some o->¬ M b->H' b=some o) (hm:∀ b,M b->MutAt H b) (a:∀ b ∈ x.L,¬ M b):ItOk K G H' x:=⟨h.rep.keep k hm a,h.own,h.src⟩
theorem ItOk.same (h:ItOk K G H x) (s:Same H H'):ItOk K G H' x:=⟨h.rep.same s,h.own,h.src⟩
theorem Fx.more (f:Fx G H T g) (s:∀ b o,H b=some o->∃ o',H' b=some o'):Fx G H' T g:=⟨f.frT,f.frS,fun b h=>let ⟨o,e⟩:=f.bin b h;s b o e,fun b o h=>let ⟨o',e⟩:=f.ob b o h;s b o' e,f.lvS⟩
theorem Fx.sub (f:Fx G H T g) (h:∀ x ∈ T',x ∈ T):Fx G H T' g:=⟨fun x a=>f.frT x (h x a),f.frS,f.bin,f.ob,f.lvS⟩
theorem Wf.grow (w:Wf K G H σ ρ T g) (s:Same H H'):Wf K G H' σ ρ T g :=
 ⟨w.len,w.sl,w.sv,fun i x e=>(w.okS i x e).same s,fun x a=>(w.okT x a).same s,w.ss,w.st,w.tt,fun b o e n=>s b o (w.base b o e n),w.pro,w.fx.more fun b o h=>⟨o,s b o h⟩⟩
theorem Wf.sub (w:Wf K G H σ ρ T g) (h:T'.Sublist T):Wf K G H σ ρ T' g :=
 ⟨w.len,w.sl,w.sv,w.okS,fun x a=>w.okT x (h.subset a),w.ss,fun i x e y b=>w.st i x e y (h.subset b),w.tt.sublist h,w.base,w.pro,w.fx.sub fun x a=>h.subset a⟩
def Itm (T:List It3) (g:Nat->Option It3) (y:It3):Prop:=(∃ i,g i=some y)\/y ∈ T
def dD (T:List It3) (g:Nat->Option It3) (c:Addr):Prop:=(∀ i z,g i=some z->z.f ≠ .z->z.v ≠ .ref c)/\∀ z ∈ T,z.f ≠ .z->z.v ≠ .ref c
theorem Wf.itm (w:Wf K G H σ ρ T g) (h:Itm T g y):ItOk K G H y:=by
 rcases h with ⟨i,e⟩ | h
 ·exact w.okS i y e
 ·exact w.okT y h
theorem nN {α:Type} {R:α->α->Prop} {l:List α} (p:l.Pairwise R) (h:∀ a b,R a b->R b a):∀ a ∈ l,∀ b ∈ l,a ≠ b->R a b:=by
 induction p with
 | nil=>intro a e;cases e
 | @cons c l hc _ ih =>
  intro a e b d n
  rcases Ei.mp e with g | e
  ·rcases Ei.mp d with f | d
   ·exact absurd (g.trans f.symm) n
   ·rw [g];exact hc b d
  ·rcases Ei.mp d with f | d
   ·rw [f];exact h _ _ (hc a e)
   ·exact ih a e b d n
theorem Apart3.symm (h:Apart3 x y):Apart3 y x:=⟨h.2,h.1⟩
theorem Wf.kid (w:Wf K G H σ ρ T g) (h:Itm T g y) {c:Addr} (b:c ∈ y.L) (k:y.f ≠ .z->y.v ≠ .ref c):dD T g c:=by
 refine ⟨fun i z e hz ez=>?_,fun z hm hz ez=>?_⟩
 ·rcases h with ⟨j,a⟩ | d
  ·by_cases l:i=j
   ·subst l
    rw [e] at a
    cases a
    exact k hz ez
   ·exact w.ss i j z y l e a hz c ez b
  ·exact (w.st i z e y d).1 hz c ez b
 ·rcases h with ⟨j,a⟩ | d
  ·exact (w.st j y a z hm).2 hz c ez b
  ·by_cases e:z=y
   ·subst e;exact k hz ez
   ·exact (nN w.tt (fun _ _=>Apart3.symm) z hm y d e).1 hz c ez b
structure New (K:FG) (H H':Hp) (Ks:Addr->Prop) (x:It3):Prop where
 same:Same H H'
 rep:Rep K H' x.d x.v x.L
 sub:∀ c ∈ x.L,H c=none\/Ks c
 own:x.f ≠ .z->jm x.d=true/\∃ a L',x.v=.ref a/\x.L=a :: L'/\a ∉ L'/\H a=none
theorem Wf.h0none (w:Wf K G H σ ρ T g) {a:Addr} (h:H a=none):G.H0 a=none:=by
 cases e:G.H0 a with
 | none=>rfl
 | some o =>
  by_cases b:G.bw a
  ·obtain ⟨o,e⟩:=w.fx.bin a b
   rw [h] at e;cases e
  ·have:=w.base a o e b
   rw [h] at this;cases this
theorem Wf.ornone (w:Wf K G H σ ρ T g) {a:Addr} (h:H a=none):G.orig a=none:=by
 cases e:G.orig a with
 | none=>rfl
 | some o =>
  obtain ⟨o,e⟩:=w.fx.ob a o e
  rw [h] at e;cases e
theorem Wf.push {Ks:Addr->Prop} (w:Wf K G H σ ρ T g) (n:New K H H' Ks x) (q:∀ c,Ks c->dD T g c/\(G.H0 c=none\/G.src c)):Wf K G H' σ ρ (x :: T) g:=by
 have d:=w.grow n.same
 have a1:∀ y:It3,ItOk K G H y->(∀ c,Ks c->y.f ≠ .z->y.v ≠ .ref c)->Apart3 y x:=fun y m b=>by
  refine ⟨fun hf a e hm=>?_,fun hf a e hm=>?_⟩
  ·obtain ⟨_,t,L',e1,k,_,_⟩:=m.own hf
   rw [e] at e1
   cases e1
   rcases n.sub a hm with h | h
   ·obtain ⟨o,j⟩:=(m.rep.inH a (by rw [k];exact Ec)).ex
    rw [h] at j;cases j
   ·exact b a h hf e
  ·obtain ⟨_,t,L',e1,k,_,h⟩:=n.own hf
   rw [e] at e1
   cases e1
   obtain ⟨o,j⟩:=(m.rep.inH a hm).ex
   rw [h] at j;cases j
 refine ⟨d.len,d.sl,d.sv,d.okS,?_,d.ss,?_,?_,d.base,d.pro,⟨fun y b hf a r=>?_,d.fx.frS,d.fx.bin,d.fx.ob,d.fx.lvS⟩⟩
 ·intro y b
  rcases Ei.mp b with rfl | b
  ·refine ⟨n.rep,fun hf=>?_,fun c l=>?_⟩
   ·obtain ⟨s,a,L',e1,k,u,p⟩:=n.own hf
    exact ⟨s,a,L',e1,k,u,fun _=>.inl (w.h0none p)⟩
   ·rcases n.sub c l with h | h
    ·exact .inl (w.h0none h)
    ·exact (q c h).2
  ·exact d.okT y b
 ·intro i z e y b
  rcases Ei.mp b with rfl | b
  ·exact a1 z (w.okS i z e) fun c l=>(q c l).1.1 i z e
  ·exact d.st i z e y b
 ·refine List.pairwise_cons.mpr ⟨fun y b=>(a1 y (w.okT y b) fun c l=>(q c l).1.2 y b).symm,d.tt⟩
 ·rcases Ei.mp b with h | b
  ·subst h
   obtain ⟨s,t,L',e1,k,u,p⟩:=n.own hf
   rw [r] at e1
   cases e1
   exact w.ornone p
  ·exact d.fx.frT y b hf a r
def dm (ys:List It3) (c:Addr):Prop:=∃ y ∈ ys,c ∈ y.L/\(y.f ≠ .z->y.v ≠ .ref c)
theorem Wf.kids (w:Wf K G H σ ρ T g) {ys:List It3} (a:∀ y ∈ ys,Itm T g y) {c:Addr} (h:dm ys c):dD T g c/\(G.H0 c=none\/G.src c):=by
 obtain ⟨y,m,b,d⟩:=h
 exact ⟨w.kid (a y m) b d,(w.itm (a y m)).src c b⟩
structure Arg (K:FG) (H:Hp) (p:It3):Prop where
 rep:Rep K H p.d p.v p.L
 own:p.f ≠ .z->jm p.d=true/\∃ a L',p.v=.ref a/\p.L=a :: L'/\a ∉ L'
theorem ItOk.arg (h:ItOk K G H x):Arg K H x:=⟨h.rep,fun hf=>by
 obtain ⟨m,a,L',v1,v2,v3,_⟩:=h.own hf
 exact ⟨m,a,L',v1,v2,v3⟩⟩
end
end L3
end
section
namespace L3
open PySem L2
inductive R3 where
 | pl (i:Nat) | val (d:D) (f:Fl)
abbrev M3 (α:Type):=Sto->Option (Except D α × Sto)
abbrev EM:=M3 R3
def ae {α β:Type} (m:M3 α) (k:α->M3 β):M3 β:=fun ρ=>match m ρ with
 | none=>none
 | some (.error e,ρ')=>some (.error e,ρ')
 | some (.ok a,ρ')=>k a ρ'
def aW {α:Type} (a:α):M3 α:=fun ρ=>some (.ok a,ρ)
def aZ {α:Type} (o:Option α):M3 α:=fun ρ=>o.map fun a=>(.ok a,ρ)
def der (r:R3):M3 D:=fun ρ=>match r with
 | .pl i=>((ρ[i]?).join).map fun p=>(.ok p.1,ρ)
 | .val d _=>some (.ok d,ρ)
inductive Ar (σ:St):R3->V->List It3->Prop where
 | pl {i:Nat} {v:V}:σ[i]?=some (some v)->Ar σ (.pl i) v []
 | val (x:It3):Ar σ (.val x.d x.f) x.v [x]
def Got (K:FG) (G:Gm) (σ:St) (ρ:Sto) (T:List It3) (r:R3) (v:V) (H:Hp):Prop:=∃ Ts g,Wf K G H σ ρ (Ts ++ T) g/\Ar σ r v Ts
def tE (K:FG) (G0:Gm) (W0:D->Sto->Prop) (m:EM):TE:=fun σ H Q=>∃ G W,Le K G W G0 W0/\∃ ρ T g r ρ',Wf K G H σ ρ T g/\m ρ=some (r,ρ')/\match r with
 | .ok r=>∀ v H',Got K G σ ρ' T r v H'->Q v H'
 | .error e=>W e ρ'
def tT (K:FG) (G0:Gm) (W0:D->Sto->Prop) (m:M3 Bool):TT:=fun σ H Q=>∃ G W,Le K G W G0 W0/\∃ ρ T g r ρ',Wf K G H σ ρ T g/\m ρ=some (r,ρ')/\match r with
 | .ok b=>∀ H' g',Wf K G H' σ ρ' T g'->Q b H'
 | .error e=>W e ρ'
inductive Ars (σ:St):List R3->List V->List It3->Prop where
 | nil:Ars σ [] [] []
 | cons {r v Ts rs vs Us}:Ar σ r v Ts->Ars σ rs vs Us->Ars σ (r :: rs) (v :: vs) (Us ++ Ts)
def tA (K:FG) (G0:Gm) (W0:D->Sto->Prop) (m:M3 (List R3)):TA:=fun σ H Q=>∃ G W,Le K G W G0 W0/\∃ ρ T g r ρ',Wf K G H σ ρ T g/\m ρ=some (r,ρ')/\match r with
 | .ok rs=>∀ a H' Ts g',Wf K G H' σ ρ' (Ts ++ T) g'->Ars σ rs a Ts->Q a H'
 | .error e=>W e ρ'
inductive Flw where
 | nx | br | ct | rt (d:D) (f:Fl)
abbrev SM:=M3 Flw
def tS (K:FG) (G0:Gm) (W0:D->Sto->Prop) (m:SM):TS:=fun E σ H=>∃ G W,Le K G W G0 W0/\∃ ρ T g r ρ',Wf K G H σ ρ T g/\m ρ=some (r,ρ')/\match r with
 | .ok .nx=>∀ σ' H' g',Wf K G H' σ' ρ' T g'->E.nx σ' H'
 | .ok .br=>∀ σ' H' g',Wf K G H' σ' ρ' T g'->E.bk σ' H'
 | .ok .ct=>∀ σ' H' g',Wf K G H' σ' ρ' T g'->E.ct σ' H'
 | .ok (.rt d f)=>∀ x σ' H' g',Wf K G H' σ' ρ' (x :: T) g'->x.d=d->x.f=f->E.rt x.v H'
 | .error e=>W e ρ'
section
variable {K:FG} {G G0:Gm} {W W0:D->Sto->Prop} {H H':Hp} {σ:St} {ρ ρ':Sto} {T T':List It3} {g:Nat->Option It3} {x y z:It3} {α β:Type}
theorem aS {r:R3} {k:D->M3 β} {o:Except D β} (e:ae (der r) k ρ=some (o,ρ')):∃ d,der r ρ=some (.ok d,ρ)/\k d ρ=some (o,ρ'):=by
 cases r with
 | pl i =>
  have a:der (.pl i) ρ=((ρ[i]?).join).map fun p=>(.ok p.1,ρ):=rfl
  unfold ae at e
  rw [a] at e ⊢
  cases h:(ρ[i]?).join with
  | none=>rw [h] at e;exact nsE e
  | some p=>rw [h] at e;exact ⟨p.1,rfl,e⟩
 | val d f=>exact ⟨d,rfl,e⟩
theorem bP {o:Option α} {r:Except D α} (e:aZ o ρ=some (r,ρ')):∃ a,o=some a/\r=.ok a/\ρ' = ρ:=by
 unfold aZ at e
 cases o with
 | none=>exact nsE e
 | some a=>cases e;exact ⟨a,rfl,rfl,rfl⟩
theorem Wf.slot (w:Wf K G H σ ρ T g) {i:Nat} {d:D} {f:Fl} (e:(ρ[i]?).join=some (d,f)):∃ y,g i=some y/\y.d=d/\y.f=f/\σ[i]?=some (some y.v):=by
 have h:=w.sl i
 rw [e] at h
 cases q:g i with
 | none=>rw [q] at h;exact nsE h
 | some y =>
  rw [q] at h
  cases h
  exact ⟨y,rfl,rfl,rfl,w.sv i y q⟩
theorem Ar.item {r:R3} {v:V} {Ts:List It3} {d:D} (w:Wf K G H σ ρ T g) (a:Ar σ r v Ts) (j:∀ x ∈ Ts,x ∈ T) (e:der r ρ=some (.ok d,ρ)):∃ y,Itm T g y/\y.d=d/\y.v=v:=by
 cases a with
 | @pl i v h =>
  have c:der (.pl i) ρ=((ρ[i]?).join).map fun p=>(.ok p.1,ρ):=rfl
  rw [c] at e
  cases q:(ρ[i]?).join with
  | none=>rw [q] at e;exact nsE e
  | some p =>
   rw [q] at e
   obtain ⟨y,e1,l,m,b⟩:=w.slot (d:=p.1) (f:=p.2) q
   have k:p.1=d:=by cases e;rfl
   rw [h] at b
   refine ⟨y,.inl ⟨i,e1⟩,l.trans k,?_⟩
   cases b;rfl
 | val x=>cases e;exact ⟨x,.inr (j x (by simp)),rfl,rfl⟩
theorem Wf.done {Us:List It3} {ys:List It3} (w:Wf K G H σ ρ (Us ++ T) g) (a:∀ y ∈ ys,Itm (Us ++ T) g y) (n:New K H H' (dm ys) x):Got K G σ ρ T (.val x.d x.f) x.v H' :=
 ⟨[x],g,(w.push n fun c h=>w.kids a h).sub (by simpa using List.Sublist.cons_cons x (Er Us T)),.val x⟩
theorem tE.seq {ma:EM} {k:R3->M3 β} {r:Except D β} {P:VK} (le:Le K G W G0 W0) (w:Wf K G H σ ρ T g) (e:ae ma k ρ=some (r,ρ')) (he:∀ x,r=.error x->W x ρ')
  (h:∀ ra ρ1,k ra ρ1=some (r,ρ')->∀ v H1,Got K G σ ρ1 T ra v H1->P v H1):tE K G0 W0 ma σ H P:=by
 unfold ae at e
 cases q:ma ρ with
 | none=>rw [q] at e;exact nsE e
 | some p =>
  obtain ⟨o,ρ1⟩:=p
  rw [q] at e
  cases o with
  | error x=>cases e;exact ⟨G,W,le,ρ,T,g,.error x,ρ',w,q,he x rfl⟩
  | ok ra=>exact ⟨G,W,le,ρ,T,g,.ok ra,ρ1,w,q,h ra ρ1 e⟩
theorem tT.seq {ma:M3 Bool} {k:Bool->M3 β} {r:Except D β} {P:Bool->Hp->Prop} (le:Le K G W G0 W0) (w:Wf K G H σ ρ T g) (e:ae ma k ρ=some (r,ρ')) (he:∀ x,r=.error x->W x ρ')
  (h:∀ b ρ1,k b ρ1=some (r,ρ')->∀ H1 g1,Wf K G H1 σ ρ1 T g1->P b H1):tT K G0 W0 ma σ H P:=by
 unfold ae at e
 cases q:ma ρ with
 | none=>rw [q] at e;exact nsE e
 | some p =>
  obtain ⟨o,ρ1⟩:=p
  rw [q] at e
  cases o with
  | error x=>cases e;exact ⟨G,W,le,ρ,T,g,.error x,ρ',w,q,he x rfl⟩
  | ok ra=>exact ⟨G,W,le,ρ,T,g,.ok ra,ρ1,w,q,h ra ρ1 e⟩
theorem tA.seq {ma:M3 (List R3)} {k:List R3->M3 β} {r:Except D β} {P:List V->Hp->Prop} (le:Le K G W G0 W0) (w:Wf K G H σ ρ T g) (e:ae ma k ρ=some (r,ρ')) (he:∀ x,r=.error x->W x ρ')
  (h:∀ rs ρ1,k rs ρ1=some (r,ρ')->∀ a H1 Ts g1,Wf K G H1 σ ρ1 (Ts ++ T) g1->Ars σ rs a Ts->P a H1):tA K G0 W0 ma σ H P:=by
 unfold ae at e
 cases q:ma ρ with
 | none=>rw [q] at e;exact nsE e
 | some p =>
  obtain ⟨o,ρ1⟩:=p
  rw [q] at e
  cases o with
  | error x=>cases e;exact ⟨G,W,le,ρ,T,g,.error x,ρ',w,q,he x rfl⟩
  | ok ra=>exact ⟨G,W,le,ρ,T,g,.ok ra,ρ1,w,q,h ra ρ1 e⟩
def EndE (K:FG) (G:Gm) (W:D->Sto->Prop) (σ:St) (T:List It3) (ρ':Sto) (Q:VK):Except D R3->Prop
 | .ok r=>∀ v H',Got K G σ ρ' T r v H'->Q v H'
 | .error e=>W e ρ'
theorem EndE.err {Q:VK} {r:Except D R3} (h:EndE K G W σ T ρ' Q r):∀ x,r=.error x->W x ρ':=by
 intro x e;subst e;exact h
theorem tE.open {m:EM} {Q:VK} (h:tE K G0 W0 m σ H Q):∃ G W,Le K G W G0 W0/\∃ ρ T g r ρ',Wf K G H σ ρ T g/\m ρ=some (r,ρ')/\EndE K G W σ T ρ' Q r:=by
 obtain ⟨G,W,le,ρ,T,g,r,ρ',w,e,q⟩:=h
 refine ⟨G,W,le,ρ,T,g,r,ρ',w,e,?_⟩
 cases r with
 | ok r=>exact q
 | error x=>exact q
theorem tE.use {m:EM} {Q:VK} (h:tE K G0 W0 m σ H Q) {P:Prop} (k:∀ G W,Le K G W G0 W0->∀ ρ T g r ρ',Wf K G H σ ρ T g->m ρ=some (r,ρ')->EndE K G W σ T ρ' Q r->P):P:=by
 obtain ⟨G,W,le,ρ,T,g,r,ρ',w,e,q⟩:=h.open
 exact k G W le ρ T g r ρ' w e q
theorem tE.mk {m:EM} {Q:VK} {r:Except D R3} (le:Le K G W G0 W0) (w:Wf K G H σ ρ T g) (e:m ρ=some (r,ρ')) (h:EndE K G W σ T ρ' Q r):tE K G0 W0 m σ H Q:=by
 refine ⟨G,W,le,ρ,T,g,r,ρ',w,e,?_⟩
 cases r with
 | ok r=>exact h
 | error x=>exact h
def ac (i:Nat):EM:=fun ρ=>((ρ[i]?).join).map fun _=>(.ok (.pl i),ρ)
theorem BZ {i:Nat} {Q:VK} (h:tE K G0 W0 (ac i) σ H Q):uy i σ H Q:=by
 refine h.use fun G W le ρ T g r ρ' w e q=>?_
 unfold ac at e
 cases h:(ρ[i]?).join with
 | none=>rw [h] at e;exact nsE e
 | some p =>
  rw [h] at e
  cases e
  obtain ⟨y,_,_,_,a⟩:=w.slot (d:=p.1) (f:=p.2) h
  exact ⟨y.v,a,q y.v H ⟨[],g,w,.pl a⟩⟩
def mC (d:D):EM:=aW (.val d .z)
theorem Wf.const {d:D} {v:V} (w:Wf K G H σ ρ T g) (r:Rep K H d v []):Got K G σ ρ T (.val d .z) v H :=
 Wf.done (Us:=[]) (ys:=[]) (x:=⟨d,v,[],.z⟩) w (fun _ h=>(by cases h)) ⟨Same.refl _,r,fun _ h=>(by cases h),fun h=>absurd rfl h⟩
theorem gj {d:D} {v:V} {Q:VK} (r:∀ H,Rep K H d v []) (h:tE K G0 W0 (mC d) σ H Q):tC v σ H Q:=by
 refine h.use fun G W le ρ T g o ρ' w e q=>?_
 cases e
 exact q v H (w.const (r H))
def ah (f:D->D->Option (D × Fl)) (ma mb:EM):EM:=ae ma fun ra=>ae mb fun rb=>ae (der ra) fun da=>ae (der rb) fun db=>aZ ((f da db).map fun p=>R3.val p.1 p.2)
def OpD (K:FG) (r:R2) (f:D->D->Option (D × Fl)):Prop:=∀ (a b:It3) (H:Hp) (Q:VK) (p:D × Fl),Arg K H a->Arg K H b->f a.d b.d=some p ->
 (∀ w H',New K H H' (dm [a,b]) w->w.d=p.1->w.f=p.2->Q w.v H')->r a.v b.v H Q
theorem m4 {Us:List It3} {ys:List It3} {Q:VK} {d:D} {f:Fl} (w:Wf K G H σ ρ (Us ++ T) g) (b:∀ y ∈ ys,Itm (Us ++ T) g y) (q:EndE K G W σ T ρ Q (.ok (.val d f))) :
  ∀ a H',New K H H' (dm ys) a->a.d=d->a.f=f->Q a.v H':=by
 intro a H' n e1 c
 subst e1 c
 exact q a.v H' (w.done b n)
theorem nq {r:R2} {f:D->D->Option (D × Fl)} {ma mb:EM} {Q:VK} (A:OpD K r f) (h:tE K G0 W0 (ah f ma mb) σ H Q):tOp r (tE K G0 W0 ma) (tE K G0 W0 mb) σ H Q:=by
 refine h.use fun G W le ρ T g o ρ' w e q=>?_
 refine tE.seq le w e q.err fun ra ρ1 e1 E H1 ⟨Ts,g1,u,a1⟩=>?_
 refine tE.seq le u e1 q.err fun rb ρ2 C F H2 ⟨Us,g2,a,a2⟩=>?_
 obtain ⟨da,d1,B⟩:=aS C
 obtain ⟨db,t,z⟩:=aS B
 obtain ⟨p,b,rfl,rfl⟩:=bP z
 obtain ⟨m,l,f1,f2⟩:=a1.item a (fun x c=>Eh _ (Eg _ c)) d1
 obtain ⟨n,i,v,f4⟩:=a2.item a (fun x c=>Eg _ c) t
 subst f1 f2 v f4
 cases j:f m.d n.d with
 | none=>rw [j] at b;exact nsE b
 | some s =>
  rw [j] at b
  cases b
  rw [<- List.append_assoc] at a l i
  refine A m n H2 Q s (a.itm l).arg (a.itm i).arg j (m4 a (fun y k=>?_) q)
  rcases Ei.mp k with h | k
  ·rw [h];exact l
  ·rw [EJ.mp k];exact i
def mUn (f:D->Option (D × Fl)) (ma:EM):EM:=ae ma fun ra=>ae (der ra) fun da=>aZ ((f da).map fun p=>R3.val p.1 p.2)
def UnD (K:FG) (r:V->Hp->VK->Prop) (f:D->Option (D × Fl)):Prop:=∀ (a:It3) (H:Hp) (Q:VK) (p:D × Fl),Arg K H a->f a.d=some p ->
 (∀ w H',New K H H' (dm [a]) w->w.d=p.1->w.f=p.2->Q w.v H')->r a.v H Q
theorem Bh {r:V->Hp->VK->Prop} {f:D->Option (D × Fl)} {ma:EM} {Q:VK} (l:UnD K r f) (h:tE K G0 W0 (mUn f ma) σ H Q):tUn r (tE K G0 W0 ma) σ H Q:=by
 refine h.use fun G W le ρ T g o ρ' w e q=>?_
 refine tE.seq le w e q.err fun ra ρ1 e1 t H1 ⟨Ts,g1,b,a1⟩=>?_
 obtain ⟨da,d1,n⟩:=aS e1
 obtain ⟨p,a,rfl,rfl⟩:=bP n
 obtain ⟨i,j,f1,f2⟩:=a1.item b (fun x k=>Eg _ k) d1
 subst f1 f2
 cases c:f i.d with
 | none=>rw [c] at a;exact nsE a
 | some s =>
  rw [c] at a
  cases a
  exact l i H1 Q s (b.itm j).arg c (m4 b (fun y m=>by rw [EJ.mp m];exact j) q)
def af:M3 (List R3):=aW []
def aa (m:EM) (ms:M3 (List R3)):M3 (List R3):=ae m fun r=>ae ms fun rs=>aW (r :: rs)
def EndA (K:FG) (G:Gm) (W:D->Sto->Prop) (σ:St) (T:List It3) (ρ':Sto) (Q:List V->Hp->Prop):Except D (List R3)->Prop
 | .ok rs=>∀ a H' Ts g',Wf K G H' σ ρ' (Ts ++ T) g'->Ars σ rs a Ts->Q a H'
 | .error e=>W e ρ'
theorem EndA.err {Q:List V->Hp->Prop} {r:Except D (List R3)} (h:EndA K G W σ T ρ' Q r):∀ x,r=.error x->W x ρ':=by
 intro x e;subst e;exact h
theorem tA.open {m:M3 (List R3)} {Q:List V->Hp->Prop} (h:tA K G0 W0 m σ H Q):∃ G W,Le K G W G0 W0/\∃ ρ T g r ρ',Wf K G H σ ρ T g/\m ρ=some (r,ρ')/\EndA K G W σ T ρ' Q r:=by
 obtain ⟨G,W,le,ρ,T,g,r,ρ',w,e,q⟩:=h
 refine ⟨G,W,le,ρ,T,g,r,ρ',w,e,?_⟩
 cases r with
 | ok r=>exact q
 | error x=>exact q
theorem tA.use {m:M3 (List R3)} {Q:List V->Hp->Prop} (h:tA K G0 W0 m σ H Q) {P:Prop} (k:∀ G W,Le K G W G0 W0->∀ ρ T g r ρ',Wf K G H σ ρ T g->m ρ=some (r,ρ')->EndA K G W σ T ρ' Q r->P):P:=by
 obtain ⟨G,W,le,ρ,T,g,r,ρ',w,e,q⟩:=h.open
 exact k G W le ρ T g r ρ' w e q
theorem B8 {Q:List V->Hp->Prop} (h:tA K G0 W0 af σ H Q):tNil σ H Q:=by
 refine h.use fun G W le ρ T g r ρ' w e q=>?_
 cases e
 exact q [] H [] g w .nil
theorem zB {m:EM} {ms:M3 (List R3)} {Q:List V->Hp->Prop} (h:tA K G0 W0 (aa m ms) σ H Q):Bj (tE K G0 W0 m) (tA K G0 W0 ms) σ H Q:=by
 refine h.use fun G W le ρ T g r ρ' w e q=>?_
 refine tE.seq le w e q.err fun ra ρ1 e1 a H1 ⟨Ts,g1,b,a1⟩=>?_
 refine tA.seq le b e1 q.err fun rs ρ2 f c H2 Us g2 d a2=>?_
 cases f
 refine q (a :: c) H2 (Us ++ Ts) g2 ?_ (.cons a1 a2)
 rw [List.append_assoc]
 exact d
def cJ:List R3->M3 (List D)
 | []=>aW []
 | r :: rs=>ae (der r) fun d=>ae (cJ rs) fun ds=>aW (d :: ds)
theorem t6:∀ {rs:List R3} {ρ ρ':Sto} {o:Except D (List D)},cJ rs ρ=some (o,ρ')->∃ ds,o=.ok ds/\ρ' = ρ
 | [],ρ,ρ',o,e=>by cases e;exact ⟨[],rfl,rfl⟩
 | r :: rs,ρ,ρ',o,e=>by
  obtain ⟨d,e1,a⟩:=aS (k:=fun d=>ae (cJ rs) fun ds=>aW (d :: ds)) e
  unfold ae at a
  cases q:cJ rs ρ with
  | none=>rw [q] at a;exact nsE a
  | some p =>
   obtain ⟨o',ρ1⟩:=p
   obtain ⟨ds,rfl,rfl⟩:=t6 q
   rw [q] at a
   cases a
   exact ⟨d :: ds,rfl,rfl⟩
theorem bU {rs:List R3} {k:List D->M3 β} {o:Except D β} (e:ae (cJ rs) k ρ=some (o,ρ')):∃ ds,cJ rs ρ=some (.ok ds,ρ)/\k ds ρ=some (o,ρ'):=by
 unfold ae at e
 cases q:cJ rs ρ with
 | none=>rw [q] at e;exact nsE e
 | some p =>
  obtain ⟨o',ρ1⟩:=p
  obtain ⟨ds,rfl,rfl⟩:=t6 q
  rw [q] at e
  exact ⟨ds,rfl,e⟩
theorem Ars.items:∀ {rs:List R3} {c:List V} {Ts:List It3} {ds:List D} ,Wf K G H σ ρ T g->Ars σ rs c Ts->(∀ x ∈ Ts,x ∈ T)->cJ rs ρ=some (.ok ds,ρ)->∃ ys:List It3,(∀ y ∈ ys,Itm T g y)/\ys.map (·.d)=ds/\ys.map (·.v)=c
 | [],_,_,ds,w,.nil,_,e=>by cases e;exact ⟨[],fun _ h=>(by cases h),rfl,rfl⟩
 | r :: rs,_,_,ds,w,.cons a as,hs,e=>by
  obtain ⟨d,e1,o⟩:=aS (k:=fun d=>ae (cJ rs) fun ds=>aW (d :: ds)) e
  obtain ⟨i,m,j⟩:=bU o
  cases j
  obtain ⟨y,n,f1,f2⟩:=a.item w (fun x b=>hs x (Eh _ b)) e1
  obtain ⟨ys,l,f,f4⟩:=Ars.items w as (fun x b=>hs x (Eg _ b)) m
  refine ⟨y :: ys,fun z hz=>?_,by simp [f1,f],by simp [f2,f4]⟩
  rcases Ei.mp hz with h | hz
  ·rw [h];exact n
  ·exact l z hz
def au (f:List D->Option (D × Fl)) (ms:M3 (List R3)):EM:=ae ms fun rs=>ae (cJ rs) fun ds=>aZ ((f ds).map fun p=>R3.val p.1 p.2)
def eM (K:FG) (r:List V->Hp->VK->Prop) (f:List D->Option (D × Fl)):Prop:=∀ (ys:List It3) (H:Hp) (Q:VK) (p:D × Fl),(∀ y ∈ ys,Arg K H y)->f (ys.map (·.d))=some p ->
 (∀ w H',New K H H' (dm ys) w->w.d=p.1->w.f=p.2->Q w.v H')->r (ys.map (·.v)) H Q
theorem kU {r:List V->Hp->VK->Prop} {f:List D->Option (D × Fl)} {ms:M3 (List R3)} {Q:VK} (k:eM K r f) (h:tE K G0 W0 (au f ms) σ H Q):tCB r (tA K G0 W0 ms) σ H Q:=by
 refine h.use fun G W le ρ T g o ρ' w e q=>?_
 refine tA.seq le w e q.err fun rs ρ1 e1 n H1 Ts g1 b a1=>?_
 obtain ⟨ds,d1,m⟩:=bU e1
 obtain ⟨p,a,rfl,rfl⟩:=bP m
 obtain ⟨ys,i,f1,f2⟩:=a1.items b (fun x j=>Eg _ j) d1
 subst f1 f2
 cases c:f (ys.map (·.d)) with
 | none=>rw [c] at a;exact nsE a
 | some s =>
  rw [c] at a
  cases a
  exact k ys H1 Q s (fun y l=>(b.itm (i y l)).arg) c (m4 b i q)
def asB:D->Option Bool
 | .bl b=>some b
 | _=>none
def fQ (ma mb:EM):EM:=ae ma fun ra=>ae (der ra) fun d=>ae (aZ (asB d)) fun b=>if b then mb else aW (.val (.bl false) .z)
def mOr (ma mb:EM):EM:=ae ma fun ra=>ae (der ra) fun d=>ae (aZ (asB d)) fun b=>if b then aW (.val (.bl true) .z) else mb
def p5 (ma:EM):EM:=ae ma fun ra=>ae (der ra) fun d=>ae (aZ (asB d)) fun b=>aW (.val (.bl (!b)) .z)
theorem jI {o:Option α} {k:α->M3 β} {r:Except D β} (e:ae (aZ o) k ρ=some (r,ρ')):∃ a,o=some a/\k a ρ=some (r,ρ'):=by
 unfold ae aZ at e
 cases o with
 | none=>exact nsE e
 | some a=>exact ⟨a,rfl,e⟩
theorem y8 {d:D} {b:Bool} (e:asB d=some b):d=.bl b:=by
 cases d <;> first | exact nsE e | cases e
 rfl
theorem Rep.bl_eq {b:Bool} {v:V} {L:List Addr} (r:Rep K H (.bl b) v L):v=.bl b/\L=[]:=by cases r;exact ⟨rfl,rfl⟩
theorem Ar.bool {ra:R3} {v:V} {Ts:List It3} {d:D} {b:Bool} (w:Wf K G H σ ρ (Ts ++ T) g) (a:Ar σ ra v Ts) (e:der ra ρ=some (.ok d,ρ)) (f:asB d=some b):v=.bl b:=by
 obtain ⟨y,h,f1,f2⟩:=a.item w (fun x c=>Eg _ c) e
 have r:=(w.itm h).rep
 rw [f1,y8 f] at r
 rw [<- f2]
 exact r.bl_eq.1
theorem B6 {ma mb:EM} {Q:VK} (h:tE K G0 W0 (fQ ma mb) σ H Q):Bm (tE K G0 W0 ma) (tE K G0 W0 mb) σ H Q:=by
 refine h.use fun G W le ρ T g o ρ' w e q=>?_
 refine tE.seq le w e q.err fun ra ρ1 e1 k H1 ⟨Ts,g1,a,a1⟩=>?_
 obtain ⟨d,d1,j⟩:=aS e1
 obtain ⟨b,i,c⟩:=jI j
 refine ⟨b,a1.bool a d1 i,?_⟩
 have f:=a.sub (Er Ts T)
 cases b with
 | true=>exact tE.mk le f c q
 | false=>cases c;exact q _ _ (f.const (.bl false))
theorem B3 {ma:EM} {Q:VK} (h:tE K G0 W0 (p5 ma) σ H Q):Bf (tE K G0 W0 ma) σ H Q:=by
 refine h.use fun G W le ρ T g o ρ' w e q=>?_
 refine tE.seq le w e q.err fun ra ρ1 e1 k H1 ⟨Ts,g1,a,a1⟩=>?_
 obtain ⟨d,d1,j⟩:=aS e1
 obtain ⟨b,c,f⟩:=jI j
 refine ⟨b,a1.bool a d1 c,?_⟩
 have i:=a.sub (Er Ts T)
 cases f;exact q _ _ (i.const (.bl (!b)))
def EndT (K:FG) (G:Gm) (W:D->Sto->Prop) (σ:St) (T:List It3) (ρ':Sto) (Q:Bool->Hp->Prop):Except D Bool->Prop
 | .ok b=>∀ H' g',Wf K G H' σ ρ' T g'->Q b H'
 | .error e=>W e ρ'
theorem EndT.err {Q:Bool->Hp->Prop} {r:Except D Bool} (h:EndT K G W σ T ρ' Q r):∀ x,r=.error x->W x ρ':=by
 intro x e;subst e;exact h
theorem tT.open {m:M3 Bool} {Q:Bool->Hp->Prop} (h:tT K G0 W0 m σ H Q):∃ G W,Le K G W G0 W0/\∃ ρ T g r ρ',Wf K G H σ ρ T g/\m ρ=some (r,ρ')/\EndT K G W σ T ρ' Q r:=by
 obtain ⟨G,W,le,ρ,T,g,r,ρ',w,e,q⟩:=h
 refine ⟨G,W,le,ρ,T,g,r,ρ',w,e,?_⟩
 cases r with
 | ok r=>exact q
 | error x=>exact q
theorem tT.use {m:M3 Bool} {Q:Bool->Hp->Prop} (h:tT K G0 W0 m σ H Q) {P:Prop} (k:∀ G W,Le K G W G0 W0->∀ ρ T g r ρ',Wf K G H σ ρ T g->m ρ=some (r,ρ')->EndT K G W σ T ρ' Q r->P):P:=by
 obtain ⟨G,W,le,ρ,T,g,r,ρ',w,e,q⟩:=h.open
 exact k G W le ρ T g r ρ' w e q
theorem tT.mk {m:M3 Bool} {Q:Bool->Hp->Prop} {r:Except D Bool} (le:Le K G W G0 W0) (w:Wf K G H σ ρ T g) (e:m ρ=some (r,ρ')) (h:EndT K G W σ T ρ' Q r):tT K G0 W0 m σ H Q:=by
 refine ⟨G,W,le,ρ,T,g,r,ρ',w,e,?_⟩
 cases r with
 | ok r=>exact h
 | error x=>exact h
def cB (m:EM):M3 Bool:=ae m fun r=>ae (der r) fun d=>aZ (asB d)
theorem tT_b {m:EM} {Q:Bool->Hp->Prop} (h:tT K G0 W0 (cB m) σ H Q):tB (tE K G0 W0 m) σ H Q:=by
 refine h.use fun G W le ρ T g o ρ' w e q=>?_
 refine tE.seq le w e q.err fun ra ρ1 e1 i H1 ⟨Ts,g1,a,a1⟩=>?_
 obtain ⟨d,d1,f⟩:=aS e1
 obtain ⟨b,c,rfl,rfl⟩:=bP f
 exact ⟨b,a1.bool a d1 c,q _ _ (a.sub (Er Ts T))⟩
def A7 (a b:M3 Bool):M3 Bool:=ae a fun c=>if c then b else aW false
def cOr (a b:M3 Bool):M3 Bool:=ae a fun c=>if c then aW true else b
def eU (a:M3 Bool):M3 Bool:=ae a fun c=>aW (!c)
theorem tT_or {a b:M3 Bool} {Q:Bool->Hp->Prop} (h:tT K G0 W0 (cOr a b) σ H Q):tOr (tT K G0 W0 a) (tT K G0 W0 b) σ H Q:=by
 refine h.use fun G W le ρ T g o ρ' w e q=>?_
 refine tT.seq le w e q.err fun c ρ1 e1 H1 g1 d=>?_
 cases c with
 | false=>exact tT.mk le d e1 q
 | true=>cases e1;exact q _ _ d
theorem BO {a:M3 Bool} {Q:Bool->Hp->Prop} (h:tT K G0 W0 (eU a) σ H Q):tNot (tT K G0 W0 a) σ H Q:=by
 refine h.use fun G W le ρ T g o ρ' w e q=>?_
 refine tT.seq le w e q.err fun c ρ1 e1 H1 g1 b=>?_
 cases e1;exact q _ _ b
def mIf (c:M3 Bool) (ma mb:EM):EM:=ae c fun b=>if b then ma else mb
theorem tE_if {c:M3 Bool} {ma mb:EM} {Q:VK} (h:tE K G0 W0 (mIf c ma mb) σ H Q):tIf (tT K G0 W0 c) (tE K G0 W0 ma) (tE K G0 W0 mb) σ H Q:=by
 refine h.use fun G W le ρ T g o ρ' w e q=>?_
 refine tT.seq le w e q.err fun c ρ1 e1 H1 g1 a=>?_
 cases c with
 | true=>exact tE.mk le a e1 q
 | false=>exact tE.mk le a e1 q
end
end L3
end
section
namespace L3
open PySem L2
def dj (x:It3):It3:={ x with f:=.z }
theorem cC {x y:It3}:NoRoot (dj x) y:=fun h=>absurd rfl h
def lowAt (i:Nat) (ρ:Sto):Sto:=match (ρ[i]?).join with
 | some (d,.u)=>ρ.set i (some (d,.z))
 | some (d,.l)=>ρ.set i (some (d,.z))
 | _=>ρ
def frz (is:List Nat) (ρ:Sto):Sto:=is.foldl (fun ρ i=>lowAt i ρ) ρ
def vo (is:List Nat):M3 Unit:=fun ρ=>some (.ok (),frz is ρ)
def pls:List R3->List Nat
 | []=>[]
 | .pl i :: rs=>i :: pls rs
 | .val _ _ :: rs=>pls rs
section
variable {K:FG} {G G0:Gm} {W W0:D->Sto->Prop} {H H':Hp} {σ:St} {ρ ρ':Sto} {T T':List It3} {g:Nat->Option It3} {x y z:It3} {α β:Type}
theorem ItOk.low (h:ItOk K G H x):ItOk K G H (dj x):=⟨h.rep,fun q=>absurd rfl q,h.src⟩
theorem bS {ρ:Sto} {i j:Nat} {o:Option (D × Fl)} (hi:i < ρ.length):((ρ.set i o)[j]?).join=if j=i then o else (ρ[j]?).join:=by
 by_cases e:j=i
 ·subst e
  rw [if_pos rfl,List.getElem?_set_self hi]
  rfl
 ·rw [if_neg e,List.getElem?_set_ne (fun h=>e h.symm)]
theorem dB {ρ:Sto} {i:Nat} {p:D × Fl} (h:(ρ[i]?).join=some p):i < ρ.length:=by
 cases q:ρ[i]? with
 | none=>rw [q] at h;exact nsE h
 | some o=>exact (Eo.mp q).1
theorem Wf.lowSlot (w:Wf K G H σ ρ T g) {i:Nat} {d:D} {f:Fl} (e:(ρ[i]?).join=some (d,f)):Wf K G H σ (ρ.set i (some (d,.z))) T (fun j=>if j=i then (g i).map dj else g j):=by
 have hi:=dB e
 obtain ⟨y,s,B,F,ev⟩:=w.slot e
 have val:∀ j x,(if j=i then (g i).map dj else g j)=some x->∃ x0,g j=some x0/\(x=x0\/x=dj x0)/\(j=i->x=dj x0):=fun j x h=>by
  by_cases q:j=i
  ·subst q
   rw [if_pos rfl,s] at h
   cases h
   exact ⟨y,s,.inr rfl,fun _=>rfl⟩
  ·rw [if_neg q] at h
   exact ⟨x,h,.inl rfl,fun z=>absurd z q⟩
 have u:∀ {a b:It3},NoRoot a b->∀ p l,(p=a\/p=dj a)->(l=b\/l=dj b)->NoRoot p l:=fun h p l h1 h2=>by
  rcases h1 with rfl | rfl
  ·rcases h2 with rfl | rfl
   ·exact h
   ·exact h
  ·exact cC
 refine ⟨by rw [List.length_set];exact w.len,fun j=>?_,fun j x h=>?_,fun j x h=>?_,w.okT,fun j k a b n h1 h2=>?_,fun j a h b m=>?_,w.tt,w.base,w.pro,⟨w.fx.frT,fun j x h E hf a A=>?_,w.fx.bin,w.fx.ob,fun j x h v=>?_⟩⟩
 ·rw [bS hi]
  by_cases q:j=i
  ·subst q
   rw [if_pos rfl,if_pos rfl,s]
   show some ((dj y).d,Fl.z)=_
   rw [<- B];rfl
  ·rw [if_neg q,if_neg q];exact w.sl j
 ·obtain ⟨x0,h0,c,_⟩:=val j x h
  have:=w.sv j x0 h0
  rcases c with rfl | rfl <;> exact this
 ·obtain ⟨x0,h0,c,_⟩:=val j x h
  rcases c with rfl | rfl
  ·exact w.okS j x h0
  ·exact (w.okS j x0 h0).low
 ·obtain ⟨o,h0,r,_⟩:=val j a h1
  obtain ⟨C,t,m,_⟩:=val k b h2
  exact u (w.ss j k o C n h0 t) a b r m
 ·obtain ⟨o,h0,r,_⟩:=val j a h
  exact ⟨u (w.st j o h0 b m).1 a b r (.inl rfl),u (w.st j o h0 b m).2 b a (.inl rfl) r⟩
 ·obtain ⟨x0,h0,c,_⟩:=val j x h
  rcases c with rfl | rfl
  ·exact w.fx.frS j x h0 E hf a A
  ·exact absurd rfl hf
 ·obtain ⟨x0,h0,c,_⟩:=val j x h
  rcases c with rfl | rfl
  ·exact w.fx.lvS j x h0 v
  ·cases v
def Kin (x y:It3):Prop:=y.d=x.d/\y.v=x.v/\y.L=x.L/\(y.f=x.f\/y.f=.z)
theorem Kin.refl (x:It3):Kin x x:=⟨rfl,rfl,rfl,.inl rfl⟩
theorem Kin.trans (a:Kin x y) (b:Kin y z):Kin x z:=⟨b.1.trans a.1,b.2.1.trans a.2.1,b.2.2.1.trans a.2.2.1,by
 rcases b.2.2.2 with h | h
 ·rcases a.2.2.2 with h' | h'
  ·exact .inl (h.trans h')
  ·exact .inr (h.trans h')
 ·exact .inr h⟩
theorem Wf.lowAt {i:Nat} (w:Wf K G H σ ρ T g):∃ g',Wf K G H σ (lowAt i ρ) T g'/\(∀ j y,g j=some y->∃ a,g' j=some a/\Kin y a/\(j=i->a.f=.z)):=by
 have keep:∀ d,(ρ[i]?).join=some (d,.z)->∃ g',Wf K G H σ ρ T g'/\(∀ j y,g j=some y->∃ a,g' j=some a/\Kin y a/\(j=i->a.f=.z)):=fun d e=>⟨g,w,fun j y h=>⟨y,h,Kin.refl y,fun q=>by
  subst q
  obtain ⟨a,h',_,hf,_⟩:=w.slot e
  rw [h] at h';cases h';exact hf⟩⟩
 have low:∀ d f,(ρ[i]?).join=some (d,f)->∃ g',Wf K G H σ (ρ.set i (some (d,.z))) T g'/\(∀ j y,g j=some y->∃ a,g' j=some a/\Kin y a/\(j=i->a.f=.z)):=fun d f e=>⟨_,w.lowSlot e,fun j y h=>by
  by_cases q:j=i
  ·subst q;exact ⟨dj y,by rw [if_pos rfl,h];rfl,⟨rfl,rfl,rfl,.inr rfl⟩,fun _=>rfl⟩
  ·exact ⟨y,by rw [if_neg q];exact h,Kin.refl y,fun z=>absurd z q⟩⟩
 unfold L3.lowAt
 cases e:(ρ[i]?).join with
 | none =>
  refine ⟨g,w,fun j y h=>⟨y,h,Kin.refl y,fun q=>?_⟩⟩
  subst q
  have:=w.sl j
  rw [h,e] at this;cases this
 | some p =>
  obtain ⟨d,f⟩:=p
  cases f with
  | u=>exact low d _ e
  | l=>exact low d _ e
  | z=>exact keep d e
theorem Wf.frz:∀ {is:List Nat} {ρ:Sto} {g:Nat->Option It3},Wf K G H σ ρ T g->∃ g',Wf K G H σ (frz is ρ) T g'/\(∀ j y,g j=some y->∃ a,g' j=some a/\Kin y a/\(j ∈ is->a.f=.z))
 | [],ρ,g,w=>⟨g,w,fun j y h=>⟨y,h,Kin.refl y,fun q=>by cases q⟩⟩
 | i :: is,ρ,g,w=>by
  obtain ⟨g1,k,h1⟩:=w.lowAt (i:=i)
  obtain ⟨g2,m,h2⟩:=Wf.frz (is:=is) k
  refine ⟨g2,m,fun j y h=>?_⟩
  obtain ⟨l,e1,d,c⟩:=h1 j y h
  obtain ⟨e,o,b,n⟩:=h2 j l e1
  refine ⟨e,o,d.trans b,fun hm=>?_⟩
  rcases Ei.mp hm with q | q
  ·rcases b.2.2.2 with h | h
   ·exact h.trans (c q)
   ·exact h
  ·exact n q
theorem Wf.lowT {Ts:List It3} (w:Wf K G H σ ρ (Ts ++ T) g):Wf K G H σ ρ (Ts.map dj ++ T) g:=by
 have sp:∀ {a b:It3},Apart3 a b->Apart3 (dj a) (dj b):=fun h=>⟨cC,cC⟩
 refine ⟨w.len,w.sl,w.sv,w.okS,fun x c=>?_,w.ss,fun i x e y j=>?_,?_,w.base,w.pro,⟨fun x c hf a d=>?_,w.fx.frS,w.fx.bin,w.fx.ob,w.fx.lvS⟩⟩
 ·rcases El.mp c with h | h
  ·obtain ⟨x0,h0,rfl⟩:=Es.mp h
   exact (w.okT x0 (Eg _ h0)).low
  ·exact w.okT x (Eh _ h)
 ·rcases El.mp j with h | h
  ·obtain ⟨y0,h0,rfl⟩:=Es.mp h
   exact ⟨(w.st i x e y0 (Eg _ h0)).1,cC⟩
  ·exact w.st i x e y (Eh _ h)
 ·have h:=List.pairwise_append.mp w.tt
  refine List.pairwise_append.mpr ⟨?_,h.2.1,fun a l b k=>?_⟩
  ·rw [List.pairwise_map]
   exact h.1.imp fun h=>sp h
  ·obtain ⟨f,h0,rfl⟩:=Es.mp l
   exact ⟨cC,(h.2.2 f h0 b k).2⟩
 ·rcases El.mp c with h | h
  ·obtain ⟨x0,h0,rfl⟩:=Es.mp h
   exact absurd rfl hf
  ·exact w.fx.frT x (Eh _ h) hf a d
theorem kM:∀ {rs:List R3} {i:Nat},R3.pl i ∈ rs->i ∈ pls rs
 | [],_,h=>by cases h
 | .pl j :: rs,i,h=>by
  rcases Ei.mp h with e | h
  ·cases e;exact Ec
  ·exact Ed _ (kM h)
 | .val _ _ :: rs,i,h=>by
  rcases Ei.mp h with e | h
  ·cases e
  ·exact kM (rs:=rs) h
theorem Ars.given:∀ {rs:List R3} {m:List V} {Ts:List It3} {ds:List D} {S:List It3} {g':Nat->Option It3} {is:List Nat},Wf K G H σ ρ T g->(∀ j y,g j=some y->∃ b,g' j=some b/\Kin y b/\(j ∈ is->b.f=.z))->(∀ i,R3.pl i ∈ rs->i ∈ is) ->
  Ars σ rs m Ts->(∀ x ∈ Ts,x ∈ T)->(∀ x ∈ Ts,dj x ∈ S)->cJ rs ρ=some (.ok ds,ρ)->∃ ys:List It3,(∀ y ∈ ys,Itm S g' y/\y.f=.z)/\ys.map (·.d)=ds/\ys.map (·.v)=m
 | [],_,_,ds,S,g',is,w,hg,hi,.nil,_,_,e=>by cases e;exact ⟨[],fun _ h=>(by cases h),rfl,rfl⟩
 | r :: rs,_,_,ds,S,g',is,w,hg,hi,.cons (v:=v0) a as,hs,hS,e=>by
  obtain ⟨d,e1,I⟩:=aS (k:=fun d=>ae (cJ rs) fun ds=>aW (d :: ds)) e
  obtain ⟨n,C,u⟩:=bU I
  cases u
  obtain ⟨ys,o,s,f4⟩:=Ars.given w hg (fun i h=>hi i (Ed _ h)) as (fun x c=>hs x (Eg _ c)) (fun x c=>hS x (Eg _ c)) C
  have one:∃ y,(Itm S g' y/\y.f=.z)/\y.d=d/\y.v=v0:=by
   cases a with
   | @pl i v h =>
    have t:der (.pl i) ρ=((ρ[i]?).join).map fun p=>(.ok p.1,ρ):=rfl
    rw [t] at e1
    cases q:(ρ[i]?).join with
    | none=>rw [q] at e1;exact nsE e1
    | some p =>
     rw [q] at e1
     obtain ⟨y,E,B,J,l⟩:=w.slot (d:=p.1) (f:=p.2) q
     obtain ⟨b,h1,h2,h3⟩:=hg i y E
     have A:p.1=d:=by cases e1;rfl
     rw [h] at l
     refine ⟨b,⟨.inl ⟨i,h1⟩,h3 (hi i Ec)⟩,h2.1.trans (B.trans A),?_⟩
     rw [h2.2.1];cases l;rfl
   | val x=>cases e1;exact ⟨dj x,⟨.inr (hS x (by simp)),rfl⟩,rfl,rfl⟩
  obtain ⟨y,F,f1,f2⟩:=one
  refine ⟨y :: ys,fun z hz=>?_,by simp [f1,s],by simp [f2,f4]⟩
  rcases Ei.mp hz with h | hz
  ·rw [h];exact F
  ·exact o z hz
def dq (ys:List It3) (c:Addr):Prop:=∃ y ∈ ys,c ∈ y.L
def gives (rs:List R3):M3 (List D):=ae (cJ rs) fun ds=>ae (vo (pls rs)) fun _=>aW ds
theorem Ars.gives {rs:List R3} {m:List V} {Ts:List It3} {k:List D->M3 β} {r:Except D β} (w:Wf K G H σ ρ (Ts ++ T) g) (a:Ars σ rs m Ts) (e:ae (gives rs) k ρ=some (r,ρ')) :
  ∃ ds ρ1 g1,k ds ρ1=some (r,ρ')/\ρ1=frz (pls rs) ρ/\Wf K G H σ ρ1 (Ts.map dj ++ T) g1/\(∀ j y,g j=some y->∃ c,g1 j=some c/\Kin y c)/\∃ ys:List It3,(∀ y ∈ ys,Itm (Ts.map dj ++ T) g1 y/\y.f=.z)/\ys.map (·.d)=ds/\ys.map (·.v)=m:=by
 unfold L3.gives at e
 have n:ae (cJ rs) (fun ds=>ae (vo (pls rs)) fun _=>k ds) ρ=some (r,ρ'):=by
  rw [<- e]
  unfold ae
  cases q:cJ rs ρ with
  | none=>rfl
  | some p =>
   obtain ⟨o,ρ2⟩:=p
   cases o with
   | error x=>rfl
   | ok ds=>rfl
 obtain ⟨ds,d1,e1⟩:=bU n
 obtain ⟨g1,s,h1⟩:=Wf.frz (is:=pls rs) w
 refine ⟨ds,L3.frz (pls rs) ρ,g1,e1,rfl,s.lowT,fun j y h=>let ⟨c,a,b,_⟩:=h1 j y h;⟨c,a,b⟩,?_⟩
 exact Ars.given w h1 (fun i h=>kM h) a (fun x l=>Eg _ l) (fun x l=>Eg _ (Es.mpr ⟨x,l,rfl⟩)) d1
theorem Wf.alls (w:Wf K G H σ ρ T g) {ys:List It3} (a:∀ y ∈ ys,Itm T g y/\y.f=.z) {c:Addr} (h:dq ys c):dD T g c/\(G.H0 c=none\/G.src c):=by
 obtain ⟨y,m,b⟩:=h
 exact ⟨w.kid (a y m).1 b fun hf=>absurd (a y m).2 hf,(w.itm (a y m).1).src c b⟩
theorem Wf.doneA {Us:List It3} {ys:List It3} (w:Wf K G H σ ρ (Us ++ T) g) (a:∀ y ∈ ys,Itm (Us ++ T) g y/\y.f=.z) (n:New K H H' (dq ys) x):Got K G σ ρ T (.val x.d x.f) x.v H' :=
 ⟨[x],g,(w.push n fun c h=>w.alls a h).sub (by simpa using List.Sublist.cons_cons x (Er Us T)),.val x⟩
theorem kJ:∀ {ys:List It3},(∀ y ∈ ys,Rep K H y.d y.v y.L)->Reps (Rep K H) (ys.map (·.d)) (ys.map (·.v)) (ys.map (·.L)).flatten
 | [],_=>.nil
 | y :: ys,h=>.cons (h y Ec) (kJ fun z hz=>h z (Ed _ hz))
theorem fc {ys:List It3} {c:Addr} (h:c ∈ (ys.map (·.L)).flatten):dq ys c:=by
 obtain ⟨l,a,d⟩:=List.mem_flatten.mp h
 obtain ⟨y,b,rfl⟩:=Es.mp a
 exact ⟨y,b,d⟩
def pZ (mk:List D->D) (f:Fl) (ms:M3 (List R3)):EM:=ae ms fun rs=>ae (gives rs) fun ds=>aZ (if ds.length<=16777216 then some (.val (mk ds) f) else none)
abbrev bp:M3 (List R3)->EM:=pZ .tup .z
abbrev cA:M3 (List R3)->EM:=pZ .lst .u
theorem bJ {H:Hp} {p:Addr} {o:HO} (h:H p=none):Same H (upd H p o):=fun b u e=>by
 rw [aw (aX e h)];exact e
theorem B0 (hz:(16777216:Nat)=sizeLine) {ms:M3 (List R3)} {Q:VK} (h:tE K G0 W0 (bp ms) σ H Q):tTup (tA K G0 W0 ms) σ H Q:=by
 refine h.use fun G W le ρ T g o ρ' w e q=>?_
 refine tA.seq le w e q.err fun rs ρ1 e1 r H1 Ts g1 l a1=>?_
 obtain ⟨ds,ρ2,g2,n,_,j,_,ys,f,f1,f2⟩:=a1.gives l e1
 obtain ⟨v,b,rfl,rfl⟩:=bP n
 subst f1 f2
 split at b
 ·rename_i k
  cases b
  refine ⟨by rw [En] at k ⊢;omega,fun p i=>?_⟩
  refine q _ _ (Wf.doneA (x:=⟨.tup (ys.map (·.d)),.ref p,(ys.map (·.L)).flatten,.z⟩) j f ⟨bJ i,.tup aJ ((kJ fun y a=>(j.itm (f y a).1).rep).same (bJ i)),fun c m=>.inr (fc m),fun hf=>absurd rfl hf⟩)
 ·exact nsE b
theorem B5 (hz:(16777216:Nat)=sizeLine) {ms:M3 (List R3)} {Q:VK} (h:tE K G0 W0 (cA ms) σ H Q):tLst (tA K G0 W0 ms) σ H Q:=by
 refine h.use fun G W le ρ T g o ρ' w e q=>?_
 refine tA.seq le w e q.err fun rs ρ1 e1 s H1 Ts g1 n a1=>?_
 obtain ⟨ds,ρ2,g2,r,_,k,_,ys,i,f1,f2⟩:=a1.gives n e1
 obtain ⟨v,j,rfl,rfl⟩:=bP r
 subst f1 f2
 split at j
 ·rename_i m
  cases j
  refine ⟨by rw [En] at m ⊢;omega,fun p b=>?_⟩
  have np:p ∉ (ys.map (·.L)).flatten:=fun a=>by
   obtain ⟨y,hm,a⟩:=fc a
   obtain ⟨o,l⟩:=((k.itm (i y hm).1).rep.inH p a).ex
   rw [b] at l;exact nsE l
  refine q _ _ (Wf.doneA (x:=⟨.lst (ys.map (·.d)),.ref p,p :: (ys.map (·.L)).flatten,.u⟩) k i ⟨bJ b,.lst aJ ((kJ fun y f=>(k.itm (i y f).1).rep).same (bJ b)),fun c a=>?_,fun _=>⟨rfl,p,_,rfl,rfl,np,b⟩⟩)
  rcases Ei.mp a with e | a
  ·rw [e];exact .inl b
  ·exact .inr (fc a)
 ·exact nsE j
end
end L3
end
section
namespace L3
open PySem L2
section
variable {K:FG} {G G0:Gm} {W W0:D->Sto->Prop} {H H':Hp} {σ:St} {ρ ρ':Sto} {T T':List It3} {g:Nat->Option It3} {x y z:It3} {α β:Type}
def EndS (K:FG) (G:Gm) (W:D->Sto->Prop) (T:List It3) (ρ':Sto) (E:Ends):Except D Flw->Prop
 | .ok .nx=>∀ σ' H' g',Wf K G H' σ' ρ' T g'->E.nx σ' H'
 | .ok .br=>∀ σ' H' g',Wf K G H' σ' ρ' T g'->E.bk σ' H'
 | .ok .ct=>∀ σ' H' g',Wf K G H' σ' ρ' T g'->E.ct σ' H'
 | .ok (.rt d f)=>∀ x σ' H' g',Wf K G H' σ' ρ' (x :: T) g'->x.d=d->x.f=f->E.rt x.v H'
 | .error e=>W e ρ'
theorem EndS.err {E:Ends} {r:Except D Flw} (h:EndS K G W T ρ' E r):∀ x,r=.error x->W x ρ':=by
 intro x e;subst e;exact h
theorem tS.open {m:SM} {E:Ends} (h:tS K G0 W0 m E σ H):∃ G W,Le K G W G0 W0/\∃ ρ T g r ρ',Wf K G H σ ρ T g/\m ρ=some (r,ρ')/\EndS K G W T ρ' E r:=by
 obtain ⟨G,W,le,ρ,T,g,r,ρ',w,e,q⟩:=h
 refine ⟨G,W,le,ρ,T,g,r,ρ',w,e,?_⟩
 cases r with
 | ok r=>cases r <;> exact q
 | error x=>exact q
theorem tS.use {m:SM} {E:Ends} (h:tS K G0 W0 m E σ H) {P:Prop} (k:∀ G W,Le K G W G0 W0->∀ ρ T g r ρ',Wf K G H σ ρ T g->m ρ=some (r,ρ')->EndS K G W T ρ' E r->P):P:=by
 obtain ⟨G,W,le,ρ,T,g,r,ρ',w,e,q⟩:=h.open
 exact k G W le ρ T g r ρ' w e q
theorem tS.mk {m:SM} {E:Ends} {r:Except D Flw} (le:Le K G W G0 W0) (w:Wf K G H σ ρ T g) (e:m ρ=some (r,ρ')) (h:EndS K G W T ρ' E r):tS K G0 W0 m E σ H:=by
 refine ⟨G,W,le,ρ,T,g,r,ρ',w,e,?_⟩
 cases r with
 | ok r=>cases r <;> exact h
 | error x=>exact h
def dy:SM:=aW .nx
def aE (a b:SM):SM:=ae a fun f=>match f with
 | .nx=>b
 | o=>aW o
theorem BT {E:Ends} (h:tS K G0 W0 dy E σ H):Bg E σ H:=by
 refine h.use fun G W le ρ T g r ρ' w e q=>?_
 cases e
 exact q _ _ _ w
theorem BR {a b:SM} {E:Ends} (h:tS K G0 W0 (aE a b) E σ H):tSeq (tS K G0 W0 a) (tS K G0 W0 b) E σ H:=by
 refine h.use fun G W le ρ T g r ρ' w e q=>?_
 unfold aE ae at e
 cases p:a ρ with
 | none=>rw [p] at e;exact nsE e
 | some p' =>
  obtain ⟨o,ρ1⟩:=p'
  rw [p] at e
  cases o with
  | error x=>cases e;exact tS.mk le w p q
  | ok f =>
   cases f with
   | nx=>exact tS.mk le (r:=.ok .nx) w p fun σ' H' g' c=>tS.mk le c e q
   | br=>cases e;exact tS.mk le w p q
   | ct=>cases e;exact tS.mk le w p q
   | rt d f=>cases e;exact tS.mk le w p q
def fZ (m:EM):SM:=ae m fun _=>aW .nx
theorem zq {m:EM} {E:Ends} (h:tS K G0 W0 (fZ m) E σ H):Bi (tE K G0 W0 m) E σ H:=by
 refine h.use fun G W le ρ T g r ρ' w e q=>?_
 refine tE.seq le w e q.err fun ra ρ1 e1 v H1 ⟨Ts,g1,a,a1⟩=>?_
 cases e1
 exact q _ _ _ (a.sub (Er Ts T))
def sIf (c:M3 Bool) (a b:SM):SM:=ae c fun t=>if t then a else b
theorem tS_if {c:M3 Bool} {a b:SM} {E:Ends} (h:tS K G0 W0 (sIf c a b) E σ H):tIfS (tT K G0 W0 c) (tS K G0 W0 a) (tS K G0 W0 b) E σ H:=by
 refine h.use fun G W le ρ T g r ρ' w e q=>?_
 refine tT.seq le w e q.err fun t ρ1 e1 H1 g1 d=>?_
 cases t with
 | true=>exact tS.mk le d e1 q
 | false=>exact tS.mk le d e1 q
def nol:Fl->Fl
 | .u=>.u
 | _=>.z
theorem Dh (f:Fl):nol f ≠ .l:=by cases f <;> intro h <;> cases h
theorem Dg (f:Fl):nol f=f\/nol f=.z:=by cases f <;> first | exact .inl rfl | exact .inr rfl
def cW (r:R3):M3 (D × Fl):=match r with
 | .val d f=>aW (d,nol f)
 | .pl i=>fun ρ=>((ρ[i]?).join).map fun p=>(.ok (p.1,.z),lowAt i ρ)
theorem oV {i:Nat}:cW (.pl i) ρ=((ρ[i]?).join).map fun p=>(.ok (p.1,.z),lowAt i ρ):=rfl
theorem Ar.val_inv {d:D} {f:Fl} {v:V} {Ts:List It3} (a:Ar σ (.val d f) v Ts):∃ x,Ts=[x]/\x.d=d/\x.f=f/\x.v=v:=by
 generalize h:R3.val d f=r at a
 cases a with
 | pl _=>cases h
 | val x=>cases h;exact ⟨x,rfl,rfl,rfl,rfl⟩
theorem Ar.take {r:R3} {v:V} {Ts:List It3} {k:D × Fl->M3 β} {o:Except D β} (w:Wf K G H σ ρ (Ts ++ T) g) (a:Ar σ r v Ts) (e:ae (cW r) k ρ=some (o,ρ')) :
  ∃ p ρ1 g1 x,k p ρ1=some (o,ρ')/\Wf K G H σ ρ1 (x :: T) g1/\x.d=p.1/\(p.2=x.f\/p.2=.z)/\p.2 ≠ .l/\x.v=v:=by
 cases a with
 | val x=>exact ⟨(x.d,nol x.f),ρ,g,x,e,w,rfl,Dg _,Dh _,rfl⟩
 | @pl i v h =>
  unfold ae at e
  rw [oV] at e
  cases q:(ρ[i]?).join with
  | none=>rw [q] at e;exact nsE e
  | some p =>
   rw [q] at e
   obtain ⟨y,J,F,L,A⟩:=w.slot (d:=p.1) (f:=p.2) q
   obtain ⟨g1,b,h1⟩:=w.lowAt (i:=i)
   obtain ⟨c,m,t,I⟩:=h1 i y J
   have hz:=I rfl
   refine ⟨(p.1,.z),_,g1,c,e,?_,t.1.trans F,.inr rfl,(by intro h;cases h),?_⟩
   ·have s:∀ u:It3,NoRoot c u:=fun u hf=>absurd hz hf
    refine ⟨b.len,b.sl,b.sv,b.okS,fun u hu=>?_,b.ss,fun j u n C hu=>?_,?_,b.base,b.pro,⟨fun u hu hf a E=>?_,b.fx.frS,b.fx.bin,b.fx.ob,b.fx.lvS⟩⟩
    ·rcases Ei.mp hu with h | hu
     ·rw [h];exact b.okS i c m
     ·exact b.okT u hu
    ·rcases Ei.mp hu with h | hu
     ·rw [h]
      refine ⟨?_,s _⟩
      by_cases B:j=i
      ·subst B
       rw [m] at n;cases n
       exact s _
      ·exact b.ss j i u c B n m
     ·exact b.st j u n C hu
    ·exact List.pairwise_cons.mpr ⟨fun u hu=>⟨s _,(b.st i c m u hu).2⟩,b.tt⟩
    ·rcases Ei.mp hu with h | hu
     ·rw [h] at hf;exact absurd hz hf
     ·exact b.fx.frT u hu hf a E
   ·rw [t.2.1]
    rw [h] at A;cases A;rfl
theorem Wf.store {i:Nat} {f:Fl} (w:Wf K G H σ ρ (x :: T) g) (hi:i < ρ.length) (J:G.pr i=false) (hf:f=x.f\/f=.z) (y:f ≠ .l) :
  Wf K G H (σ.set i (some x.v)) (ρ.set i (some (x.d,f))) T (fun j=>if j=i then some { x with f:=f } else g j):=by
 have B:i < σ.length:=by rw [w.len];exact hi
 have t:=List.pairwise_cons.mp w.tt
 have A:=w.okT x Ec
 have nx:∀ u:It3,NoRoot x u->NoRoot { x with f:=f } u:=fun u h q=>by
  rcases hf with e | e
  ·exact h (by rw [<- e];exact q)
  ·exact absurd e q
 have val:∀ j u,(if j=i then some { x with f:=f } else g j)=some u->(j=i/\u = { x with f:=f })\/(j ≠ i/\g j=some u):=fun j u h=>by
  by_cases q:j=i
  ·rw [if_pos q] at h;cases h;exact .inl ⟨q,rfl⟩
  ·rw [if_neg q] at h;exact .inr ⟨q,h⟩
 refine ⟨by rw [List.length_set,List.length_set];exact w.len,fun j=>?_,fun j u h=>?_,fun j u h=>?_,fun u hu=>w.okT u (Ed _ hu),fun j k a b n h1 h2=>?_,fun j a h b s=>?_,t.2,w.base,fun j C=>?_,⟨fun u hu=>w.fx.frT u (Ed _ hu),fun j u h r c a p=>?_,w.fx.bin,w.fx.ob,fun j u h D=>?_⟩⟩
 ·rw [bS hi]
  by_cases q:j=i
  ·rw [if_pos q,if_pos q];rfl
  ·rw [if_neg q,if_neg q];exact w.sl j
 ·rcases val j u h with ⟨rfl,rfl⟩ | ⟨n,h⟩
  ·rw [List.getElem?_set_self B]
  ·rw [List.getElem?_set_ne (fun z=>n z.symm)];exact w.sv j u h
 ·rcases val j u h with ⟨rfl,rfl⟩ | ⟨n,h⟩
  ·refine ⟨A.rep,fun q=>?_,A.src⟩
   rcases hf with e | e
   ·subst e
    exact A.own q
   ·exact absurd e q
  ·exact w.okS j u h
 ·rcases val j a h1 with ⟨L,p⟩ | ⟨M,o⟩
  ·rcases val k b h2 with ⟨E,F⟩ | ⟨I,m⟩
   ·exact absurd (L.trans E.symm) n
   ·rw [p];exact nx b (w.st k b m x Ec).2
  ·rcases val k b h2 with ⟨E,F⟩ | ⟨I,m⟩
   ·rw [F];exact (w.st j a o x Ec).1
   ·exact w.ss j k a b n o m
 ·rcases val j a h with ⟨rfl,rfl⟩ | ⟨n,h⟩
  ·exact ⟨nx b (t.1 b s).1,(t.1 b s).2⟩
  ·exact w.st j a h b (Ed _ s)
 ·have n:j ≠ i:=fun z=>by subst z;rw [J] at C;cases C
  rw [List.getElem?_set_ne (fun z=>n z.symm)];exact w.pro j C
 ·rcases val j u h with ⟨_,rfl⟩ | ⟨n,h⟩
  ·rcases hf with e | e
   ·exact w.fx.frT x Ec (by rw [<- e];exact c) a p
   ·exact absurd e c
  ·exact w.fx.frS j u h r c a p
 ·rcases val j u h with ⟨_,rfl⟩ | ⟨n,h⟩
  ·exact absurd D y
  ·exact w.fx.lvS j u h D
def aP (i:Nat) (m:EM):SM:=ae m fun r=>ae (cW r) fun p=>fun ρ=>if i < ρ.length then some (.ok .nx,ρ.set i (some p)) else none
theorem BQ {i:Nat} {m:EM} {E:Ends} (c:G0.pr i=false) (h:tS K G0 W0 (aP i m) E σ H):wc (tE K G0 W0 m) (tY i) E σ H:=by
 refine h.use fun G W le ρ T g r ρ' w e q=>?_
 refine tE.seq le w e q.err fun ra ρ1 e1 v H1 ⟨Ts,g1,d,a1⟩=>?_
 obtain ⟨p,ρ2,g2,x,a,j,f1,f2,f4,b⟩:=a1.take d e1
 split at a
 ·rename_i hi
  cases a
  have:=j.store (f:=p.2) hi (by rw [le.pr];exact c) f2 f4
  rw [f1,b] at this
  exact q _ _ _ this
 ·exact nsE a
def aV (np:Nat) (m:EM):SM:=ae m fun r=>match r with
 | .val d f=>aW (.rt d f)
 | .pl i=>fun ρ=>match (ρ[i]?).join with
  | some (d,.u)=>if i < np then some (.ok (.rt d .z),lowAt i ρ) else some (.ok (.rt d .u),ρ.set i none)
  | some (d,_)=>some (.ok (.rt d .z),lowAt i ρ)
  | none=>none
def sU:SM:=aW (.rt .non .z)
theorem Wf.move {i:Nat} (w:Wf K G H σ ρ T g) (f:G.pr i=false) (e:g i=some y):Wf K G H σ (ρ.set i none) (y :: T) (fun j=>if j=i then none else g j):=by
 have hi:i < ρ.length:=by
  have:=w.sl i
  rw [e] at this
  exact dB this.symm
 have val:∀ j u,(if j=i then none else g j)=some u->j ≠ i/\g j=some u:=fun j u h=>by
  by_cases q:j=i
  ·rw [if_pos q] at h;exact nsE h
  ·rw [if_neg q] at h;exact ⟨q,h⟩
 refine ⟨by rw [List.length_set];exact w.len,fun j=>?_,fun j u h=>w.sv j u (val j u h).2,fun j u h=>w.okS j u (val j u h).2,fun u hu=>?_,fun j k a b n h1 h2=>w.ss j k a b n (val j a h1).2 (val k b h2).2,fun j a h b c=>?_,?_,w.base,w.pro,⟨fun u hu hf a d=>?_,fun j u h=>w.fx.frS j u (val j u h).2,w.fx.bin,w.fx.ob,fun j u h=>w.fx.lvS j u (val j u h).2⟩⟩
 ·rw [bS hi]
  by_cases q:j=i
  ·rw [if_pos q,if_pos q];rfl
  ·rw [if_neg q,if_neg q];exact w.sl j
 ·rcases Ei.mp hu with h | hu
  ·rw [h];exact w.okS i y e
  ·exact w.okT u hu
 ·obtain ⟨n,h⟩:=val j a h
  rcases Ei.mp c with h' | c
  ·rw [h'];exact ⟨w.ss j i a y n h e,w.ss i j y a (Ne.symm n) e h⟩
  ·exact w.st j a h b c
 ·exact List.pairwise_cons.mpr ⟨fun u hu=>w.st i y e u hu,w.tt⟩
 ·rcases Ei.mp hu with h | hu
  ·subst h;exact w.fx.frS i u e f hf a d
  ·exact w.fx.frT u hu hf a d
theorem BS {np:Nat} {m:EM} {E:Ends} (n:∀ i,np<=i->G0.pr i=false) (h:tS K G0 W0 (aV np m) E σ H):tRet (tE K G0 W0 m) E σ H:=by
 refine h.use fun G W le ρ T g r ρ' w e q=>?_
 refine tE.seq le w e q.err fun ra ρ1 e1 v H1 ⟨Ts,g1,j,a1⟩=>?_
 have low:∀ {i:Nat} {d:D} {f:Fl},(ρ1[i]?).join=some (d,f)->some ((.ok (.rt d .z),lowAt i ρ1):Except D Flw × Sto)=some (r,ρ')->Ar σ (.pl i) v Ts->E.rt v H1:=fun {i d f} b L a=>by
  cases L
  have J:ae (cW (.pl i)) (fun p=>aW (Flw.rt p.1 p.2)) ρ1=some (.ok (.rt d .z),L3.lowAt i ρ1):=by
   unfold ae
   rw [oV,b]
   rfl
  obtain ⟨p,ρ2,g2,x,k,s,f1,f2,_,C⟩:=a.take j J
  have c:Flw.rt p.1 p.2=Flw.rt d .z/\ρ2=L3.lowAt i ρ1:=by
   unfold aW at k
   injection k with k
   injection k with c o
   injection c with c
   exact ⟨c,o⟩
  obtain ⟨c,o⟩:=c
  injection c with e7 e8
  subst o
  rw [<- C]
  have A:=Wf.lowT (Ts:=[x]) s
  exact q (dj x) σ H1 g2 A (f1.trans e7) rfl
 cases a1 with
 | val x=>cases e1;exact q x σ H1 g1 j rfl rfl
 | @pl i v h =>
  dsimp only at e1
  cases b:(ρ1[i]?).join with
  | none=>rw [b] at e1;exact nsE e1
  | some p =>
   obtain ⟨d,f⟩:=p
   rw [b] at e1
   cases f with
   | u =>
    dsimp only at e1
    split at e1
    ·exact low b e1 (.pl h)
    ·cases e1
     obtain ⟨y,I,F,B,t⟩:=j.slot b
     have s:=Wf.move j (by rw [le.pr];exact n i (by omega)) I
     have:=q y σ H1 _ s F B
     rw [h] at t
     cases t
     exact this
   | l=>exact low b e1 (.pl h)
   | z=>exact low b e1 (.pl h)
def bX (c:M3 Bool) (b:SM):Nat->SM
 | 0=>fun _=>none
 | n+1=>ae c fun t=>if t then ae b (fun f=>match f with
   | .nx=>bX c b n
   | .ct=>bX c b n
   | .br=>aW .nx
   | .rt d f=>aW (.rt d f)) else aW .nx
def gl (c:M3 Bool) (b:SM):SM:=fun ρ=>open Classical in if h:∃ n r,bX c b n ρ=some r then some (Classical.choose (Classical.choose_spec h)) else none
theorem gi {c:M3 Bool} {b:SM}:∀ {n:Nat} {ρ:Sto} {r:Except D Flw × Sto},bX c b n ρ=some r->bX c b (n+1) ρ=some r
 | 0,ρ,r,e=>by cases e
 | n+1,ρ,r,e=>by
  unfold bX at e ⊢
  unfold ae at e ⊢
  cases h:c ρ with
  | none=>rw [h] at e;exact nsE e
  | some p =>
   obtain ⟨o,ρ1⟩:=p
   rw [h] at e
   cases o with
   | error x=>exact e
   | ok t =>
    cases t with
    | false=>exact e
    | true =>
     simp only [if_true] at e ⊢
     cases h2:b ρ1 with
     | none=>rw [h2] at e;exact nsE e
     | some p2 =>
      obtain ⟨a,ρ2⟩:=p2
      rw [h2] at e
      cases a with
      | error x=>exact e
      | ok f =>
       cases f with
       | nx=>exact gi (n:=n) e
       | ct=>exact gi (n:=n) e
       | br=>exact e
       | rt d f=>exact e
theorem jz {c:M3 Bool} {b:SM} {n m:Nat} {ρ:Sto} {r:Except D Flw × Sto} (h:n<=m) (e:bX c b n ρ=some r):bX c b m ρ=some r:=by
 induction h with
 | refl=>exact e
 | step _ ih=>exact gi ih
theorem o8 {c:M3 Bool} {b:SM} {ρ:Sto} {r:Except D Flw × Sto} (e:gl c b ρ=some r):∃ n,bX c b n ρ=some r:=by
 unfold gl at e
 split at e
 ·rename_i h
  have a:=Classical.choose_spec (Classical.choose_spec h)
  injection e with e
  exact ⟨Classical.choose h,by rw [<- e];exact a⟩
 ·exact nsE e
theorem vZ {c:M3 Bool} {b:SM} {E:Ends} (h:tS K G0 W0 (gl c b) E σ H):vY (tT K G0 W0 c) (tS K G0 W0 b) E σ H:=by
 refine h.use fun G W le ρ T g r ρ' w e q=>?_
 obtain ⟨n,e⟩:=o8 e
 refine ⟨fun m σ H=>∃ ρ g,Wf K G H σ ρ T g/\bX c b m ρ=some (r,ρ'),⟨n,ρ,g,w,e⟩,?_⟩
 rintro m σ1 H1 ⟨ρ1,g1,k,e1⟩
 cases m with
 | zero=>exact nsE e1
 | succ m =>
  unfold bX at e1
  refine tT.seq le k e1 q.err fun t ρ2 a H2 g2 i=>?_
  cases t with
  | false=>cases a;exact q _ _ _ i
  | true =>
   refine ⟨fun σ H=>∃ ρ g,Wf K G H σ ρ T g/\bX c b m ρ=some (r,ρ'),fun σ' H' h=>⟨m,Nat.lt_succ_self m,h⟩,?_⟩
   simp only [if_true] at a
   unfold ae at a
   cases p:b ρ2 with
   | none=>rw [p] at a;exact nsE a
   | some p2 =>
    obtain ⟨o,ρ3⟩:=p2
    rw [p] at a
    cases o with
    | error x=>cases a;exact tS.mk le i p q
    | ok f =>
     cases f with
     | nx=>exact tS.mk le (r:=.ok .nx) i p fun σ' H' g' j=>⟨ρ3,g',j,a⟩
     | ct=>exact tS.mk le (r:=.ok .ct) i p fun σ' H' g' j=>⟨ρ3,g',j,a⟩
     | br=>cases a;exact tS.mk le (r:=.ok .br) i p q
     | rt d f=>cases a;exact tS.mk le (r:=.ok (.rt d f)) i p q
end
end L3
end
section
namespace L3
open PySem L2
abbrev Fn:=List (D × Fl)->Option (Except D (D × Fl) × List (D × Fl))
def prs (ρ:Sto):List R3->Option (List (D × Fl))
 | []=>some []
 | .pl i :: rs=>match (ρ[i]?).join,prs ρ rs with
  | some p,some ps=>some (p :: ps)
  | _,_=>none
 | .val d f :: rs=>match prs ρ rs with
  | some ps=>some ((d,f) :: ps)
  | _=>none
def kD (rs:List R3):List Nat:=(pls rs).filter fun i=>decide (2<=(pls rs).count i)
def back:List R3->List (D × Fl)->List (D × Fl)->Sto->Sto
 | .pl i :: rs,p :: ps,q :: qs,ρ=>back rs ps qs (if p.2=.z then ρ else ρ.set i (some (q.1,if q.2=.z then .z else p.2)))
 | .val _ _ :: rs,_ :: ps,_ :: qs,ρ=>back rs ps qs ρ
 | _,_,_,ρ=>ρ
section
variable {K:FG} {G G0:Gm} {W W0:D->Sto->Prop} {H H':Hp} {σ:St} {ρ ρ':Sto} {T T':List It3} {g:Nat->Option It3} {x y z:It3} {α β:Type}
structure Back1 (K:FG) (H H':Hp) (ps:List It3) (p q:It3):Prop where
 z:p.f=.z->q=p
 v:q.v=p.v
 f:q.f=p.f\/q.f=.z
 arg:Arg K H' q
 src:∀ c ∈ q.L,H c=none\/dq ps c
 there:p.f=.u->∀ b,p.v=.ref b->∃ o,H' b=some o
structure BehindX (K:FG) (H H':Hp) (ps qs:List It3):Prop where
 frame:∀ b o,H b=some o->(∀ p ∈ ps,p.f=.u->p.v ≠ .ref b)->H' b=some o
 back:Paired (Back1 K H H' ps) ps qs
 apart:qs.Pairwise Apart3
structure Behind (K:FG) (H H':Hp) (ps qs:List It3) (x:It3):Prop extends BehindX K H H' ps qs where
 rep:Rep K H' x.d x.v x.L
 own:x.f ≠ .z->jm x.d=true/\∃ a L',x.v=.ref a/\x.L=a :: L'/\a ∉ L'/\H a=none
 src:∀ c ∈ x.L,H c=none\/dq ps c
 apx:∀ q ∈ qs,Apart3 x q
theorem Ars.args:∀ {rs:List R3} {E:List V} {Ts T:List It3} {c:List (D × Fl)},Ars σ rs E Ts->Wf K G H σ ρ (Ts ++ T) g->(∀ i,2<=(pls rs).count i->∀ y,g i=some y->y.f=.z)->prs ρ rs=some c ->
  ∃ ps:List It3,ps.map (fun p=>(p.d,p.f))=c/\ps.map (·.v)=E/\ps.Pairwise Apart3/\(∀ p ∈ ps,(∃ i,R3.pl i ∈ rs/\g i=some p)\/p ∈ Ts)/\Paired (fun r p=>match r with | .pl i=>g i=some p | .val _ _=>p ∈ Ts) rs ps
 | [],_,_,T,c,.nil,w,_,e=>by cases e;exact ⟨[],rfl,rfl,.nil,fun _ h=>(by cases h),.nil⟩
 | r :: rs,_,_,T,c,.cons (v:=v0) (Ts:=T0) (Us:=U0) a as,w,hd,e=>by
  have F:Wf K G H σ ρ (U0 ++ (T0 ++ T)) g:=by rw [<- List.append_assoc];exact w
  have o:∀ i,2<=(pls rs).count i->∀ y,g i=some y->y.f=.z:=fun i s=>hd i (by
   cases r with
   | pl j=>show 2<=(j :: pls rs).count i;rw [List.count_cons];omega
   | val _ _=>exact s)
  cases a with
  | @pl i v h =>
   unfold prs at e
   cases q:(ρ[i]?).join with
   | none=>rw [q] at e;exact nsE e
   | some p0 =>
    cases l:prs ρ rs with
    | none=>rw [q,l] at e;exact nsE e
    | some pfs' =>
     rw [q,l] at e
     cases e
     obtain ⟨ps,f1,f2,u,f4,A⟩:=Ars.args as F o l
     obtain ⟨y,m,L,I,C⟩:=w.slot (d:=p0.1) (f:=p0.2) q
     have J:y.v=v0:=by rw [h] at C;cases C;rfl
     refine ⟨y :: ps,by rw [Ey,f1,L,I],by rw [Ey,f2,J],List.pairwise_cons.mpr ⟨fun p b=>?_,u⟩,fun p b=>?_,.cons m ?_⟩
     ·rcases f4 p b with ⟨j,n,k⟩ | b
      ·by_cases B:i=j
       ·subst B
        have s:2<=(pls (R3.pl i :: rs)).count i:=by
         show 2<=(i :: pls rs).count i
         rw [List.count_cons_self]
         have:=List.count_pos_iff.mpr (kM n)
         omega
        have hz:=hd i s y m
        have t:=hd i s p k
        exact ⟨fun q=>absurd hz q,fun q=>absurd t q⟩
       ·exact ⟨w.ss i j y p B m k,w.ss j i p y (Ne.symm B) k m⟩
      ·exact w.st i y m p (Eg _ (Eg _ b))
     ·rcases Ei.mp b with h' | b
      ·rw [h'];exact .inl ⟨i,Ec,m⟩
      ·rcases f4 p b with ⟨j,n,k⟩ | b
       ·exact .inl ⟨j,Ed _ n,k⟩
       ·exact .inr (Eg _ b)
     ·exact Paired.mapP A fun r p h=>by
       cases r with
       | pl j=>exact h
       | val _ _=>exact Eg _ h
  | val x =>
   unfold prs at e
   cases l:prs ρ rs with
   | none=>rw [l] at e;exact nsE e
   | some pfs' =>
    rw [l] at e
    cases e
    obtain ⟨ps,f1,f2,u,f4,A⟩:=Ars.args as F o l
    refine ⟨x :: ps,by rw [Ey,f1],by rw [Ey,f2],List.pairwise_cons.mpr ⟨fun p b=>?_,u⟩,fun p b=>?_,.cons (Eh _ Ec) ?_⟩
    ·rcases f4 p b with ⟨j,n,k⟩ | b
     ·exact (w.st j p k x (Eg _ (Eh _ Ec))).symm
     ·have t1:=(List.pairwise_append.mp w.tt).1
      exact ((List.pairwise_append.mp t1).2.2 p b x Ec).symm
    ·rcases Ei.mp b with h' | b
     ·rw [h'];exact .inr (Eh _ Ec)
     ·rcases f4 p b with ⟨j,n,k⟩ | b
      ·exact .inl ⟨j,Ed _ n,k⟩
      ·exact .inr (Eg _ b)
    ·exact Paired.mapP A fun r p h=>by
      cases r with
      | pl j=>exact h
      | val _ _=>exact Eg _ h
theorem fT:∀ {rs:List R3} {ps qs:List It3} {ρ:Sto} {g:Nat->Option It3},(∀ j,(g j).map (fun x=>(x.d,x.f))=(ρ[j]?).join)->rs.length=ps.length->Paired (Back1 K H H' T) ps qs->(∀ i,R3.pl i ∈ rs->i < ρ.length) ->
  ∃ g':Nat->Option It3,(∀ j,(g' j).map (fun x=>(x.d,x.f))=((back rs (ps.map fun p=>(p.d,p.f)) (qs.map fun q=>(q.d,q.f)) ρ)[j]?).join)/\(back rs (ps.map fun p=>(p.d,p.f)) (qs.map fun q=>(q.d,q.f)) ρ).length = ρ.length /\
   ∀ j:Nat,(g' j=g j/\∀ (k:Nat) (p:It3),rs[k]?=some (R3.pl j)->ps[k]?=some p->p.f=.z)\/∃ (k:Nat) (p q:It3),rs[k]?=some (R3.pl j)/\ps[k]?=some p/\qs[k]?=some q/\p.f ≠ .z/\g' j=some q
 | [],[],_,ρ,g,hg,_,.nil,_=>⟨g,hg,rfl,fun j=>.inl ⟨rfl,fun k p h=>by simp at h⟩⟩
 | [],_ :: _,_,_,_,_,h,_,_=>by cases h
 | _ :: _,[],_,_,_,_,h,_,_=>by cases h
 | .val d f :: rs,p :: ps,_,ρ,g,hg,hl,.cons (b:=q) (l₂:=qs) b1 bs,hi=>by
  obtain ⟨g',h1,h2,h3⟩:=fT (rs:=rs) hg (by simpa using hl) bs fun i h=>hi i (Ed _ h)
  refine ⟨g',h1,h2,fun j=>?_⟩
  rcases h3 j with ⟨e,h⟩ | ⟨k,a,n,a1,a2,m,l⟩
  ·refine .inl ⟨e,fun k a e1 c=>?_⟩
   cases k with
   | zero=>simp at e1
   | succ k=>exact h k a (by simpa using e1) (by simpa using c)
  ·exact .inr ⟨k+1,a,n,by simpa using a1,by simpa using a2,by simpa using m,l⟩
 | .pl i :: rs,p :: ps,_,ρ,g,hg,hl,.cons (b:=q) (l₂:=qs) b1 bs,hi=>by
  have s:=hi i Ec
  by_cases hz:p.f=.z
  ·have r:back (.pl i :: rs) ((p :: ps).map fun p=>(p.d,p.f)) ((q :: qs).map fun q=>(q.d,q.f)) ρ=back rs (ps.map fun p=>(p.d,p.f)) (qs.map fun q=>(q.d,q.f)) ρ:=by
    show back rs _ _ (if p.f=.z then ρ else _)=_
    rw [if_pos hz]
   rw [r]
   obtain ⟨g',h1,h2,h3⟩:=fT (rs:=rs) hg (by simpa using hl) bs fun i h=>hi i (Ed _ h)
   refine ⟨g',h1,h2,fun j=>?_⟩
   rcases h3 j with ⟨e,h⟩ | ⟨k,a,n,a1,a2,m,l⟩
   ·refine .inl ⟨e,fun k a e1 c=>?_⟩
    cases k with
    | zero=>simp at c;rw [<- c];exact hz
    | succ k=>exact h k a (by simpa using e1) (by simpa using c)
   ·exact .inr ⟨k+1,a,n,by simpa using a1,by simpa using a2,by simpa using m,l⟩
  ·have r:back (.pl i :: rs) ((p :: ps).map fun p=>(p.d,p.f)) ((q :: qs).map fun q=>(q.d,q.f)) ρ=back rs (ps.map fun p=>(p.d,p.f)) (qs.map fun q=>(q.d,q.f)) (ρ.set i (some (q.d,q.f))):=by
    show back rs _ _ (if p.f=.z then ρ else ρ.set i (some (q.d,if q.f=.z then .z else p.f)))=_
    rw [if_neg hz]
    have:(if q.f=.z then Fl.z else p.f)=q.f:=by
     by_cases h:q.f=.z
     ·rw [if_pos h,h]
     ·rw [if_neg h]
      rcases b1.f with h' | h'
      ·exact h'.symm
      ·exact absurd h' h
    rw [this]
   rw [r]
   obtain ⟨g',h1,h2,h3⟩:=fT (rs:=rs) (ρ:=ρ.set i (some (q.d,q.f))) (g:=fun j=>if j=i then some q else g j) (fun j=>by
    rw [bS s]
    by_cases e:j=i
    ·rw [if_pos e,if_pos e];rfl
    ·rw [if_neg e,if_neg e];exact hg j) (by simpa using hl) bs fun i h=>by rw [List.length_set];exact hi i (Ed _ h)
   refine ⟨g',h1,by rw [h2,List.length_set],fun j=>?_⟩
   rcases h3 j with ⟨e,h⟩ | ⟨k,a,n,a1,a2,m,l⟩
   ·by_cases o:j=i
    ·rw [if_pos o] at e
     exact .inr ⟨0,p,q,by simp [o],rfl,rfl,hz,e⟩
    ·rw [if_neg o] at e
     refine .inl ⟨e,fun k a e1 c=>?_⟩
     cases k with
     | zero=>simp at e1;exact absurd e1.symm o
     | succ k=>exact h k a (by simpa using e1) (by simpa using c)
   ·exact .inr ⟨k+1,a,n,by simpa using a1,by simpa using a2,by simpa using m,l⟩
theorem nH:∀ {rs:List R3} {a:List (D × Fl)},prs ρ rs=some a->rs.length=a.length
 | [],a,e=>by cases e;rfl
 | .pl i :: rs,a,e=>by
  unfold prs at e
  cases q:(ρ[i]?).join with
  | none=>rw [q] at e;exact nsE e
  | some p =>
   cases b:prs ρ rs with
   | none=>rw [q,b] at e;exact nsE e
   | some ps=>rw [q,b] at e;cases e;rw [EF,EF,nH b]
 | .val d f :: rs,a,e=>by
  unfold prs at e
  cases b:prs ρ rs with
  | none=>rw [b] at e;exact nsE e
  | some ps=>rw [b] at e;cases e;rw [EF,EF,nH b]
theorem rA:∀ {rs:List R3} {a:List (D × Fl)},prs ρ rs=some a->∀ i,R3.pl i ∈ rs->i < ρ.length
 | [],a,e,i,h=>by cases h
 | .pl i :: rs,a,e,j,h=>by
  unfold prs at e
  cases q:(ρ[i]?).join with
  | none=>rw [q] at e;exact nsE e
  | some p =>
   cases b:prs ρ rs with
   | none=>rw [q,b] at e;exact nsE e
   | some ps =>
    rcases Ei.mp h with h | h
    ·cases h;exact dB q
    ·exact rA b j h
 | .val d f :: rs,a,e,j,h=>by
  unfold prs at e
  cases b:prs ρ rs with
  | none=>rw [b] at e;exact nsE e
  | some ps =>
   rcases Ei.mp h with h | h
   ·cases h
   ·exact rA b j h
theorem Paired.at {α β:Type} {F:α->β->Prop}:∀ {l:List α} {m:List β} {k:Nat} {a:α} {b:β},Paired F l m->l[k]?=some a->m[k]?=some b->F a b
 | _,_,_,_,_,.nil,h,_=>by simp at h
 | _,_,0,_,_,.cons r _,h,h'=>by simp at h h';subst h h';exact r
 | _,_,k+1,_,_,.cons _ t,h,h'=>Paired.at (k:=k) t (by simpa using h) (by simpa using h')
theorem Paired.exL {α β:Type} {F:α->β->Prop}:∀ {l:List α} {m:List β} {k:Nat} {a:α},Paired F l m->l[k]?=some a->∃ b,m[k]?=some b/\F a b
 | _,_,_,_,.nil,h=>by simp at h
 | _,_,0,_,.cons r _,h=>by simp at h;subst h;exact ⟨_,rfl,r⟩
 | _,_,k+1,_,.cons _ t,h=>let ⟨b,h1,h2⟩:=Paired.exL (k:=k) t (by simpa using h);⟨b,by simpa using h1,h2⟩
theorem Paired.exR {α β:Type} {F:α->β->Prop}:∀ {l:List α} {m:List β} {k:Nat} {b:β},Paired F l m->m[k]?=some b->∃ a,l[k]?=some a/\F a b
 | _,_,_,_,.nil,h=>by simp at h
 | _,_,0,_,.cons r _,h=>by simp at h;subst h;exact ⟨_,rfl,r⟩
 | _,_,k+1,_,.cons _ t,h=>let ⟨b,h1,h2⟩:=Paired.exR (k:=k) t (by simpa using h);⟨b,by simpa using h1,h2⟩
theorem c9 {α:Type} {R:α->α->Prop} {l:List α} (p:l.Pairwise R) (e:∀ a b,R a b->R b a) {i j:Nat} {a b:α} (n:i ≠ j) (f:l[i]?=some a) (d:l[j]?=some b):R a b:=by
 obtain ⟨h1,e1⟩:=Eo.mp f
 obtain ⟨h2,c⟩:=Eo.mp d
 have q:=List.pairwise_iff_getElem.mp p
 rcases Nat.lt_or_ge i j with h | h
 ·rw [<- e1,<- c];exact q i j h1 h2 h
 ·rw [<- e1,<- c];exact e _ _ (q j i h2 h1 (by omega))
theorem Wf.after {rs:List R3} {Ts ps qs:List It3} {P:List (D × Fl)} (w:Wf K G H σ ρ (Ts ++ T) g) (e:prs ρ rs=some P) (f1:ps.map (fun p=>(p.d,p.f))=P)
  (f4:∀ p ∈ ps,(∃ i,R3.pl i ∈ rs/\g i=some p)\/p ∈ Ts) (f5:Paired (fun r p=>match r with | .pl i=>g i=some p | .val _ _=>p ∈ Ts) rs ps) (B:BehindX K H H' ps qs) :
  ∃ g',Wf K G H' σ (L3.back rs P (qs.map fun q=>(q.d,q.f)) ρ) T g' /\
   ∀ x,Rep K H' x.d x.v x.L->(x.f ≠ .z->jm x.d=true/\∃ a L',x.v=.ref a/\x.L=a :: L'/\a ∉ L'/\H a=none)->(∀ c ∈ x.L,H c=none\/dq ps c)->(∀ q ∈ qs,Apart3 x q)->Wf K G H' σ (L3.back rs P (qs.map fun q=>(q.d,q.f)) ρ) (x :: T) g':=by
 subst f1
 have W:rs.length=ps.length:=by have:=nH e;rwa [En] at this
 obtain ⟨g',h1,h2,h3⟩:=fT (K:=K) (H:=H) (H':=H') (T:=ps) (rs:=rs) (ps:=ps) (qs:=qs) w.sl W B.back (rA e)
 have F:∀ p ∈ ps,Itm (Ts ++ T) g p:=fun p l=>by
  rcases f4 p l with ⟨i,_,Q⟩ | h
  ·exact .inl ⟨i,Q⟩
  ·exact .inr (Eg _ h)
 have ab:∀ b o,H b=some o->∃ o',H' b=some o':=fun b o S=>by
  by_cases h:∀ p ∈ ps,p.f=.u->p.v ≠ .ref b
  ·exact ⟨o,B.frame b o S h⟩
  ·have h':∃ p,p ∈ ps/\p.f=.u/\p.v=.ref b:=by
    refine Classical.byContradiction fun n=>h fun p l hf J=>n ⟨p,l,hf,J⟩
   obtain ⟨p,l,hf,J⟩:=h'
   obtain ⟨k,hk,ek⟩:=List.mem_iff_getElem.mp l
   obtain ⟨q,e1,b1⟩:=Paired.exL B.back (show ps[k]?=some p by rw [Ej hk,ek])
   exact b1.there hf b J
 have ka:∀ j z,g j=some z->(∀ (k:Nat) (p:It3),rs[k]?=some (R3.pl j)->ps[k]?=some p->p.f=.z)->∀ p ∈ ps,Apart3 p z:=fun j z ej hu p l=>by
  rcases f4 p l with ⟨i,hi,Q⟩ | h
  ·by_cases ij:i=j
   ·subst ij
    have a0:p=z:=EW (Q.symm.trans ej)
    subst a0
    have hz:p.f=.z:=by
     obtain ⟨k,hk,ek⟩:=List.mem_iff_getElem.mp hi
     have Y:rs[k]?=some (R3.pl i):=by rw [Ej hk,ek]
     obtain ⟨A,e1,E⟩:=Paired.exL f5 Y
     have E:g i=some A:=E
     rw [Q] at E
     cases E
     exact hu k p Y e1
    exact ⟨fun q=>absurd hz q,fun q=>absurd hz q⟩
   ·exact ⟨w.ss i j p z ij Q ej,w.ss j i z p (Ne.symm ij) ej Q⟩
  ·exact (w.st j z ej p (Eg _ h)).symm
 have kt:∀ z ∈ T,∀ p ∈ ps,Apart3 p z:=fun z hz p l=>by
  rcases f4 p l with ⟨i,hi,Q⟩ | h
  ·exact w.st i p Q z (Eh _ hz)
  ·exact (List.pairwise_append.mp w.tt).2.2 p h z hz
 have keep:∀ z,ItOk K G H z->(∀ p ∈ ps,Apart3 p z)->ItOk K G H' z:=fun z R X=>by
  refine R.keep (M:=fun b=>∃ p ∈ ps,p.f=.u/\p.v=.ref b) (fun b o S n=>B.frame b o S fun p l hf J=>n ⟨p,l,hf,J⟩) (fun b ⟨p,l,hf,J⟩=>?_) (fun b S ⟨p,l,hf,J⟩=>?_)
  ·obtain ⟨_,a,L',e1,E,_⟩:=(w.itm (F p l)).own (by rw [hf];intro q;cases q)
   rw [J] at e1
   cases e1
   exact (w.itm (F p l)).rep.inH b (by rw [E];exact Ec)
  ·exact (X p l).1 (by rw [hf];intro q;cases q) b J S
 have ar:∀ k p q,ps[k]?=some p->qs[k]?=some q->ItOk K G H' q:=fun k p q e1 E=>by
  have b:=Paired.at B.back e1 E
  refine ⟨b.arg.rep,fun hf=>?_,fun c U=>?_⟩
  ·obtain ⟨m,a,L',v1,v2,v3⟩:=b.arg.own hf
   refine ⟨m,a,L',v1,v2,v3,fun hu=>?_⟩
   have pf:p.f=.u:=by
    rcases b.f with h | h
    ·rw [<- h];exact hu
    ·rw [h] at hu;cases hu
   obtain ⟨_,a',a4,e3,_,_,e5⟩:=(w.itm (F p (Ep e1))).own (by rw [pf];intro q;cases q)
   rw [<- b.v,v1] at e3
   cases e3
   exact e5 pf
  ·rcases b.src c U with h | ⟨A,C,h⟩
   ·exact .inl (w.h0none h)
   ·exact (w.itm (F A C)).src c h
 have kq:∀ z,ItOk K G H z->(∀ p ∈ ps,Apart3 p z)->∀ k p q,ps[k]?=some p->qs[k]?=some q->Apart3 z q:=fun z R X k p q e1 E=>by
  have b:=Paired.at B.back e1 E
  refine ⟨fun hf a ev hm=>?_,fun hf a ev=>?_⟩
  ·rcases b.src a hm with h | ⟨A,C,U⟩
   ·obtain ⟨_,a',L',s,O,_⟩:=R.own hf
    rw [ev] at s;cases s
    obtain ⟨o,I⟩:=(R.rep.inH a (by rw [O];exact Ec)).ex
    rw [h] at I;exact nsE I
   ·exact (X A C).2 hf a ev U
  ·have pf:p.f ≠ .z:=fun q'=>by
    have:=b.z q'
    rw [this] at hf
    exact hf q'
   exact (X p (Ep e1)).1 pf a (by rw [<- b.v];exact ev)
 have old:∀ j z,g' j=some z->(g j=some z/\∀ p ∈ ps,Apart3 p z)\/∃ k p,rs[k]?=some (R3.pl j)/\ps[k]?=some p/\qs[k]?=some z:=fun j z ez=>by
  rcases h3 j with ⟨e1,hu⟩ | ⟨k,p,q,a1,a2,y,_,a5⟩
  ·rw [e1] at ez
   exact .inl ⟨ez,ka j z ez hu⟩
  ·rw [a5] at ez
   cases ez
   exact .inr ⟨k,p,a1,a2,y⟩
 have wf:Wf K G H' σ (L3.back rs (ps.map fun p=>(p.d,p.f)) (qs.map fun q=>(q.d,q.f)) ρ) T g':=by
  refine ⟨by rw [h2];exact w.len,h1,fun j z ez=>?_,fun j z ez=>?_,fun z hz=>keep z (w.okT z (Eh _ hz)) (kt z hz),fun i j a b n V eb=>?_,fun j z ez t N=>?_,(List.pairwise_append.mp w.tt).2.1,fun b o e n=>?_,w.pro,⟨fun u hu=>w.fx.frT u (Eh _ hu),fun j u h l hf a V=>?_,fun b S=>?_,fun b o h=>?_,fun j u h W=>?_⟩⟩
  ·rcases old j z ez with ⟨e1,_⟩ | ⟨k,p,a1,a2,y⟩
   ·exact w.sv j z e1
   ·have Z:g j=some p:=by
     obtain ⟨A,s,O⟩:=Paired.exL f5 a1
     rw [a2] at s;cases s
     exact O
    rw [(Paired.at B.back a2 y).v]
    exact w.sv j p Z
  ·rcases old j z ez with ⟨e1,ap⟩ | ⟨k,p,a1,a2,y⟩
   ·exact keep z (w.okS j z e1) ap
   ·exact ar k p z a2 y
  ·rcases old i a V with ⟨e1,ap⟩ | ⟨k,p,a1,a2,y⟩
   ·rcases old j b eb with ⟨E,_⟩ | ⟨k',A,b1,b2,b3⟩
    ·exact w.ss i j a b n e1 E
    ·exact (kq a (w.okS i a e1) ap k' A b b2 b3).1
   ·rcases old j b eb with ⟨E,ap⟩ | ⟨k',A,b1,b2,b3⟩
    ·exact (kq b (w.okS j b E) ap k p a a2 y).2
    ·have kk:k ≠ k':=fun z=>by
      subst z
      rw [a1] at b1
      cases b1
      exact n rfl
     exact (c9 B.apart (fun _ _=>Apart3.symm) kk y b3).1
  ·rcases old j z ez with ⟨e1,ap⟩ | ⟨k,p,a1,a2,y⟩
   ·exact w.st j z e1 t (Eh _ N)
   ·exact (kq t (w.okT t (Eh _ N)) (kt t N) k p z a2 y).symm
  ·refine B.frame b o (w.base b o e n) fun p l hf J=>?_
   obtain ⟨_,a,L',e1,_,_,e3⟩:=(w.itm (F p l)).own (by rw [hf];intro q;cases q)
   rw [J] at e1
   cases e1
   rcases e3 hf with h | h
   ·rw [e] at h;cases h
   ·exact n h
  ·rcases old j u h with ⟨e1,_⟩ | ⟨k,p,a1,a2,y⟩
   ·exact w.fx.frS j u e1 l hf a V
   ·have b:=Paired.at B.back a2 y
    have Z:g j=some p:=by
     obtain ⟨A,s,O⟩:=Paired.exL f5 a1
     rw [a2] at s;cases s
     exact O
    refine w.fx.frS j p Z l (fun q'=>?_) a (by rw [<- b.v];exact V)
    have:=b.z q'
    rw [this] at hf
    exact hf q'
  ·obtain ⟨o,I⟩:=w.fx.bin b S
   exact ab b o I
  ·obtain ⟨o',I⟩:=w.fx.ob b o h
   exact ab b o' I
  ·rcases old j u h with ⟨e1,_⟩ | ⟨k,p,a1,a2,y⟩
   ·exact w.fx.lvS j u e1 W
   ·have b:=Paired.at B.back a2 y
    have Z:g j=some p:=by
     obtain ⟨A,s,O⟩:=Paired.exL f5 a1
     rw [a2] at s;cases s
     exact O
    rw [b.v]
    refine w.fx.lvS j p Z ?_
    rcases b.f with h | h
    ·rw [<- h];exact W
    ·rw [h] at W;cases W
 refine ⟨g',wf,fun x rx ox sx ax=>?_⟩
 have kx:∀ z,ItOk K G H z->(∀ p ∈ ps,Apart3 p z)->Apart3 z x:=fun z R X=>by
  refine ⟨fun hf a ev hm=>?_,fun hf a ev hm=>?_⟩
  ·rcases sx a hm with h | ⟨A,C,U⟩
   ·obtain ⟨_,a',L',s,O,_⟩:=R.own hf
    rw [ev] at s;cases s
    obtain ⟨o,I⟩:=(R.rep.inH a (by rw [O];exact Ec)).ex
    rw [h] at I;exact nsE I
   ·exact (X A C).2 hf a ev U
  ·obtain ⟨_,a',L',s,_,_,q4⟩:=ox hf
   rw [ev] at s;cases s
   obtain ⟨o,I⟩:=(R.rep.inH a hm).ex
   rw [q4] at I;exact nsE I
 refine ⟨wf.len,wf.sl,wf.sv,wf.okS,fun z hz=>?_,wf.ss,fun j z ez t N=>?_,?_,wf.base,wf.pro,⟨fun u hu hf a V=>?_,wf.fx.frS,wf.fx.bin,wf.fx.ob,wf.fx.lvS⟩⟩
 ·rcases Ei.mp hz with h | hz
  ·rw [h]
   refine ⟨rx,fun hf=>?_,fun c U=>?_⟩
   ·obtain ⟨m,a,L',v1,v2,v3,v4⟩:=ox hf
    exact ⟨m,a,L',v1,v2,v3,fun _=>.inl (w.h0none v4)⟩
   ·rcases sx c U with h | ⟨A,C,h⟩
    ·exact .inl (w.h0none h)
    ·exact (w.itm (F A C)).src c h
  ·exact wf.okT z hz
 ·rcases Ei.mp N with h | N
  ·rw [h]
   rcases old j z ez with ⟨e1,ap⟩ | ⟨k,p,a1,a2,y⟩
   ·exact kx z (w.okS j z e1) ap
   ·exact (ax z (Ep y)).symm
  ·exact wf.st j z ez t N
 ·exact List.pairwise_cons.mpr ⟨fun t N=>(kx t (w.okT t (Eh _ N)) (kt t N)).symm,wf.tt⟩
 ·rcases Ei.mp hu with h | hu
  ·subst h
   obtain ⟨_,a',L',s,_,_,q4⟩:=ox hf
   rw [V] at s;cases s
   exact w.ornone q4
  ·exact wf.fx.frT u hu hf a V
theorem rV {i a:Nat} (h:(ρ[i]?).join=none):((L3.lowAt a ρ)[i]?).join=none:=by
 unfold L3.lowAt
 split
 ·rename_i d hd
  rw [bS (dB hd)]
  by_cases b:i=a
  ·subst b;rw [h] at hd;exact nsE hd
  ·rw [if_neg b];exact h
 ·rename_i d hd
  rw [bS (dB hd)]
  by_cases b:i=a
  ·subst b;rw [h] at hd;exact nsE hd
  ·rw [if_neg b];exact h
 ·exact h
theorem qc {i:Nat}:∀ {is:List Nat} {ρ:Sto},(ρ[i]?).join=none->((L3.frz is ρ)[i]?).join=none
 | [],ρ,h=>h
 | a :: is,ρ,h=>qc (is:=is) (ρ:=L3.lowAt a ρ) (rV h)
end
end L3
end
section
namespace L3
open PySem L2
def fg (ρ:Sto):Nat->List (D × Fl)->Option (List (D × Fl))
 | _,[]=>some []
 | i,(d,.z) :: ps=>(fg ρ (i+1) ps).map fun r=>(d,.z) :: r
 | i,(d,f) :: ps=>match (ρ[i]?).join,fg ρ (i+1) ps with
  | some (d',f'),some r=>if f'=f\/f'=.z then some ((d',f') :: r) else none
  | _,_=>none
def gg (n:Nat) (ps:List (D × Fl)):Sto:=ps.map some ++ List.replicate (n - ps.length) none
def fn0 (n:Nat) (b:SM):Fn:=fun ps=>match b (gg n ps) with
 | some (.ok .nx,ρ')=>(fg ρ' 0 ps).map fun fs=>(.ok (.non,.z),fs)
 | some (.ok (.rt d f),ρ')=>(fg ρ' 0 ps).map fun fs=>(.ok (d,f),fs)
 | some (.error e,ρ')=>(fg ρ' 0 ps).map fun fs=>(.error e,fs)
 | _=>none
def lU (b:Bool) (p:D × Fl):D × Fl:=if b then (p.1,.z) else p
def fnM (mask:List Bool) (n:Nat) (b:SM):Fn:=fun ps=>if ps.length=mask.length then fn0 n b (List.zipWith lU mask ps) else none
section
variable {K:FG} {G:Gm} {W:D->Sto->Prop} {H H':Hp} {σ:St} {ρ ρ':Sto} {T T':List It3} {g:Nat->Option It3} {x y z:It3} {α β:Type}
def gOf (H:Hp) (pr:Nat->Bool) (σ0:St) (ps:List It3):Gm:=⟨H,fun b=>∃ p ∈ ps,p.f=.u/\p.v=.ref b,pr,σ0,H,dq ps,fun i=>(ps[i]?).map (·.v)⟩
theorem vv {n:Nat} {ps:List (D × Fl)} (a:ps.length<=n) (i:Nat):((gg n ps)[i]?).join=ps[i]?:=by
 unfold gg
 by_cases h:i < ps.length
 ·rw [EN (by simpa using h),Et]
  cases ps[i]? <;> rfl
 ·rw [List.getElem?_append_right (by simpa using h),List.getElem?_replicate,List.getElem?_eq_none (by omega)]
  split <;> rfl
theorem mh {n:Nat} {a:List V} {i:Nat} {v:V} (h:a[i]?=some v):(a.map some ++ List.replicate n (none:Option V))[i]?=some (some v):=by
 obtain ⟨hi,e⟩:=Eo.mp h
 rw [EN (by simpa using hi),Et,h]
 rfl
theorem vQ {n:Nat} {pr:Nat->Bool} {ps:List It3} (t:ps.length<=n) (g:∀ p ∈ ps,Arg K H p) (u:ps.Pairwise Apart3) (k:∀ (i:Nat) (p:It3),ps[i]?=some p->p.f ≠ .z->pr i=true) :
  Wf K (gOf H pr ((ps.map (·.v)).map some ++ List.replicate (n - (ps.map (·.v)).length) none) ps) H ((ps.map (·.v)).map some ++ List.replicate (n - (ps.map (·.v)).length) none) (gg n (ps.map fun p=>(p.d,p.f))) [] (fun i=>ps[i]?):=by
 refine ⟨?_,fun i=>?_,fun i x e=>?_,fun i x e=>?_,fun _ h=>(by cases h),fun i j a b n l s=>?_,fun _ _ _ _ h=>(by cases h),.nil,fun b o e _=>e,fun i _=>rfl,⟨fun _ h=>(by cases h),fun i x e hz hf=>?_,fun b h=>?_,fun b o e=>⟨o,e⟩,fun i x e _=>(by show (ps[i]?).map (·.v)=_;rw [e];rfl)⟩⟩
 ·unfold gg;simp
 ·rw [vv (by simpa using t),Et]
 ·exact mh (by rw [Et,e];rfl)
 ·have hm:=Ep e
  refine ⟨(g x hm).rep,fun hf=>?_,fun c w=>.inr ⟨x,hm,w⟩⟩
  obtain ⟨m,a,L',v1,v2,v3⟩:=(g x hm).own hf
  exact ⟨m,a,L',v1,v2,v3,fun hu=>.inr ⟨x,hm,hu,v1⟩⟩
 ·exact (c9 u (fun _ _=>Apart3.symm) n l s).1
 ·have hz:pr i=false:=hz
  rw [k i x e hf] at hz;cases hz
 ·obtain ⟨p,hm,hf,r⟩:=h
  obtain ⟨_,a,L',v1,v2,_⟩:=(g p hm).own (by rw [hf];intro q;cases q)
  rw [r] at v1;cases v1
  exact ((g p hm).rep.inH b (by rw [v2];exact Ec)).ex
def FinsOk (ρ:Sto) (i:Nat) (ps fs:List (D × Fl)):Prop:=fs.length=ps.length/\∀ (k:Nat) (p:D × Fl),ps[k]?=some p->∃ q,fs[k]?=some q/\(p.2=.z->q=p)/\(p.2 ≠ .z->(ρ[i+k]?).join=some q/\(q.2=p.2\/q.2=.z))
theorem FinsOk.cons {i:Nat} {e d:D × Fl} {ps fs:List (D × Fl)} (h:FinsOk ρ (i+1) ps fs) (hz:e.2=.z->d=e) (g:e.2 ≠ .z->(ρ[i]?).join=some d/\(d.2=e.2\/d.2=.z)):FinsOk ρ i (e :: ps) (d :: fs):=by
 refine ⟨by rw [EF,EF,h.1],fun k p f=>?_⟩
 cases k with
 | zero=>cases f;exact ⟨d,rfl,hz,g⟩
 | succ k =>
  obtain ⟨q,a,b,c⟩:=h.2 k p f
  exact ⟨q,a,b,fun n=>by have:=c n;rwa [show i+1+k=i+(k+1) by omega] at this⟩
theorem jP:∀ {i:Nat} {ps:List (D × Fl)} {fs:List (D × Fl)},fg ρ i ps=some fs->FinsOk ρ i ps fs
 | i,[],fs,e=>by cases e;exact ⟨rfl,fun k p h=>by cases h⟩
 | i,p0 :: ps,fs,e=>by
  obtain ⟨d,f⟩:=p0
  have key:f ≠ .z->(match (ρ[i]?).join,fg ρ (i+1) ps with
    | some (d',a),some r=>if a=f\/a=.z then some ((d',a) :: r) else none
    | _,_=>none)=some fs->FinsOk ρ i ((d,f) :: ps) fs:=fun hf e=>by
   cases h:(ρ[i]?).join with
   | none=>rw [h] at e;exact nsE e
   | some p0 =>
    cases h2:fg ρ (i+1) ps with
    | none=>rw [h,h2] at e;exact nsE e
    | some r =>
     rw [h,h2] at e
     obtain ⟨d',a⟩:=p0
     dsimp only at e
     rcases Decidable.em (a=f\/a=.z) with b | b
     ·rw [if_pos b] at e
      cases e
      exact (jP h2).cons (fun z=>absurd z hf) fun _=>⟨h,b⟩
     ·rw [if_neg b] at e;exact nsE e
  cases f with
  | z =>
   obtain ⟨r,h,h'⟩:=Ef.mp (show (fg ρ (i+1) ps).map (fun r=>(d,Fl.z) :: r)=some fs from e)
   subst h'
   exact (jP h).cons (fun _=>rfl) fun n=>absurd rfl n
  | u=>exact key (by intro q;cases q) e
  | l=>exact key (by intro q;cases q) e
theorem ki {α β:Type} {P:Nat->α->β->Prop}:∀ (l:List α) (i:Nat),(∀ (k:Nat) a,l[k]?=some a->∃ b,P (i+k) a b)->∃ m:List β,m.length=l.length/\∀ (k:Nat) a,l[k]?=some a->∃ b,m[k]?=some b/\P (i+k) a b
 | [],i,_=>⟨[],rfl,fun k a h=>by simp at h⟩
 | a :: l,i,h=>by
  obtain ⟨b,f⟩:=h 0 a rfl
  obtain ⟨m,h1,h2⟩:=ki l (i+1) fun k a e=>by
   have:=h (k+1) a (by simpa using e)
   rwa [show i+(k+1)=i+1+k by omega] at this
  refine ⟨b :: m,by simp [h1],fun k c e=>?_⟩
  cases k with
  | zero=>simp at e;subst e;exact ⟨b,rfl,f⟩
  | succ k =>
   obtain ⟨d,e1,g⟩:=h2 k c (by simpa using e)
   exact ⟨d,by simpa using e1,by rwa [show i+(k+1)=i+1+k by omega]⟩
theorem Paired.ofGet {α β:Type} {F:α->β->Prop}:∀ {l:List α} {m:List β},l.length=m.length->(∀ (k:Nat) a b,l[k]?=some a->m[k]?=some b->F a b)->Paired F l m
 | [],[],_,_=>.nil
 | [],_ :: _,h,_=>by cases h
 | _ :: _,[],h,_=>by cases h
 | a :: l,b :: m,h,f=>.cons (f 0 a b rfl rfl) (Paired.ofGet (by simpa using h) fun k a b e1 c=>f (k+1) a b (by simpa using e1) (by simpa using c))
theorem qF {n:Nat} {pr:Nat->Bool} {σ0:St} {ps:List It3} {fs:List (D × Fl)} (G:∀ p ∈ ps,Arg K H p) (J:ps.Pairwise Apart3) (V:∀ (i:Nat) (p:It3),ps[i]?=some p->p.f ≠ .z->pr i=true) (h0:∀ (i:Nat) (p:It3),ps[i]?=some p->σ0[i]?=some (some p.v))
  (w:Wf K (gOf H pr σ0 ps) H' σ ρ T g) (e:fg ρ 0 (ps.map fun p=>(p.d,p.f))=some fs) :
  ∃ qs,BehindX K H H' ps qs/\qs.map (fun q=>(q.d,q.f))=fs/\(∀ (k:Nat) (p q:It3),ps[k]?=some p->qs[k]?=some q->(p.f=.z/\q=p)\/(p.f ≠ .z/\g k=some q)):=by
 obtain ⟨hl,hs⟩:=jP e
 rw [En] at hl
 have frame:∀ b o,H b=some o->(∀ p ∈ ps,p.f=.u->p.v ≠ .ref b)->H' b=some o:=fun b o t U=>w.base b o t fun ⟨p,hm,hf,x⟩=>U p hm hf x
 have there:∀ b o,H b=some o->∃ o',H' b=some o':=fun b o t=>w.fx.ob b o t
 have C:∀ (k:Nat) (p:It3),ps[k]?=some p->p.f=.z->Rep K H' p.d p.v p.L:=fun k p l hz=>by
  refine (G p (Ep l)).rep.keep (M:=fun b=>∃ p ∈ ps,p.f=.u/\p.v=.ref b) (fun b o t U=>frame b o t fun p J hf x=>U ⟨p,J,hf,x⟩) (fun b ⟨B,hm,hf,x⟩=>?_) fun b t ⟨B,hm,hf,x⟩=>?_
  ·obtain ⟨_,a,L',v1,v2,_⟩:=(G B hm).own (by rw [hf];intro q;cases q)
   rw [x] at v1;cases v1
   exact (G B hm).rep.inH b (by rw [v2];exact Ec)
  ·obtain ⟨j,O,I⟩:=List.mem_iff_getElem.mp hm
   have A:ps[j]?=some B:=by rw [Ej O,I]
   have jk:j ≠ k:=fun z=>by subst z;rw [l] at A;cases A;rw [hz] at hf;cases hf
   exact (c9 J (fun _ _=>Apart3.symm) jk A l).1 (by rw [hf];intro q;cases q) b x t
 have one:∀ (k:Nat) (p:It3),ps[k]?=some p->∃ q,(q.d,q.f)=(fs[k]?).getD (p.d,p.f)/\fs[k]?=some (q.d,q.f)/\Back1 K H H' ps p q/\((p.f=.z/\q=p)\/(p.f ≠ .z/\g k=some q)):=fun k p l=>by
  have hm:=Ep l
  obtain ⟨W,f1,f2,f3⟩:=hs k (p.d,p.f) (by rw [Et,l];rfl)
  by_cases hz:p.f=.z
  ·have:=f2 hz
   subst this
   refine ⟨p,by rw [f1];rfl,f1,⟨fun _=>rfl,rfl,.inl rfl,⟨C k p l hz,fun h=>absurd hz h⟩,fun c N=>.inr ⟨p,hm,N⟩,fun h=>?_⟩,.inl ⟨hz,rfl⟩⟩
   rw [hz] at h;cases h
  ·obtain ⟨h1,h2⟩:=f3 hz
   rw [EC] at h1
   obtain ⟨y,y1,X,R,y4⟩:=w.slot (d:=W.1) (f:=W.2) h1
   have x:y.v=p.v:=by
    have:=w.pro k (V k p l hz)
    rw [y4] at this
    have h0:some (some y.v)=some (some p.v):=this.trans (h0 k p l)
    injection h0 with h0
    injection h0
   have ok:=w.okS k y y1
   refine ⟨y,by rw [f1,X,R];rfl,by rw [f1,X,R],⟨fun h=>absurd h hz,x,by rw [R];exact h2,⟨ok.rep,fun hf=>?_⟩,fun c N=>ok.src c N,fun hf b t=>?_⟩,.inr ⟨hz,y1⟩⟩
   ·obtain ⟨m,a,L',v1,v2,v3,_⟩:=ok.own hf
    exact ⟨m,a,L',v1,v2,v3⟩
   ·obtain ⟨_,a,L',v1,v2,_⟩:=(G p hm).own hz
    rw [t] at v1;cases v1
    obtain ⟨o,ho⟩:=((G p hm).rep.inH b (by rw [v2];exact Ec)).ex
    exact there b o ho
 obtain ⟨qs,hq,E⟩:=ki (P:=fun k p q=>fs[k]?=some (q.d,q.f)/\Back1 K H H' ps p q/\((p.f=.z/\q=p)\/(p.f ≠ .z/\g k=some q))) ps 0 fun k p l=>by
  obtain ⟨q,_,a,b,c⟩:=one k p l
  exact ⟨q,by simpa using ⟨a,b,c⟩⟩
 have get:∀ (k:Nat) (p q:It3),ps[k]?=some p->qs[k]?=some q->fs[k]?=some (q.d,q.f)/\Back1 K H H' ps p q/\((p.f=.z/\q=p)\/(p.f ≠ .z/\g k=some q)):=fun k p q s eq=>by
  obtain ⟨q',e1,e2⟩:=E k p s
  rw [eq] at e1
  cases e1
  simpa using e2
 have par:∀ (k:Nat) (q:It3),qs[k]?=some q->∃ p,ps[k]?=some p:=fun k q e=>by
  have Y:=(Eo.mp e).1
  exact ⟨ps[k]'(by omega),by simp [show k < ps.length by omega]⟩
 refine ⟨qs,⟨frame,Paired.ofGet hq.symm fun k p q s eq=>(get k p q s eq).2.1,?_⟩,?_,fun k p q s eq=>(get k p q s eq).2.2⟩
 ·rw [List.pairwise_iff_getElem]
  intro k j Y O lt
  have l:qs[k]?=some qs[k]:=Ej Y
  have I:qs[j]?=some qs[j]:=Ej O
  have side:∀ (k j:Nat) (q r:It3),k ≠ j->qs[k]?=some q->qs[j]?=some r->NoRoot q r:=fun k j q r n eq Z=>by
   obtain ⟨p,s⟩:=par k q eq
   obtain ⟨B,F⟩:=par j r Z
   obtain ⟨_,b,c⟩:=get k p q s eq
   obtain ⟨_,b',c'⟩:=get j B r F Z
   rcases c with ⟨hz,e⟩ | ⟨hz,e⟩
   ·rw [e];exact fun h=>absurd hz h
   ·rcases c' with ⟨Q,S⟩ | ⟨Q,S⟩
    ·rw [S]
     intro hf a ea
     exact (c9 J (fun _ _=>Apart3.symm) n s F).1 hz a (by rw [<- b.v];exact ea)
    ·exact w.ss k j q r n e S
  exact ⟨side k j _ _ (Ew lt) l I,side j k _ _ (Nat.ne_of_gt lt) I l⟩
 ·refine List.ext_getElem? fun k=>?_
  rw [Et]
  cases eq:qs[k]? with
  | none =>
   have:qs.length<=k:=List.getElem?_eq_none_iff.mp eq
   rw [List.getElem?_eq_none (by omega)]
   rfl
  | some q =>
   obtain ⟨p,s⟩:=par k q eq
   rw [(get k p q s eq).1]
   rfl
theorem sK {n:Nat} {pr:Nat->Bool} {σ0:St} {ps:List It3} {fs:List (D × Fl)} (s:∀ p ∈ ps,Arg K H p) (F:ps.Pairwise Apart3) (j:∀ (i:Nat) (p:It3),ps[i]?=some p->p.f ≠ .z->pr i=true) (h0:∀ (i:Nat) (p:It3),ps[i]?=some p->σ0[i]?=some (some p.v))
  (w:Wf K (gOf H pr σ0 ps) H' σ ρ (x :: T) g) (e:fg ρ 0 (ps.map fun p=>(p.d,p.f))=some fs):∃ qs,Behind K H H' ps qs x/\qs.map (fun q=>(q.d,q.f))=fs:=by
 obtain ⟨qs,B,f,E⟩:=qF (n:=n) s F j h0 w e
 have ok:=w.okT x Ec
 refine ⟨qs,⟨B,ok.rep,fun hf=>?_,fun c A=>ok.src c A,fun q C=>?_⟩,f⟩
 ·obtain ⟨m,a,L',v1,v2,v3,_⟩:=ok.own hf
  exact ⟨m,a,L',v1,v2,v3,w.fx.frT x Ec hf a v1⟩
 ·obtain ⟨k,u,y⟩:=List.mem_iff_getElem.mp C
  have eq:qs[k]?=some q:=by rw [Ej u,y]
  obtain ⟨p,r,b⟩:=Paired.exR B.back eq
  rcases E k p q r eq with ⟨hz,e⟩ | ⟨hz,e⟩
  ·rw [e]
   refine ⟨fun hf a t hm=>?_,fun h=>absurd hz h⟩
   have h1:=w.fx.frT x Ec hf a t
   obtain ⟨o,l⟩:=((s p (Ep r)).rep.inH a hm).ex
   have h2:H a=none:=h1
   rw [h2] at l;exact nsE l
  ·exact (w.st k q e x Ec).symm
end
end L3
end
section
namespace L3
open PySem L2
def ci:Fl->Fl
 | .u=>.l
 | f=>f
def bt (x:It3):It3:={ x with f:=ci x.f }
def fu:Fl->Fl
 | .l=>.u
 | f=>f
def zo (x:It3):It3:={ x with f:=fu x.f }
def jh (h:Fl->Fl) (i:Nat) (ρ:Sto):Sto:=match (ρ[i]?).join with
 | some (d,f)=>ρ.set i (some (d,h f))
 | none=>ρ
def aH (h:Fl->Fl) (is:List Nat) (ρ:Sto):Sto:=is.foldl (fun ρ i=>jh h i ρ) ρ
def us (ρ:Sto) (is:List Nat):List Nat:=is.filter fun i=>match (ρ[i]?).join with
 | some (_,.u)=>true
 | _=>false
theorem lentF_z {f:Fl}:ci f=.z ↔ f=.z:=by cases f <;> simp [ci]
theorem unlF_z {f:Fl}:fu f=.z ↔ f=.z:=by cases f <;> simp [fu]
theorem tM (f:Fl):ci f ≠ .u:=by cases f <;> simp [ci]
theorem BJ (f:Fl):fu f ≠ .l:=by cases f <;> simp [fu]
section
variable {K:FG} {G G0:Gm} {W W0:D->Sto->Prop} {H H':Hp} {σ:St} {ρ ρ':Sto} {T T':List It3} {g:Nat->Option It3} {x y z:It3} {α β:Type}
theorem rN {h:Fl->Fl} {i j:Nat}:((jh h i ρ)[j]?).join=if j=i then ((ρ[j]?).join).map (fun p=>(p.1,h p.2)) else (ρ[j]?).join:=by
 unfold jh
 cases e:(ρ[i]?).join with
 | none =>
  by_cases q:j=i
  ·subst q;rw [if_pos rfl,e];rfl
  ·rw [if_neg q]
 | some p =>
  obtain ⟨d,f⟩:=p
  dsimp only
  rw [bS (dB e)]
  by_cases q:j=i
  ·subst q;rw [if_pos rfl,if_pos rfl,e];rfl
  ·rw [if_neg q,if_neg q]
theorem u3 {h:Fl->Fl} {i:Nat}:(jh h i ρ).length = ρ.length:=by
 unfold jh
 split
 ·rw [List.length_set]
 ·rfl
theorem gq {h:Fl->Fl} (a:∀ f,h (h f)=h f):∀ {is:List Nat} {ρ:Sto} {j:Nat},((aH h is ρ)[j]?).join=if j ∈ is then ((ρ[j]?).join).map (fun p=>(p.1,h p.2)) else (ρ[j]?).join
 | [],ρ,j=>by simp [aH]
 | i :: is,ρ,j=>by
  have e:aH h (i :: is) ρ=aH h is (jh h i ρ):=rfl
  rw [e,gq a,rN]
  by_cases q:j=i
  ·subst q
   by_cases m:j ∈ is
   ·rw [if_pos m,if_pos rfl,if_pos Ec]
    cases (ρ[j]?).join with
    | none=>rfl
    | some p=>simp [a]
   ·rw [if_neg m,if_pos rfl,if_pos Ec]
  ·by_cases m:j ∈ is
   ·rw [if_pos m,if_neg q,if_pos (Ed _ m)]
   ·rw [if_neg m,if_neg q,if_neg (fun z=>(Ei.mp z).elim q m)]
theorem iQ {h:Fl->Fl}:∀ {is:List Nat} {ρ:Sto},(aH h is ρ).length = ρ.length
 | [],ρ=>rfl
 | i :: is,ρ=>by
  have e:aH h (i :: is) ρ=aH h is (jh h i ρ):=rfl
  rw [e,iQ,u3]
def dS (G:Gm) (H:Hp) (g:Nat->Option It3) (is:List Nat):Gm :=
 ⟨H,fun b=>∃ j y,j ∉ is/\g j=some y/\y.f=.u/\y.v=.ref b,G.pr,G.σ0,G.orig,fun c=>G.H0 c=none\/G.src c,fun j=>if j ∈ is then (g j).map (·.v) else G.lv j⟩
structure Fk (x y:It3):Prop where
 d:y.d=x.d
 v:y.v=x.v
 L:y.L=x.L
 z:y.f=.z ↔ x.f=.z
theorem Fk.noRoot {x d y f:It3} (a:Fk x d) (b:Fk y f) (h:NoRoot x y):NoRoot d f:=fun hf c e=>by
 rw [b.L]
 exact h (fun q=>hf (a.z.mpr q)) c (by rw [<- a.v];exact e)
theorem Fk.apart {x c y d:It3} (a:Fk x c) (b:Fk y d) (h:Apart3 x y):Apart3 c d:=⟨a.noRoot b h.1,b.noRoot a h.2⟩
theorem Fk.refl (x:It3):Fk x x:=⟨rfl,rfl,rfl,Iff.rfl⟩
theorem kO (x:It3):Fk x (bt x):=⟨rfl,rfl,rfl,lentF_z⟩
theorem DE (x:It3):Fk x (zo x):=⟨rfl,rfl,rfl,unlF_z⟩
theorem pR {o:Option It3} {h:Fl->Fl} {p:Option (D × Fl)} (e:o.map (fun x=>(x.d,x.f))=p):(o.map fun x=>{ x with f:=h x.f }).map (fun x:It3=>(x.d,x.f))=p.map fun p=>(p.1,h p.2):=by
 subst e
 cases o <;> rfl
theorem Wf.enter (w:Wf K G H σ ρ T g) (is:List Nat):Wf K (dS G H g is) H σ (aH ci is ρ) (T.map bt) (fun j=>if j ∈ is then (g j).map bt else g j):=by
 have val:∀ j u,(if j ∈ is then (g j).map bt else g j)=some u->∃ l,g j=some l/\Fk l u/\((j ∈ is/\u=bt l)\/(j ∉ is/\u=l)):=fun j u h=>by
  by_cases q:j ∈ is
  ·rw [if_pos q] at h
   obtain ⟨l,e1,B⟩:=Ef.mp h
   subst B
   exact ⟨l,e1,kO l,.inl ⟨q,rfl⟩⟩
  ·rw [if_neg q] at h
   exact ⟨u,h,Fk.refl u,.inr ⟨q,rfl⟩⟩
 refine ⟨by rw [iQ];exact w.len,fun j=>?_,fun j u h=>?_,fun j u h=>?_,fun u hu=>?_,fun i j a b n J p=>?_,fun j a h b p=>?_,?_,fun b o e _=>e,w.pro,⟨fun u hu hf a s=>?_,fun j u h I hf a s=>?_,fun b p=>?_,w.fx.ob,fun j u h C=>?_⟩⟩
 ·rw [gq (by intro f;cases f <;> rfl)]
  by_cases q:j ∈ is
  ·rw [if_pos q,if_pos q];exact pR (w.sl j)
  ·rw [if_neg q,if_neg q];exact w.sl j
 ·obtain ⟨l,e,k,_⟩:=val j u h
  rw [k.v];exact w.sv j l e
 ·obtain ⟨l,e,k,c⟩:=val j u h
  have ok:=w.okS j l e
  refine ⟨by rw [k.d,k.v,k.L];exact ok.rep,fun hf=>?_,fun c x=>.inr (ok.src c (by rw [<- k.L];exact x))⟩
  obtain ⟨m,a,L',v1,v2,v3,_⟩:=ok.own (fun q=>hf (k.z.mpr q))
  refine ⟨by rw [k.d];exact m,a,L',by rw [k.v];exact v1,by rw [k.L];exact v2,v3,fun hu=>?_⟩
  rcases c with ⟨_,rfl⟩ | ⟨D,rfl⟩
  ·exact absurd hu (tM _)
  ·exact .inr ⟨j,u,D,e,hu,v1⟩
 ·obtain ⟨l,h0,rfl⟩:=Es.mp hu
  have ok:=w.okT l h0
  refine ⟨ok.rep,fun hf=>?_,fun c x=>.inr (ok.src c x)⟩
  obtain ⟨m,a,L',v1,v2,v3,_⟩:=ok.own (fun q=>hf (lentF_z.mpr q))
  exact ⟨m,a,L',v1,v2,v3,fun hu=>absurd hu (tM _)⟩
 ·obtain ⟨A,e1,t,_⟩:=val i a J
  obtain ⟨r,B,F,_⟩:=val j b p
  exact t.noRoot F (w.ss i j A r n e1 B)
 ·obtain ⟨A,e1,t,_⟩:=val j a h
  obtain ⟨r,h0,rfl⟩:=Es.mp p
  exact t.apart (kO r) (w.st j A e1 r h0)
 ·rw [List.pairwise_map]
  exact w.tt.imp fun {a b} h=>(kO a).apart (kO b) h
 ·obtain ⟨l,h0,rfl⟩:=Es.mp hu
  exact w.fx.frT l h0 (fun q=>hf (lentF_z.mpr q)) a s
 ·obtain ⟨l,e,k,_⟩:=val j u h
  exact w.fx.frS j l e I (fun q=>hf (k.z.mpr q)) a (by rw [<- k.v];exact s)
 ·obtain ⟨j,y,_,e,hf,E⟩:=p
  obtain ⟨_,a,L',v1,v2,_⟩:=(w.okS j y e).own (by rw [hf];intro q;cases q)
  rw [E] at v1;cases v1
  exact ((w.okS j y e).rep.inH b (by rw [v2];exact Ec)).ex
 ·obtain ⟨l,e,k,c⟩:=val j u h
  show (if j ∈ is then (g j).map (·.v) else G.lv j)=_
  rcases c with ⟨q,rfl⟩ | ⟨q,rfl⟩
  ·rw [if_pos q,e];rfl
  ·rw [if_neg q];exact w.fx.lvS j u e C
theorem Wf.leave {is:List Nat} {σ':St} {ρ2:Sto} {g2:Nat->Option It3} {R:List It3} (w:Wf K G H σ ρ T g) (F:∀ i ∈ is,∀ y,g i=some y->y.f=.u) (Q:T'.Sublist T) (p:Wf K (dS G H g is) H' σ' ρ2 (R ++ T'.map bt) g2) :
  Wf K G H' σ' (aH fu is ρ2) (R ++ T') (fun j=>if j ∈ is then (g2 j).map zo else g2 j):=by
 have val:∀ j u,(if j ∈ is then (g2 j).map zo else g2 j)=some u->∃ r,g2 j=some r/\Fk r u/\((j ∈ is/\u=zo r)\/(j ∉ is/\u=r)):=fun j u h=>by
  by_cases q:j ∈ is
  ·rw [if_pos q] at h
   obtain ⟨r,e1,M⟩:=Ef.mp h
   subst M
   exact ⟨r,e1,DE r,.inl ⟨q,rfl⟩⟩
  ·rw [if_neg q] at h
   exact ⟨u,h,Fk.refl u,.inr ⟨q,rfl⟩⟩
 have may:∀ a,H a=none\/(∃ j y,j ∉ is/\g j=some y/\y.f=.u/\y.v=.ref a)->G.H0 a=none\/G.bw a:=fun a h=>by
  rcases h with h | ⟨j,y,_,e,hf,V⟩
  ·exact .inl (w.h0none h)
  ·obtain ⟨_,a',L',v1,_,_,v4⟩:=(w.okS j y e).own (by rw [hf];intro q;cases q)
   rw [V] at v1;cases v1
   exact v4 hf
 have t:∀ c,H c=none\/(G.H0 c=none\/G.src c)->G.H0 c=none\/G.src c:=fun c h=>by
  rcases h with h | h
  ·exact .inl (w.h0none h)
  ·exact h
 have N:∀ x ∈ T',x ∈ T:=fun x U=>Q.subset U
 have I:∀ b o,H b=some o->∃ o',H' b=some o':=fun b o s=>by
  by_cases q:∃ j y,j ∉ is/\g j=some y/\y.f=.u/\y.v=.ref b
  ·exact p.fx.bin b q
  ·exact ⟨o,p.base b o s q⟩
 refine ⟨by rw [iQ];exact p.len,fun j=>?_,fun j u h=>?_,fun j u h=>?_,fun u hu=>?_,fun i j a b n J s=>?_,fun j a h b s=>?_,?_,fun b o e n=>?_,p.pro,⟨fun u hu=>?_,fun j u h hp hf a S=>?_,fun b s=>?_,p.fx.ob,fun j u h A=>?_⟩⟩
 ·rw [gq (by intro f;cases f <;> rfl)]
  by_cases q:j ∈ is
  ·rw [if_pos q,if_pos q];exact pR (p.sl j)
  ·rw [if_neg q,if_neg q];exact p.sl j
 ·obtain ⟨r,e,k,_⟩:=val j u h
  rw [k.v];exact p.sv j r e
 ·obtain ⟨r,e,k,c⟩:=val j u h
  have ok:=p.okS j r e
  refine ⟨by rw [k.d,k.v,k.L];exact ok.rep,fun hf=>?_,fun c E=>t c (ok.src c (by rw [<- k.L];exact E))⟩
  obtain ⟨m,a,L',v1,v2,v3,v4⟩:=ok.own (fun q=>hf (k.z.mpr q))
  refine ⟨by rw [k.d];exact m,a,L',by rw [k.v];exact v1,by rw [k.L];exact v2,v3,fun hu=>?_⟩
  rcases c with ⟨q,rfl⟩ | ⟨nj,rfl⟩
  ·cases B:r.f with
   | u=>exact may a (v4 B)
   | l =>
    have A:=p.fx.lvS j r e B
    have A:(if j ∈ is then (g j).map (·.v) else G.lv j)=some r.v:=A
    rw [if_pos q] at A
    obtain ⟨y,P,ev⟩:=Ef.mp A
    have O:=F j q y P
    obtain ⟨_,a',ab,b1,_,_,W⟩:=(w.okS j y P).own (by rw [O];intro q;cases q)
    rw [ev,v1] at b1;cases b1
    exact W O
   | z=>exact absurd (unlF_z.mpr B) hf
  ·exact may a (v4 hu)
 ·rcases El.mp hu with hu | hu
  ·have ok:=p.okT u (Eg _ hu)
   refine ⟨ok.rep,fun hf=>?_,fun c E=>t c (ok.src c E)⟩
   obtain ⟨m,a,L',v1,v2,v3,v4⟩:=ok.own hf
   exact ⟨m,a,L',v1,v2,v3,fun h=>may a (v4 h)⟩
  ·have ok:=w.okT u (N u hu)
   exact ⟨(p.okT (bt u) (Eh _ (Es.mpr ⟨u,hu,rfl⟩))).rep,ok.own,ok.src⟩
 ·obtain ⟨D,e1,C,_⟩:=val i a J
  obtain ⟨X,M,Z,_⟩:=val j b s
  exact C.noRoot Z (p.ss i j D X n e1 M)
 ·obtain ⟨D,e1,C,_⟩:=val j a h
  rcases El.mp s with s | s
  ·exact C.apart (Fk.refl b) (p.st j D e1 b (Eg _ s))
  ·have:=p.st j D e1 (bt b) (Eh _ (Es.mpr ⟨b,s,rfl⟩))
   exact C.apart (y:=bt b) ⟨rfl,rfl,rfl,lentF_z.symm⟩ this
 ·have h:=List.pairwise_append.mp p.tt
  refine List.pairwise_append.mpr ⟨h.1,w.tt.sublist Q,fun a J b s=>?_⟩
  exact (Fk.refl a).apart (y:=bt b) ⟨rfl,rfl,rfl,lentF_z.symm⟩ (h.2.2 a J (bt b) (Es.mpr ⟨b,s,rfl⟩))
 ·have s:=w.base b o e n
  refine p.base b o s fun q=>?_
  rcases may b (.inr q) with h | h
  ·rw [e] at h;cases h
  ·exact n h
 ·rcases El.mp hu with hu | hu
  ·exact p.fx.frT u (Eg _ hu)
  ·exact w.fx.frT u (N u hu)
 ·obtain ⟨r,e,k,_⟩:=val j u h
  exact p.fx.frS j r e hp (fun q=>hf (k.z.mpr q)) a (by rw [<- k.v];exact S)
 ·obtain ⟨o,Y⟩:=w.fx.bin b s
  exact I b o Y
 ·obtain ⟨r,e,k,c⟩:=val j u h
  rcases c with ⟨q,rfl⟩ | ⟨q,rfl⟩
  ·exact absurd A (BJ _)
  ·have:=p.fx.lvS j u e A
   have this:(if j ∈ is then (g j).map (·.v) else G.lv j)=some u.v:=this
   rw [if_neg q] at this
   exact this
theorem AI {is:List Nat} (w:Wf K G H σ ρ T g) (a:∀ i ∈ is,∀ y,g i=some y->y.f=.u):∀ (H':Hp) (σ':St) (ρ2:Sto) (b:List It3) (g2:Nat->Option It3),Wf K (dS G H g is) H' σ' ρ2 b g2->∃ g3,Wf K G H' σ' (aH fu is ρ2) [] g3 :=
 fun H' σ' ρ2 b g2 c=>⟨_,by simpa using Wf.leave (T':=[]) (R:=[]) w a (List.nil_sublist T) (by simpa using c.sub (List.nil_sublist b))⟩
end
end L3
end
section
namespace L3
open PySem L2
section
variable {K:FG} {G G0:Gm} {W W0:D->Sto->Prop} {H H':Hp} {σ:St} {ρ ρ':Sto} {T T':List It3} {g:Nat->Option It3} {x y z:It3} {α β:Type}
def Walk (K:FG) (J:It) (H1:Hp) (ys:List It3) (ds:List D):Prop:=∃ els:List It3,(∀ x ∈ els,x.f=.z/\Rep K H1 x.d x.v x.L/\∀ c ∈ x.L,dm ys c) /\
 ∀ (M:Addr->Prop) (H':Hp),(∀ b,M b->MutAt H1 b)->(∀ b o,H1 b=some o->¬ M b->H' b=some o)->(∀ y ∈ ys,∀ b ∈ y.L,¬ M b) ->
  (∀ (i:Nat) (d:D),ds[i]?=some d->J.go i H'/\∀ x a,J.yld i H' x a->∃ w,New K H' a (dq els) w/\w.d=d/\w.f=.z/\w.v=x)/\J.stop ds.length H'
abbrev IM:=M3 (List R3 × List D)
def EndI (K:FG) (G:Gm) (W:D->Sto->Prop) (σ:St) (T:List It3) (ρ':Sto) (R:It->Hp->Prop):Except D (List R3 × List D)->Prop
 | .ok p=>∀ J H1 a Ts g1 ys,Wf K G H1 σ ρ' (Ts ++ T) g1->Ars σ p.1 a Ts->(∀ y ∈ ys,(∃ i,i ∈ pls p.1/\g1 i=some y)\/y ∈ Ts)->Walk K J H1 ys p.2->R J H1
 | .error e=>W e ρ'
def tI (K:FG) (G0:Gm) (W0:D->Sto->Prop) (m:IM):TI:=fun σ H R=>∃ G W,Le K G W G0 W0/\∃ ρ T g r ρ',Wf K G H σ ρ T g/\m ρ=some (r,ρ')/\EndI K G W σ T ρ' R r
theorem tI.seq {m:IM} {k:List R3 × List D->M3 β} {r:Except D β} {P:It->Hp->Prop} (le:Le K G W G0 W0) (w:Wf K G H σ ρ T g) (e:ae m k ρ=some (r,ρ')) (he:∀ x,r=.error x->W x ρ')
  (h:∀ p ρ1,k p ρ1=some (r,ρ')->EndI K G W σ T ρ1 P (.ok p)):tI K G0 W0 m σ H P:=by
 unfold ae at e
 cases q:m ρ with
 | none=>rw [q] at e;exact nsE e
 | some p =>
  obtain ⟨o,ρ1⟩:=p
  rw [q] at e
  cases o with
  | error x=>cases e;exact ⟨G,W,le,ρ,T,g,.error x,ρ',w,q,he x rfl⟩
  | ok ra=>exact ⟨G,W,le,ρ,T,g,.ok ra,ρ1,w,q,h ra ρ1 e⟩
def Bnd (K:FG) (pr:Nat->Bool) (tg:TG) (bnd:D->Sto->Option Sto):Prop:=∀ (G:Gm) (H:Hp) (σ:St) (ρ ρ1:Sto) (T:List It3) (g:Nat->Option It3) (w:It3) (Q:St->Hp->Prop),G.pr=pr->w.f=.z->Wf K G H σ ρ (w :: T) g->bnd w.d ρ=some ρ1 ->
 (∀ σ2 g2,Wf K G H σ2 ρ1 T g2->Q σ2 H)->tg w.v σ H Q
def aq (i:Nat) (d:D) (ρ:Sto):Option Sto:=if i < ρ.length then some (ρ.set i (some (d,.z))) else none
theorem ip {pr:Nat->Bool} {i:Nat} (b:pr i=false):Bnd K pr (tY i) (aq i):=fun G H σ ρ ρ1 T g w Q a hz wf e q=>by
 unfold aq at e
 split at e
 ·rename_i hi
  cases e
  exact q _ _ (wf.store (f:=.z) hi (by rw [a];exact b) (.inr rfl) (by intro h;cases h))
 ·exact nsE e
def zm (K:FG) (pr:Nat->Bool) (tg:TGs) (bnd:List D->Sto->Option Sto):Prop:=∀ (G:Gm) (H:Hp) (σ:St) (ρ ρ1:Sto) (T:List It3) (g:Nat->Option It3) (ws:List It3) (Q:St->Hp->Prop),G.pr=pr->(∀ w ∈ ws,w.f=.z)->Wf K G H σ ρ (ws ++ T) g->bnd (ws.map (·.d)) ρ=some ρ1 ->
 (∀ σ2 g2,Wf K G H σ2 ρ1 T g2->Q σ2 H)->tg (ws.map (·.v)) σ H Q
def ju:List D->Sto->Option Sto
 | [],ρ=>some ρ
 | _,_=>none
def cn (b:D->Sto->Option Sto) (bs:List D->Sto->Option Sto):List D->Sto->Option Sto
 | [],_=>none
 | d :: ds,ρ=>match b d ρ with
  | some ρ1=>bs ds ρ1
  | none=>none
theorem qD {pr:Nat->Bool}:zm K pr gNil ju:=fun G H σ ρ ρ1 T g ws Q _ _ wf e q=>by
 cases ws with
 | nil=>cases e;exact ⟨rfl,q _ _ wf⟩
 | cons w ws=>exact nsE e
theorem jW {pr:Nat->Bool} {tg:TG} {a:TGs} {b:D->Sto->Option Sto} {bs:List D->Sto->Option Sto} (h1:Bnd K pr tg b) (h2:zm K pr a bs):zm K pr (BD tg a) (cn b bs):=fun G H σ ρ ρ1 T g ws Q c hz wf e q=>by
 cases ws with
 | nil=>exact nsE e
 | cons w ws =>
  have e:(match b w.d ρ with | some ρ1=>bs (ws.map (·.d)) ρ1 | none=>none)=some ρ1:=e
  cases f:b w.d ρ with
  | none=>rw [f] at e;exact nsE e
  | some ρ2 =>
   rw [f] at e
   exact ⟨w.v,ws.map (·.v),rfl,h1 G H σ ρ ρ2 (ws ++ T) g w _ c (hz w Ec) wf f fun σ2 g2 i=>h2 G H σ2 ρ2 ρ1 T g2 ws Q c (fun x h=>hz x (Ed _ h)) i e q⟩
def jt (n:Nat) (bs:List D->Sto->Option Sto):D->Sto->Option Sto
 | .tup ds,ρ=>if ds.length=n then bs ds ρ else none
 | _,_=>none
theorem Reps.split:∀ {ds:List D} {b:List V} {L:List Addr},Reps (Rep K H) ds b L->∃ ws:List It3,ws.map (·.d)=ds/\ws.map (·.v)=b/\(∀ w ∈ ws,w.f=.z/\Rep K H w.d w.v w.L/\∀ c ∈ w.L,c ∈ L)
 | _,_,_,.nil=>⟨[],rfl,rfl,fun _ h=>(by cases h)⟩
 | _,_,_,.cons (d:=d) (v:=v) (L:=L) r rs=>by
  obtain ⟨ws,h1,h2,h3⟩:=Reps.split rs
  refine ⟨⟨d,v,L,.z⟩ :: ws,by simp [h1],by simp [h2],fun w hw=>?_⟩
  rcases Ei.mp hw with h | h
  ·subst h;exact ⟨rfl,r,fun c a=>Eg _ a⟩
  ·exact ⟨(h3 w h).1,(h3 w h).2.1,fun c a=>Eh _ ((h3 w h).2.2 c a)⟩
theorem Wf.pushAll:∀ {ws:List It3} {T:List It3},Wf K G H σ ρ T g->(∀ w ∈ ws,w.f=.z/\Rep K H w.d w.v w.L/\∀ c ∈ w.L,dD T g c/\(G.H0 c=none\/G.src c))->Wf K G H σ ρ (ws ++ T) g
 | [],T,w,_=>w
 | x :: ws,T,w,h=>by
  have i:=Wf.pushAll (ws:=ws) w fun y a=>h y (Ed _ a)
  obtain ⟨hz,e,b⟩:=h x Ec
  refine i.push (Ks:=fun c=>c ∈ x.L) ⟨Same.refl _,e,fun c h=>.inr h,fun q=>absurd hz q⟩ fun c m=>⟨⟨(b c m).1.1,fun y a hf=>?_⟩,(b c m).2⟩
  rcases El.mp a with q | q
  ·exact absurd (h y (Ed _ q)).1 hf
  ·exact (b c m).1.2 y q hf
theorem ue {pr:Nat->Bool} {n:Nat} {j:TGs} {bs:List D->Sto->Option Sto} (h2:zm K pr j bs):Bnd K pr (gTup K n j) (jt n bs):=fun G H σ ρ ρ1 T g w Q k hz wf e q=>by
 have r:=(wf.okT w Ec).rep
 obtain ⟨d,v,L,f⟩:=w
 cases r with
 | @tup xs a vs _ hs rs =>
  have e:(if xs.length=n then bs xs ρ else none)=some ρ1:=e
  split at e
  ·rename_i m
   obtain ⟨ws,h1,h3,h⟩:=Reps.split rs
   refine ⟨a,vs,rfl,SqT.of hs,?_,?_⟩
   ·rw [<- h3,En,<- m,<- h1,En]
   ·have o:Wf K G H σ ρ (ws ++ (⟨.tup xs,.ref a,L,f⟩ :: T)) g:=wf.pushAll fun u hu=>⟨(h u hu).1,(h u hu).2.1,fun c l=>⟨wf.kid (y:=⟨.tup xs,.ref a,L,f⟩) (.inr Ec) ((h u hu).2.2 c l) fun hf=>absurd hz hf,(wf.okT _ Ec).src c ((h u hu).2.2 c l)⟩⟩
    have p:Wf K G H σ ρ (ws ++ T) g:=o.sub ((List.Sublist.refl ws).append (List.sublist_cons_self _ _))
    rw [<- h3]
    exact h2 G H σ ρ ρ1 T g ws Q k (fun u hu=>(h u hu).1) p (by rw [h1];exact e) q
  ·exact nsE e
 | non=>exact nsE e
 | bl b=>exact nsE e
 | int i=>exact nsE e
 | str s=>exact nsE e
 | lst _ _=>exact nsE e
 | lstF _ _=>exact nsE e
 | dK _ _ _=>exact nsE e
 | dT _ _ _=>exact nsE e
 | exc _ _=>exact nsE e
def cI (bnd:D->Sto->Option Sto) (b:SM):List D->SM
 | []=>aW .nx
 | d :: ds=>fun ρ=>match bnd d ρ with
  | none=>none
  | some ρ1=>ae b (fun f=>match f with
   | .nx=>cI bnd b ds
   | .ct=>cI bnd b ds
   | .br=>aW .nx
   | .rt d f=>aW (.rt d f)) ρ1
def cP (im:IM) (bnd:D->Sto->Option Sto) (b:SM):SM:=ae im fun p=>fun ρ=>(cI bnd b p.2 (aH ci (us ρ (pls p.1)) ρ)).map fun r=>(r.1,aH fu (us ρ (pls p.1)) r.2)
theorem us_u {is:List Nat} (w:Wf K G H σ ρ T g):∀ i ∈ us ρ is,∀ y,g i=some y->y.f=.u:=fun i hi y a=>by
 have h:=(EL.mp hi).2
 have s:=w.sl i
 rw [a] at s
 have s:some (y.d,y.f)=(ρ[i]?).join:=s
 rw [<- s] at h
 cases hf:y.f with
 | u=>rfl
 | l=>rw [hf] at h;cases h
 | z=>rw [hf] at h;cases h
theorem vR {is:List Nat} {i:Nat} (w:Wf K G H σ ρ T g) (hi:i ∈ is) (a:g i=some y) (hf:y.f=.u):i ∈ us ρ is:=by
 refine EL.mpr ⟨hi,?_⟩
 have s:=w.sl i
 rw [a] at s
 have s:some (y.d,y.f)=(ρ[i]?).join:=s
 rw [<- s,hf]
theorem BU {im:IM} {bnd:D->Sto->Option Sto} {b:SM} {tg:TG} {E:Ends} (V:Bnd K G0.pr tg bnd) (h:tS K G0 W0 (cP im bnd b) E σ H):tFor (tI K G0 W0 im) tg (tS K G0 W0 b) E σ H:=by
 refine h.use fun G W le ρ T g r ρ' w e q=>?_
 refine tI.seq le w e q.err fun p ρ1 e1=>?_
 intro J H1 vs Ts g1 ys t a1 ax hw
 have Q:=us_u (is:=pls p.1) t
 have ab:∀ i y,i ∈ pls p.1->g1 i=some y->y.f=.u->i ∈ us ρ1 (pls p.1):=fun i y hi ey hf=>vR t hi ey hf
 generalize us ρ1 (pls p.1)=is at e1 Q ab
 have w2:=t.enter is
 obtain ⟨els,n,walk⟩:=hw
 have hM:∀ b,(∃ j y,j ∉ is/\g1 j=some y/\y.f=.u/\y.v=.ref b)->MutAt H1 b:=fun b ⟨j,y,_,ey,hf,C⟩=>by
  obtain ⟨_,a,L',v1,v2,_⟩:=(t.okS j y ey).own (by rw [hf];intro q;cases q)
  rw [C] at v1;cases v1
  exact (t.okS j y ey).rep.inH b (by rw [v2];exact Ec)
 have X:∀ y ∈ ys,∀ b ∈ y.L,¬ ∃ j y,j ∉ is/\g1 j=some y/\y.f=.u/\y.v=.ref b:=fun y A b V ⟨j,y',nj,F,hf,C⟩=>by
  have ar:y'.f ≠ .z:=by rw [hf];intro q;cases q
  rcases ax y A with ⟨i,hi,Z⟩ | A
  ·by_cases ij:i=j
   ·subst ij
    rw [Z] at F;cases F
    exact nj (ab i y hi Z hf)
   ·exact t.ss j i y' y (Ne.symm ij) F Z ar b C V
  ·exact (t.st j y' F y (Eg _ A)).1 ar b C V
 have az:∀ y ∈ ys,Itm (Ts ++ T) g1 y:=fun y A=>by
  rcases ax y A with ⟨i,_,Z⟩ | h
  ·exact .inl ⟨i,Z⟩
  ·exact .inr (Eg _ h)
 have kid:∀ x ∈ els,∀ c ∈ x.L,dD ((Ts ++ T).map bt) (fun j=>if j ∈ is then (g1 j).map bt else g1 j) c/\(H1 c=none\/(G.H0 c=none\/G.src c)):=fun x hx c Y=>by
  obtain ⟨nr,sr⟩:=t.kids az ((n x hx).2.2 c Y)
  refine ⟨⟨fun i z ez hf C=>?_,fun z hz hf C=>?_⟩,.inr sr⟩
  ·have ez:(if i ∈ is then (g1 i).map bt else g1 i)=some z:=ez
   by_cases q:i ∈ is
   ·rw [if_pos q] at ez
    obtain ⟨z0,e0,e1⟩:=Ef.mp ez
    subst e1
    exact nr.1 i z0 e0 (fun q=>hf (lentF_z.mpr q)) C
   ·rw [if_neg q] at ez
    exact nr.1 i z ez hf C
  ·obtain ⟨z0,h0,rfl⟩:=Es.mp hz
   exact nr.2 z0 h0 (fun q=>hf (lentF_z.mpr q)) C
 have w3:Wf K (dS G H1 g1 is) H1 σ (aH ci is ρ1) (els ++ (Ts ++ T).map bt) (fun j=>if j ∈ is then (g1 j).map bt else g1 j):=w2.pushAll fun x hx=>⟨(n x hx).1,(n x hx).2.1,fun c Y=>kid x hx c Y⟩
 cases e2:cI bnd b p.2 (aH ci is ρ1) with
 | none=>rw [e2] at e1;exact nsE e1
 | some rr =>
  obtain ⟨r2,ρ3⟩:=rr
  rw [e2] at e1
  have er:r2=r/\aH fu is ρ3 = ρ':=by cases e1;exact ⟨rfl,rfl⟩
  obtain ⟨rfl,eρ⟩:=er
  have leave:∀ {σ':St} {H':Hp} {ρ2:Sto} {g2:Nat->Option It3} {R:List It3},Wf K (dS G H1 g1 is) H' σ' ρ2 (R ++ (els ++ (Ts ++ T).map bt)) g2->∃ g3,Wf K G H' σ' (aH fu is ρ2) (R ++ T) g3:=fun {σ' H' ρ2 g2 R} I =>
   ⟨_,Wf.leave (T:=Ts ++ T) (T':=T) (R:=R) t Q (Er Ts T) (I.sub ((List.Sublist.refl R).append (by
    rw [List.map_append]
    exact (Er (Ts.map bt) (T.map bt)).trans (Er els _))))⟩
  have a3:Le K (dS G H1 g1 is) (fun e ρ2=>W e (aH fu is ρ2)) G W:=⟨rfl,fun H' σ' ρ2 T2 g2 e I he=>by
   obtain ⟨g3,w5⟩:=AI t Q H' σ' ρ2 T2 g2 I
   exact ⟨_,[],g3,w5,he⟩⟩
  have s:Le K (dS G H1 g1 is) (fun e ρ2=>W e (aH fu is ρ2)) G0 W0:=a3.trans le
  refine ⟨fun k m σ' H'=>k<=p.2.length/\m=p.2.length - k/\∃ ρ2 g2,Wf K (dS G H1 g1 is) H' σ' ρ2 (els ++ (Ts ++ T).map bt) g2/\cI bnd b (p.2.drop k) ρ2=some (r2,ρ3),⟨_,Nat.zero_le _,rfl,_,_,w3,e2⟩,?_⟩
  rintro k m σ' H' ⟨hk,rfl,ρ2,g2,I,e4⟩
  obtain ⟨a0,O⟩:=walk _ H' hM (fun b o V hn=>I.base b o V hn) X
  by_cases B:k < p.2.length
  ·obtain ⟨d,hd⟩:∃ d,p.2[k]?=some d:=⟨_,Ej B⟩
   have S:p.2.drop k=d :: p.2.drop (k+1):=by
    rw [List.drop_eq_getElem_cons B]
    rw [Ej B] at hd
    cases hd;rfl
   rw [S] at e4
   obtain ⟨go,yld⟩:=a0 k d hd
   refine .inr ⟨go,fun σ5 H5=>∃ ρ5 g5,Wf K (dS G H1 g1 is) H5 σ5 ρ5 (els ++ (Ts ++ T).map bt) g5/\cI bnd b (p.2.drop (k+1)) ρ5=some (r2,ρ3),fun σ5 H5 ⟨ρ5,g5,w5,l⟩=>⟨p.2.length - (k+1),by omega,B,rfl,ρ5,g5,w5,l⟩,fun x N A=>?_⟩
   obtain ⟨u,nu,ud,uf,uv⟩:=yld x N A
   have w5:Wf K (dS G H1 g1 is) N σ' ρ2 (u :: (els ++ (Ts ++ T).map bt)) g2:=I.push nu fun c Y=>I.alls (ys:=els) (fun y A=>⟨.inr (Eg _ A),(n y A).1⟩) Y
   have l:(match bnd d ρ2 with
    | none=>none
    | some ρ1=>ae b (fun f=>match f with
     | .nx=>cI bnd b (p.2.drop (k+1))
     | .ct=>cI bnd b (p.2.drop (k+1))
     | .br=>aW .nx
     | .rt d f=>aW (.rt d f)) ρ1)=some (r2,ρ3):=e4
   cases e6:bnd d ρ2 with
   | none=>rw [e6] at l;exact nsE l
   | some ρ6 =>
    rw [e6] at l
    dsimp only at l
    rw [<- uv]
    refine V (dS G H1 g1 is) N σ' ρ2 ρ6 _ g2 u _ le.pr uf w5 (by rw [ud];exact e6) fun σ6 g6 w6=>?_
    unfold ae at l
    cases U:b ρ6 with
    | none=>rw [U] at l;exact nsE l
    | some pr7 =>
     obtain ⟨o7,ρ7⟩:=pr7
     rw [U] at l
     cases o7 with
     | error er =>
      cases l
      refine tS.mk (r:=.error er) s w6 U ?_
      show W er (aH fu is _)
      rw [eρ];exact q
     | ok f =>
      cases f with
      | nx=>exact tS.mk (r:=.ok .nx) s w6 U fun σ8 H8 g8 P=>⟨ρ7,g8,P,l⟩
      | ct=>exact tS.mk (r:=.ok .ct) s w6 U fun σ8 H8 g8 P=>⟨ρ7,g8,P,l⟩
      | br =>
       cases l
       refine tS.mk (r:=.ok .br) s w6 U fun σ8 H8 g8 P=>?_
       obtain ⟨g9,M⟩:=leave (R:=[]) P
       rw [eρ] at M
       exact q _ _ _ M
      | rt d' f' =>
       cases l
       refine tS.mk (r:=.ok (.rt d' f')) s w6 U fun x8 σ8 H8 g8 P x1 x2=>?_
       obtain ⟨g9,M⟩:=leave (R:=[x8]) P
       rw [eρ] at M
       exact q x8 _ _ _ M x1 x2
  ·have ek:k=p.2.length:=by omega
   subst ek
   rw [List.drop_length] at e4
   cases e4
   obtain ⟨g9,M⟩:=leave (R:=[]) I
   rw [eρ] at M
   exact .inl ⟨O,q _ _ _ M⟩
end
end L3
end
section
namespace L3
open PySem L2
def sj (ix:List (Option Nat)) (ρ:Sto):Sto:=ix.map fun o=>match o with
 | some i=>(ρ[i]?).join
 | none=>none
def uncap:List (Option Nat)->Sto->Sto->Option Sto
 | [],_,ρ=>some ρ
 | none :: ix,τ,ρ=>uncap ix τ.tail ρ
 | some i :: ix,τ,ρ=>match (ρ[i]?).join,τ.head? with
  | some (_,f),some (some (d',f'))=>if f'=f\/f'=.z then uncap ix τ.tail (ρ.set i (some (d',f'))) else none
  | _,_=>none
def bQ (bnd:D->Sto->Option Sto) (c:M3 Bool) (elt:EM):List D->M3 (List D)
 | []=>aW []
 | d :: ds=>fun τ=>match bnd d τ with
  | none=>none
  | some τ1=>ae c (fun b=>if b then ae elt (fun r=>ae (cW r) fun p=>ae (bQ bnd c elt ds) fun l=>aW (p.1 :: l)) else bQ bnd c elt ds) τ1
def bx (im:IM) (bnd:D->Sto->Option Sto) (c:M3 Bool) (elt:EM) (ix:List (Option Nat)):EM:=ae im fun p=>fun ρ =>
 match bQ bnd c elt p.2 (sj ix (aH ci (us ρ (pls p.1)) ρ)) with
 | some (.ok ds,τ)=>if p.2.length < 16777216 then (uncap ix τ (aH ci (us ρ (pls p.1)) ρ)).map fun ρ2=>(.ok (.val (.lst ds) .u),aH fu (us ρ (pls p.1)) ρ2) else none
 | _=>none
section
variable {K:FG} {G G0:Gm} {W W0:D->Sto->Prop} {H H':Hp} {σ τ:St} {ρ ρ':Sto} {T T':List It3} {g:Nat->Option It3} {x y z:It3} {α β:Type} {ix:List (Option Nat)}
def Inj (ix:List (Option Nat)):Prop:=∀ (j k i:Nat),ix[j]?=some (some i)->ix[k]?=some (some i)->j=k
def AT (ix:List (Option Nat)) (g:Nat->Option It3) (j:Nat):Option It3:=(ix[j]?).join.bind g
def rD (ix:List (Option Nat)) (n:Nat) (g:Nat->Option It3):List It3:=(List.range n).filterMap fun i=>if some i ∈ ix then none else g i
def yV (G:Gm) (ix:List (Option Nat)) (σ:St):Gm:=⟨G.H0,G.bw,fun j=>((ix[j]?).join).isSome,cap ix σ,fun _=>none,G.src,fun j=>(ix[j]?).join.bind G.lv⟩
theorem dF {j:Nat} (h:AT ix g j=some x):∃ i,ix[j]?=some (some i)/\g i=some x:=by
 unfold AT at h
 cases e:ix[j]? with
 | none=>rw [e] at h;exact nsE h
 | some o =>
  rw [e] at h
  cases o with
  | none=>exact nsE h
  | some i=>exact ⟨i,rfl,h⟩
theorem lj {n:Nat} (h:x ∈ rD ix n g):∃ i,some i ∉ ix/\g i=some x:=by
 obtain ⟨i,_,e⟩:=List.mem_filterMap.mp h
 split at e
 ·exact nsE e
 ·rename_i a;exact ⟨i,a,e⟩
theorem xF {n i:Nat} (hi:i < n) (a:some i ∉ ix) (e:g i=some x):x ∈ rD ix n g:=List.mem_filterMap.mpr ⟨i,List.mem_range.mpr hi,by rw [if_neg a];exact e⟩
theorem Wf.cap (w:Wf K G H σ ρ T g) (r:Inj ix):Wf K (yV G ix σ) H (cap ix σ) (sj ix ρ) (rD ix ρ.length g ++ T) (AT ix g):=by
 have ne:∀ {i j:Nat},ix[j]?=some (some i)->∀ k,some k ∉ ix->i ≠ k:=fun e k l q=>l (by rw [<- q];exact Ep e)
 refine ⟨by unfold L2.cap sj;rw [En,En],fun j=>?_,fun j x h=>?_,fun j x h=>?_,fun x m=>?_,fun j k x y n m p=>?_,fun j x h y p=>?_,?_,w.base,fun _ _=>rfl,⟨fun _ _ _ _ _=>rfl,fun _ _ _ _ _ _ _=>rfl,w.fx.bin,fun b o e=>(by cases e),fun j x h u=>?_⟩⟩
 ·unfold AT sj
  rw [Et]
  cases e:ix[j]? with
  | none=>rfl
  | some o =>
   cases o with
   | none=>rfl
   | some i=>exact w.sl i
 ·obtain ⟨i,e1,c⟩:=dF h
  unfold L2.cap
  rw [Et,e1]
  show some ((σ[i]?).getD none)=_
  rw [w.sv i x c];rfl
 ·obtain ⟨i,_,c⟩:=dF h
  have ok:=w.okS i x c
  exact ⟨ok.rep,ok.own,ok.src⟩
 ·rcases El.mp m with h | h
  ·obtain ⟨i,_,e⟩:=lj h
   have ok:=w.okS i x e
   exact ⟨ok.rep,ok.own,ok.src⟩
  ·have ok:=w.okT x h
   exact ⟨ok.rep,ok.own,ok.src⟩
 ·obtain ⟨i,e1,c⟩:=dF m
  obtain ⟨z,A,v⟩:=dF p
  exact w.ss i z x y (fun q=>n (r j k i e1 (q ▸ A))) c v
 ·obtain ⟨i,e1,c⟩:=dF h
  rcases El.mp p with q | q
  ·obtain ⟨k,l,e⟩:=lj q
   have:=ne e1 k l
   exact ⟨w.ss i k x y this c e,w.ss k i y x (Ne.symm this) e c⟩
  ·exact w.st i x c y q
 ·refine List.pairwise_append.mpr ⟨?_,w.tt,fun a t b s=>?_⟩
  ·unfold rD
   rw [List.pairwise_filterMap]
   refine List.pairwise_lt_range.imp fun {i k} lt a t b s=>?_
   have d:(if some i ∈ ix then none else g i)=some a:=t
   have f:(if some k ∈ ix then none else g k)=some b:=s
   split at d
   ·cases d
   ·split at f
    ·cases f
    ·exact ⟨w.ss i k a b (Ew lt) d f,w.ss k i b a (Nat.ne_of_gt lt) f d⟩
  ·obtain ⟨k,l,e⟩:=lj t
   exact w.st k a e b s
 ·obtain ⟨i,e1,c⟩:=dF h
  show (ix[j]?).join.bind G.lv=_
  rw [e1]
  exact w.fx.lvS i x c u
theorem Wf.perm {T T':List It3} (w:Wf K G H σ ρ T g) (p:T.Perm T'):Wf K G H σ ρ T' g :=
 ⟨w.len,w.sl,w.sv,w.okS,fun x a=>w.okT x (p.mem_iff.mpr a),w.ss,fun i x e y b=>w.st i x e y (p.mem_iff.mpr b),(p.pairwise_iff fun h=>Apart3.symm h).mp w.tt,w.base,w.pro,w.fx.sub fun x a=>p.mem_iff.mpr a⟩
theorem iN:∀ {ix:List (Option Nat)} {τ ρ ρ2:Sto},uncap ix τ ρ=some ρ2->Inj ix->ρ2.length = ρ.length/\(∀ i,some i ∉ ix->(ρ2[i]?).join=(ρ[i]?).join) /\
  ∀ (j i:Nat),ix[j]?=some (some i)->∃ p q,(ρ[i]?).join=some p/\(τ[j]?).join=some q/\(ρ2[i]?).join=some q/\(q.2=p.2\/q.2=.z)
 | [],τ,ρ,ρ2,e,_=>by cases e;exact ⟨rfl,fun _ _=>rfl,fun j i h=>by simp at h⟩
 | none :: ix,τ,ρ,ρ2,e,hij=>by
  unfold uncap at e
  obtain ⟨h1,h2,h3⟩:=iN e fun j k i a b=>by
   have:=hij (j+1) (k+1) i (by simpa using a) (by simpa using b)
   omega
  refine ⟨h1,fun i hi=>h2 i fun q=>hi (Ed _ q),fun j i h=>?_⟩
  cases j with
  | zero=>simp at h
  | succ j =>
   obtain ⟨p,q,a,b,c⟩:=h3 j i (by simpa using h)
   exact ⟨p,q,a,by rw [List.getElem?_tail] at b;exact b,c⟩
 | some i0 :: ix,τ,ρ,ρ2,e,hij=>by
  unfold uncap at e
  cases e1:(ρ[i0]?).join with
  | none=>rw [e1] at e;exact nsE e
  | some p =>
   obtain ⟨d,f⟩:=p
   cases r:τ.head? with
   | none=>rw [e1,r] at e;exact nsE e
   | some o =>
    cases o with
    | none=>rw [e1,r] at e;exact nsE e
    | some q =>
     obtain ⟨d',u⟩:=q
     rw [e1,r] at e
     dsimp only at e
     split at e
     ·rename_i hf
      have g:=dB e1
      have l:some i0 ∉ ix:=fun m=>by
       obtain ⟨k,s,t⟩:=List.mem_iff_getElem.mp m
       have:=hij 0 (k+1) i0 rfl (by simp [s,t])
       omega
      obtain ⟨h1,h2,h3⟩:=iN e fun j k i a b=>by
       have:=hij (j+1) (k+1) i (by simpa using a) (by simpa using b)
       omega
      refine ⟨by rw [h1,List.length_set],fun i hi=>?_,fun j i h=>?_⟩
      ·rw [h2 i fun q=>hi (Ed _ q),bS g,if_neg (fun q=>hi (by rw [q];exact Ec))]
      ·cases j with
       | zero =>
        simp at h
        subst h
        refine ⟨(d,f),(d',u),e1,?_,?_,hf⟩
        ·rw [List.head?_eq_getElem?] at r;rw [r];rfl
        ·rw [h2 i0 l,bS g,if_pos rfl]
       | succ j =>
        have n:ix[j]?=some (some i):=by simpa using h
        obtain ⟨p,q,a,b,c⟩:=h3 j i n
        have ii:i ≠ i0:=fun z=>l (by rw [<- z];exact Ep n)
        rw [bS g,if_neg ii] at a
        exact ⟨p,q,a,by rw [List.getElem?_tail] at b;exact b,c⟩
     ·exact nsE e
theorem Wf.uncap {τ':St} {τρ ρ2:Sto} {gC:Nat->Option It3} {R:List It3} (w:Wf K G H σ ρ T g) (hH:∀ b o,H b=some o->G.H0 b=some o) (S:Inj ix) (e:L3.uncap ix τρ ρ=some ρ2) (hR:∀ x ∈ R,x.f=.z) (A:Wf K (yV G ix σ) H' τ' τρ (R ++ (rD ix ρ.length g ++ T)) gC) :
  ∃ g2,Wf K G H' σ ρ2 (R ++ T) g2:=by
 obtain ⟨J,h2,h3⟩:=iN e S
 let inv (i:Nat):Option Nat:=(List.range ix.length).find? fun j=>decide (ix[j]?=some (some i))
 have l:∀ i j,inv i=some j->ix[j]?=some (some i):=fun i j h=>by simpa using List.find?_some h
 have r:∀ i,inv i=none->some i ∉ ix:=fun i h m=>by
  obtain ⟨k,Z,ek⟩:=List.mem_iff_getElem.mp m
  have:=List.find?_eq_none.mp h k (List.mem_range.mpr Z)
  simp [Z,ek] at this
 let g2 (i:Nat):Option It3:=match inv i with | some j=>gC j | none=>g i
 have val:∀ i u,g2 i=some u->(∃ j p q,ix[j]?=some (some i)/\gC j=some u/\(ρ[i]?).join=some p/\(τρ[j]?).join=some q/\(q.2=p.2\/q.2=.z))\/(some i ∉ ix/\g i=some u):=fun i u h=>by
  have h':(match inv i with | some j=>gC j | none=>g i)=some u:=h
  cases D:inv i with
  | none=>rw [D] at h';exact .inr ⟨r i D,h'⟩
  | some j =>
   rw [D] at h'
   obtain ⟨p,q,a,b,_,c⟩:=h3 j i (l i j D)
   exact .inl ⟨j,p,q,l i j D,h',a,b,c⟩
 have out:∀ i u,some i ∉ ix->g i=some u->u ∈ rD ix ρ.length g:=fun i u C e=>by
  have s:=w.sl i
  rw [e] at s
  exact xF (dB s.symm) C e
 have back:∀ i j u,ix[j]?=some (some i)->gC j=some u->σ[i]?=some (some u.v):=fun i j u B t=>by
  have a:=A.sv j u t
  have b:=A.pro j (by show ((ix[j]?).join).isSome=true;rw [B];rfl)
  rw [a] at b
  have b:some (some u.v)=(L2.cap ix σ)[j]?:=b
  unfold L2.cap at b
  rw [Et,B] at b
  have b:some (some u.v)=some ((σ[i]?).getD none):=b
  cases q:σ[i]? with
  | none=>rw [q] at b;cases b
  | some o=>rw [q] at b;cases b;rfl
 have L:∀ i j u p q,ix[j]?=some (some i)->gC j=some u->(ρ[i]?).join=some p->(τρ[j]?).join=some q->(q.2=p.2\/q.2=.z)->∃ y,g i=some y/\y.v=u.v/\(u.f=y.f\/u.f=.z):=fun i j u p q B t M eq hf=>by
  obtain ⟨y,P,Q,N,y4⟩:=w.slot (d:=p.1) (f:=p.2) M
  have b:=back i j u B t
  rw [y4] at b
  have s:=A.sl j
  rw [t,eq] at s
  have s:some (u.d,u.f)=some q:=s
  refine ⟨y,P,by injection b with b;injection b,?_⟩
  rw [N,show u.f=q.2 by injection s with s;rw [<- s]]
  exact hf
 refine ⟨g2,⟨by rw [J];exact w.len,fun i=>?_,fun i u h=>?_,fun i u h=>?_,fun u hu=>?_,fun i k a b n ha F=>?_,fun i a h b F=>?_,A.tt.sublist ((List.Sublist.refl R).append (Er _ T)),A.base,w.pro,⟨fun u hu hf=>?_,fun i u h hp hf a Y=>?_,A.fx.bin,fun b o F=>?_,fun i u h J=>?_⟩⟩⟩
 ·show (match inv i with | some j=>gC j | none=>g i).map _=_
  cases D:inv i with
  | none=>rw [h2 i (r i D)];exact w.sl i
  | some j =>
   obtain ⟨p,q,a,b,c,_⟩:=h3 j i (l i j D)
   rw [c,<- b];exact A.sl j
 ·rcases val i u h with ⟨j,p,q,B,t,_⟩ | ⟨C,e⟩
  ·exact back i j u B t
  ·exact w.sv i u e
 ·rcases val i u h with ⟨j,p,q,B,t,_⟩ | ⟨C,e⟩
  ·have ok:=A.okS j u t
   exact ⟨ok.rep,ok.own,ok.src⟩
  ·have ok:=A.okT u (Eh _ (Eg _ (out i u C e)))
   exact ⟨ok.rep,ok.own,ok.src⟩
 ·have ok:=A.okT u (by
   rcases El.mp hu with q | q
   ·exact Eg _ q
   ·exact Eh _ (Eh _ q))
  exact ⟨ok.rep,ok.own,ok.src⟩
 ·rcases val i a ha with ⟨j,p,q,B,t,_⟩ | ⟨C,e⟩
  ·rcases val k b F with ⟨X,p',q',I,E,_⟩ | ⟨O,V⟩
   ·exact A.ss j X a b (fun z=>n (by subst z;rw [B] at I;injection I with z;injection z)) t E
   ·exact (A.st j a t b (Eh _ (Eg _ (out k b O V)))).1
  ·rcases val k b F with ⟨X,p',q',I,E,_⟩ | ⟨O,V⟩
   ·exact (A.st X b E a (Eh _ (Eg _ (out i a C e)))).2
   ·exact w.ss i k a b n e V
 ·have W:b ∈ R ++ (rD ix ρ.length g ++ T):=by
   rcases El.mp F with q | q
   ·exact Eg _ q
   ·exact Eh _ (Eh _ q)
  rcases val i a h with ⟨j,p,q,B,t,_⟩ | ⟨C,e⟩
  ·exact A.st j a t b W
  ·rcases El.mp F with q | q
   ·exact ((List.pairwise_append.mp A.tt).2.2 b q a (Eg _ (out i a C e))).symm
   ·exact w.st i a e b q
 ·rcases El.mp hu with q | q
  ·exact absurd (hR u q) hf
  ·exact w.fx.frT u q hf
 ·rcases val i u h with ⟨j,p,q,B,t,M,eq,U⟩ | ⟨C,e⟩
  ·obtain ⟨y,P,Q,N⟩:=L i j u p q B t M eq U
   refine w.fx.frS i y P hp (fun z=>hf ?_) a (by rw [Q];exact Y)
   rcases N with h | h
   ·rw [h];exact z
   ·exact h
  ·exact w.fx.frS i u e hp hf a Y
 ·obtain ⟨o',ho⟩:=w.fx.ob b o F
  have h0:=hH b o' ho
  by_cases q:G.bw b
  ·exact A.fx.bin b q
  ·exact ⟨o',A.base b o' h0 q⟩
 ·rcases val i u h with ⟨j,p,q,B,t,M,eq,U⟩ | ⟨C,e⟩
  ·obtain ⟨y,P,Q,N⟩:=L i j u p q B t M eq U
   rw [<- Q]
   refine w.fx.lvS i y P ?_
   rcases N with h | h
   ·rw [<- h];exact J
   ·rw [h] at J;cases J
  ·exact w.fx.lvS i u e J
theorem vB {J:It} {H1:Hp} {ys els:List It3} {ds:List D} {bnd:D->Sto->Option Sto} {c:M3 Bool} {elt:EM} {tg:TG} {tc:TT} {te:TE} {Gc:Gm} {a:List It3} {j:List D} {τρ τρ':Sto} {gC:Nat->Option It3} {Z:List V->Hp->Prop} {M:Addr->Prop}
  (hz:(16777216:Nat)=sizeLine) (G:∀ x ∈ els,x ∈ a/\x.f=.z)
  (ar:∀ H',(∀ b o,H1 b=some o->¬ Gc.bw b->H' b=some o)->(∀ (i:Nat) (d:D),ds[i]?=some d->J.go i H'/\∀ x g,J.yld i H' x g->∃ w,New K H' g (dq els) w/\w.d=d/\w.f=.z/\w.v=x)/\J.stop ds.length H')
  (h0:Gc.H0=H1) (hb:Bnd K Gc.pr tg bnd) (W:∀ σ H Q,tT K Gc (fun _ _=>False) c σ H Q->tc σ H Q) (X:∀ σ H Q,tE K Gc (fun _ _=>False) elt σ H Q->te σ H Q)
  (hlen:ds.length < 16777216) (w:Wf K Gc H1 τ τρ a gC) (e:bQ bnd c elt ds τρ=some (.ok j,τρ'))
  (hZ:∀ (us:List It3) (τ':St) (H':Hp) (g':Nat->Option It3),(∀ x ∈ us,x.f=.z)->us.map (·.d)=j->Wf K Gc H' τ' τρ' (us ++ a) g'->Z (us.map (·.v)) H'):qL J tg tc te Z τ H1:=by
 refine ⟨fun i m Y τ' H'=>i<=ds.length/\m=ds.length - i/\Y.length<=i/\∃ (us:List It3) (ρ2:Sto) (g2:Nat->Option It3) (r:List D),(∀ x ∈ us,x.f=.z)/\us.map (·.v)=Y/\Wf K Gc H' τ' ρ2 (us ++ a) g2/\bQ bnd c elt (ds.drop i) ρ2=some (.ok r,τρ')/\us.map (·.d) ++ r=j,⟨_,Nat.zero_le _,rfl,Eu _,[],τρ,gC,j,fun _ h=>(by cases h),rfl,w,e,rfl⟩,?_⟩
 rintro i m Y τ1 H2 ⟨hi,rfl,ax,us,ρ2,g2,r,s,q,L,O,n⟩
 refine ⟨by omega,?_⟩
 obtain ⟨S,A⟩:=ar H2 fun b o ab hn=>L.base b o (by rw [h0];exact ab) hn
 by_cases k:i < ds.length
 ·obtain ⟨d,hd⟩:∃ d,ds[i]?=some d:=⟨_,Ej k⟩
  have B:ds.drop i=d :: ds.drop (i+1):=by
   rw [List.drop_eq_getElem_cons k]
   rw [Ej k] at hd
   cases hd;rfl
  rw [B] at O
  obtain ⟨go,yld⟩:=S i d hd
  refine .inr ⟨go,fun t τ5 R=>t.length<=i+1/\∃ (us:List It3) (ρ5:Sto) (P:Nat->Option It3) (r:List D),(∀ x ∈ us,x.f=.z)/\us.map (·.v)=t/\Wf K Gc R τ5 ρ5 (us ++ a) P/\bQ bnd c elt (ds.drop (i+1)) ρ5=some (.ok r,τρ')/\us.map (·.d) ++ r=j,
   fun t τ5 R ⟨T,h5⟩=>⟨ds.length - (i+1),by omega,k,rfl,T,h5⟩,fun x g E=>?_⟩
  obtain ⟨u,nu,ud,uf,uv⟩:=yld x g E
  have w3:Wf K Gc g τ1 ρ2 (u :: (us ++ a)) g2:=L.push nu fun c hc=>L.alls (ys:=els) (fun y E=>⟨.inr (Eh _ (G y E).1),(G y E).2⟩) hc
  have I:(match bnd d ρ2 with
   | none=>none
   | some τ1=>ae c (fun b=>if b then ae elt (fun r=>ae (cW r) fun p=>ae (bQ bnd c elt (ds.drop (i+1))) fun l=>aW (p.1 :: l)) else bQ bnd c elt (ds.drop (i+1))) τ1)=some (.ok r,τρ'):=O
  cases e4:bnd d ρ2 with
  | none=>rw [e4] at I;exact nsE I
  | some ρ3 =>
   rw [e4] at I
   dsimp only at I
   rw [<- uv]
   refine hb Gc g τ1 ρ2 ρ3 _ g2 u _ rfl uf w3 (by rw [ud];exact e4) fun τ4 g4 w4=>?_
   refine W _ _ _ (tT.seq (Le.refl K Gc _) w4 I (fun x U=>by cases U) fun b ρ5 N R P w5=>?_)
   cases b with
   | false =>
    simp only [EK,if_false] at N ⊢
    exact ⟨by omega,us,ρ5,P,r,s,q,w5,N,n⟩
   | true =>
    simp only [if_true] at N ⊢
    refine X _ _ _ (tE.seq (Le.refl K Gc _) w5 N (fun x U=>by cases U) fun ra ρ6 e6 v H6 ⟨Ts,g6,w6,a6⟩=>?_)
    obtain ⟨p,ρ7,g7,C,F,w7,f1,f2,_,f3⟩:=a6.take w6 e6
    have w8:=Wf.lowT (Ts:=[C]) w7
    unfold ae at F
    cases e8:bQ bnd c elt (ds.drop (i+1)) ρ7 with
    | none=>rw [e8] at F;exact nsE F
    | some pr =>
     obtain ⟨o,ρ8⟩:=pr
     rw [e8] at F
     cases o with
     | error x=>cases F
     | ok l =>
      cases F
      refine ⟨by rw [EE];simp;omega,us ++ [dj C],ρ7,g7,l,fun y E=>?_,by rw [List.map_append,q,<- f3];rfl,?_,e8,?_⟩
      ·rcases El.mp E with h | h
       ·exact s y h
       ·rw [EJ.mp h];rfl
      ·exact w8.perm (by
        show ([dj C] ++ (us ++ a)).Perm (us ++ [dj C] ++ a)
        rw [<- List.append_assoc]
        exact (List.perm_append_comm).append_right a)
      ·rw [List.map_append,List.append_assoc]
       show us.map (·.d) ++ ((dj C).d :: l)=j
       rw [show (dj C).d=p.1 from f1]
       exact n
 ·have ei:i=ds.length:=by omega
  subst ei
  rw [List.drop_length] at O
  cases O
  rw [List.append_nil] at n
  subst q
  exact .inl ⟨A,hZ us τ1 H2 g2 s n L⟩
end
end L3
end
section
namespace L3
open PySem L2
section
variable {K:FG} {G G0:Gm} {W W0:D->Sto->Prop} {H H':Hp} {σ τ:St} {ρ ρ':Sto} {T T':List It3} {g:Nat->Option It3} {x y z:It3} {α β:Type} {ix:List (Option Nat)}
def bo (ix:List (Option Nat)):Gm:=⟨fun _=>none,fun _=>False,fun j=>((ix[j]?).join).isSome,[],fun _=>none,fun _=>False,fun _=>none⟩
abbrev noX:D->Sto->Prop:=fun _ _=>False
theorem tN {G1:Gm} (h:G1.pr=(bo ix).pr) (le:Le K G W G1 noX):Le K G W (bo ix) noX:=⟨le.pr.trans h,fun H σ ρ T g e w q=>by
 obtain ⟨_,_,_,_,f⟩:=le.ex H σ ρ T g e w q
 exact f.elim⟩
theorem zw {G1:Gm} {m:EM} {Q:VK} (h:G1.pr=(bo ix).pr) (q:tE K G1 noX m σ H Q):tE K (bo ix) noX m σ H Q:=by
 obtain ⟨G,W,le,r⟩:=q
 exact ⟨G,W,tN h le,r⟩
theorem zp {G1:Gm} {m:M3 Bool} {Q:Bool->Hp->Prop} (h:G1.pr=(bo ix).pr) (q:tT K G1 noX m σ H Q):tT K (bo ix) noX m σ H Q:=by
 obtain ⟨G,W,le,r⟩:=q
 exact ⟨G,W,tN h le,r⟩
def b7:M3 Bool:=aW true
theorem BN {Q:Bool->Hp->Prop} (h:tT K G0 W0 b7 σ H Q):tYes σ H Q:=by
 refine h.use fun G W le ρ T g o ρ' w e q=>?_
 cases e
 exact q _ _ w
theorem jT {bnd:D->Sto->Option Sto} {c:M3 Bool} {elt:EM}:∀ {ds a:List D} {τρ τρ':Sto},bQ bnd c elt ds τρ=some (.ok a,τρ')->a.length<=ds.length
 | [],a,τρ,τρ',e=>by cases e;exact Eu _
 | d :: ds,a,τρ,τρ',e=>by
  unfold bQ at e
  split at e
  ·exact nsE e
  ·rename_i τ1 _
   unfold ae at e
   split at e
   ·exact nsE e
   ·cases e
   ·rename_i b τ2 _
    cases b with
    | false =>
     simp only [EK,if_false] at e
     have:=jT e
     simp;omega
    | true =>
     simp only [if_true] at e
     split at e
     ·exact nsE e
     ·cases e
     ·split at e
      ·exact nsE e
      ·cases e
      ·split at e
       ·exact nsE e
       ·cases e
       ·rename_i l τ5 f
        cases e
        have:=jT f
        simp;omega
theorem qk {im:IM} {bnd:D->Sto->Option Sto} {c:M3 Bool} {elt:EM} {tg:TG} {o:Except D R3} {Z:List V->Hp->Prop} (hz:(16777216:Nat)=sizeLine) (A:Inj ix) (S:Bnd K (bo ix).pr tg bnd) (le:Le K G W G0 W0) (w:Wf K G H σ ρ T g) (e:bx im bnd c elt ix ρ=some (o,ρ')) (he:∀ x,o=.error x->W x ρ')
  (hZ:∀ (us:List It3) (H':Hp) (g':Nat->Option It3) (Ts:List It3) (ds:List D),o=.ok (.val (.lst ds) .u)->(∀ x ∈ us,x.f=.z)->us.map (·.d)=ds->us.length<=16777216->Wf K G H' σ ρ' (us ++ T) g'->Z (us.map (·.v)) H') :
  tI K G0 W0 im σ H fun J H1=>qL J tg (tT K (bo ix) noX c) (tE K (bo ix) noX elt) Z (cap ix σ) H1:=by
 refine tI.seq le w e he fun p ρ1 e1=>?_
 intro J H1 vs Ts g1 ys m a1 O hw
 have E:=us_u (is:=pls p.1) m
 have C:∀ i y,i ∈ pls p.1->g1 i=some y->y.f=.u->i ∈ us ρ1 (pls p.1):=fun i y hi U hf=>vR m hi U hf
 generalize us ρ1 (pls p.1)=is at e1 E C
 have w2:=m.enter is
 obtain ⟨els,k,walk⟩:=hw
 have hM:∀ b,(∃ j y,j ∉ is/\g1 j=some y/\y.f=.u/\y.v=.ref b)->MutAt H1 b:=fun b ⟨j,y,_,U,hf,l⟩=>by
  obtain ⟨_,a,L',v1,v2,_⟩:=(m.okS j y U).own (by rw [hf];intro q;cases q)
  rw [l] at v1;cases v1
  exact (m.okS j y U).rep.inH b (by rw [v2];exact Ec)
 have s:∀ y ∈ ys,∀ b ∈ y.L,¬ ∃ j y,j ∉ is/\g1 j=some y/\y.f=.u/\y.v=.ref b:=fun y F b S ⟨j,Y,nj,n,hf,l⟩=>by
  have I:Y.f ≠ .z:=by rw [hf];intro q;cases q
  rcases O y F with ⟨i,hi,B⟩ | F
  ·by_cases ij:i=j
   ·subst ij
    rw [B] at n;cases n
    exact nj (C i y hi B hf)
   ·exact m.ss j i Y y (Ne.symm ij) n B I b l S
  ·exact (m.st j Y n y (Eg _ F)).1 I b l S
 have P:∀ y ∈ ys,Itm (Ts ++ T) g1 y:=fun y F=>by
  rcases O y F with ⟨i,_,B⟩ | h
  ·exact .inl ⟨i,B⟩
  ·exact .inr (Eg _ h)
 have kid:∀ x ∈ els,∀ c ∈ x.L,dD ((Ts ++ T).map bt) (fun j=>if j ∈ is then (g1 j).map bt else g1 j) c/\(H1 c=none\/(G.H0 c=none\/G.src c)):=fun x r c hc=>by
  obtain ⟨nr,sr⟩:=m.kids P ((k x r).2.2 c hc)
  refine ⟨⟨fun i z ez hf l=>?_,fun z hz hf l=>?_⟩,.inr sr⟩
  ·have ez:(if i ∈ is then (g1 i).map bt else g1 i)=some z:=ez
   by_cases q:i ∈ is
   ·rw [if_pos q] at ez
    obtain ⟨z0,e0,e1⟩:=Ef.mp ez
    subst e1
    exact nr.1 i z0 e0 (fun q=>hf (lentF_z.mpr q)) l
   ·rw [if_neg q] at ez
    exact nr.1 i z ez hf l
  ·obtain ⟨z0,h0,rfl⟩:=Es.mp hz
   exact nr.2 z0 h0 (fun q=>hf (lentF_z.mpr q)) l
 have w3:Wf K (dS G H1 g1 is) H1 σ (aH ci is ρ1) (els ++ (Ts ++ T).map bt) (fun j=>if j ∈ is then (g1 j).map bt else g1 j):=w2.pushAll fun x r=>⟨(k x r).1,(k x r).2.1,fun c hc=>kid x r c hc⟩
 have w4:=w3.cap A
 cases X:bQ bnd c elt p.2 (sj ix (aH ci is ρ1)) with
 | none=>rw [X] at e1;exact nsE e1
 | some rr =>
  obtain ⟨o2,τρ⟩:=rr
  rw [X] at e1
  cases o2 with
  | error x=>exact nsE e1
  | ok ds =>
   dsimp only at e1
   split at e1
   ·rename_i hlen
    cases e3:uncap ix τρ (aH ci is ρ1) with
    | none=>rw [e3] at e1;exact nsE e1
    | some ρ3 =>
     rw [e3] at e1
     have eo:o=.ok (.val (.lst ds) .u)/\ρ'=aH fu is ρ3:=by cases e1;exact ⟨rfl,rfl⟩
     obtain ⟨eo,eρ⟩:=eo
     refine vB (K:=K) (Gc:=yV (dS G H1 g1 is) ix σ) (els:=els) (M:=fun _=>False) (ys:=ys) hz (fun x r=>⟨Eh _ (Eg _ r),(k x r).1⟩) (fun H' hk=>walk _ H' hM hk s) rfl S (fun σ' H Q q=>zp (G1:=yV (dS G H1 g1 is) ix σ) rfl q) (fun σ' H Q q=>zw (G1:=yV (dS G H1 g1 is) ix σ) rfl q) hlen w4 X fun us τ' H' g' t N w5=>?_
     obtain ⟨g6,w6⟩:=Wf.uncap w3 (fun b o h=>h) A e3 t w5
     have w7:=Wf.leave (T:=Ts ++ T) (T':=T) (R:=us) m E (Er Ts T) (w6.sub ((List.Sublist.refl us).append (by
      rw [List.map_append]
      exact (Er (Ts.map bt) (T.map bt)).trans (Er els _))))
     have hle:us.length<=16777216:=by
      have h1:us.length=ds.length:=by rw [<- N,En]
      have h2:=jT X
      omega
     rw [<- eρ] at w7
     exact hZ us H' _ Ts ds eo t N hle w7
   ·exact nsE e1
theorem m6 {us:List It3} {p:Addr} (w:Wf K G H σ ρ (us ++ T) g) (j:∀ x ∈ us,x.f=.z) (b:H p=none) :
  Wf K G (upd H p (.lst (us.map (·.v)))) σ ρ (⟨.lst (us.map (·.d)),.ref p,p :: (us.map (·.L)).flatten,.u⟩ :: T) g:=by
 have hi:∀ y ∈ us,Itm (us ++ T) g y/\y.f=.z:=fun y i=>⟨.inr (Eg _ i),j y i⟩
 have np:p ∉ (us.map (·.L)).flatten:=fun a=>by
  obtain ⟨y,hm,a⟩:=fc a
  obtain ⟨o,k⟩:=((w.itm (hi y hm).1).rep.inH p a).ex
  rw [b] at k;exact nsE k
 have n:New K H (upd H p (.lst (us.map (·.v)))) (dq us) ⟨.lst (us.map (·.d)),.ref p,p :: (us.map (·.L)).flatten,.u⟩:=⟨bJ b,.lst aJ ((kJ fun y i=>(w.itm (hi y i).1).rep).same (bJ b)),fun c a=>by
  rcases Ei.mp a with e | a
  ·rw [e];exact .inl b
  ·exact .inr (fc a),fun _=>⟨rfl,p,_,rfl,rfl,np,b⟩⟩
 exact (w.push n fun c h=>w.alls hi h).sub (List.Sublist.cons_cons _ (Er us T))
theorem zA {im:IM} {bnd:D->Sto->Option Sto} {c:M3 Bool} {elt:EM} {tg:TG} {Q:VK} (hz:(16777216:Nat)=sizeLine) (f:Inj ix) (l:Bnd K (bo ix).pr tg bnd) (h:tE K G0 W0 (bx im bnd c elt ix) σ H Q) :
  Bk (tI K G0 W0 im) tg (tT K (bo ix) noX c) (tE K (bo ix) noX elt) ix σ H Q:=by
 refine h.use fun G W le ρ T g o ρ' w e q=>?_
 refine qk hz f l le w e q.err fun us H' g' Ts ds i a b n m=>?_
 subst i b
 intro p k
 have j:=m6 m a k
 exact q (.ref p) _ ⟨[_],g',j,Ar.val (⟨.lst (us.map (·.d)),.ref p,p :: (us.map (·.L)).flatten,.u⟩:It3)⟩
theorem qS {i:Nat} {im:IM} {bnd:D->Sto->Option Sto} {c:M3 Bool} {elt:EM} {tg:TG} {E:Ends} (hz:(16777216:Nat)=sizeLine) (j:Inj ix) (n:Bnd K (bo ix).pr tg bnd) (v:G0.pr i=false) (h:tS K G0 W0 (aP i (bx im bnd c elt ix)) E σ H) :
  Bp i (tI K G0 W0 im) tg (tT K (bo ix) noX c) (tE K (bo ix) noX elt) ix E σ H:=by
 refine h.use fun G W le ρ T g r ρ' w e q=>?_
 unfold aP ae at e
 cases e1:bx im bnd c elt ix ρ with
 | none=>rw [e1] at e;exact nsE e
 | some pr =>
  obtain ⟨o,ρ1⟩:=pr
  rw [e1] at e
  have a:∀ x,o=.error x->W x ρ1:=fun x m=>by subst m;cases e;exact q
  refine qk hz j n le w e1 a fun us H' g' Ts ds t b k z s=>?_
  subst t k
  intro p l
  have y:=m6 s b l
  have e:(if i < ρ1.length then some ((.ok .nx,ρ1.set i (some (D.lst (us.map (·.d)),Fl.u))):Except D Flw × Sto) else none)=some (r,ρ'):=e
  split at e
  ·rename_i hi
   cases e
   exact q _ _ _ (y.store (f:=.u) hi (by rw [le.pr];exact v) (.inl rfl) (by intro h;cases h))
  ·exact nsE e
end
end L3
end
section
namespace L3
open PySem L2
section
variable {K:FG} {G G0:Gm} {W W0:D->Sto->Prop} {H H':Hp} {σ:St} {ρ ρ':Sto} {T T':List It3} {g:Nat->Option It3} {x y z:It3} {α β:Type}
theorem Wf.mutate {i:Nat} {a:Addr} {o':HO} {d':D} {A:List Addr} (w:Wf K G H σ ρ T g) (C:g i=some y) (hu:y.f=.u) (ev:y.v=.ref a) (hm:jm d'=true) (rep:Rep K (upd H a o') d' (.ref a) (a :: A)) (na:a ∉ A)
  (R:∀ c ∈ A,dD T g c/\(G.H0 c=none\/G.src c)):Wf K G (upd H a o') σ (ρ.set i (some (d',.u))) T (fun j=>if j=i then some ⟨d',.ref a,a :: A,.u⟩ else g j):=by
 have r:y.f ≠ .z:=by rw [hu];intro q;cases q
 have W:=w.okS i y C
 obtain ⟨_,a',L',v1,v2,v3,v4⟩:=W.own r
 rw [ev] at v1;cases v1
 have hi:i < ρ.length:=by
  have:=w.sl i
  rw [C] at this
  exact dB this.symm
 have ma:MutAt H a:=W.rep.inH a (by rw [v2];exact Ec)
 have val:∀ j u,(if j=i then some (⟨d',.ref a,a :: A,.u⟩:It3) else g j)=some u->(j=i/\u=⟨d',.ref a,a :: A,.u⟩)\/(j ≠ i/\g j=some u):=fun j u h=>by
  by_cases q:j=i
  ·rw [if_pos q] at h;cases h;exact .inl ⟨q,rfl⟩
  ·rw [if_neg q] at h;exact .inr ⟨q,h⟩
 have keep:∀ u,ItOk K G H u->a ∉ u.L->ItOk K G (upd H a o') u:=fun u ou hn=>ou.keep (M:=fun b=>b=a) (fun b o m n=>by rw [aw n];exact m) (fun b e=>by rw [e];exact ma) fun b m e=>hn (by rw [<- e];exact m)
 have S:∀ j u,j ≠ i->g j=some u->a ∉ u.L:=fun j u n e=>w.ss i j y u (Ne.symm n) C e r a ev
 have Q:∀ u ∈ T,a ∉ u.L:=fun u s=>(w.st i y C u s).1 r a ev
 have I:∀ b o,H b=some o->∃ V,upd H a o' b=some V:=fun b o m=>by
  by_cases q:b=a
  ·rw [q,aJ];exact ⟨_,rfl⟩
  ·rw [aw q];exact ⟨o,m⟩
 refine ⟨by rw [List.length_set];exact w.len,fun j=>?_,fun j u h=>?_,fun j u h=>?_,fun u s=>keep u (w.okT u s) (Q u s),fun j k p q n O hq=>?_,fun j u h t N=>?_,w.tt,fun b o e n=>?_,w.pro,⟨w.fx.frT,fun j u h O hf b U=>?_,fun b m=>?_,fun b o m=>?_,fun j u h P=>?_⟩⟩
 ·rw [bS hi]
  by_cases q:j=i
  ·rw [if_pos q,if_pos q];rfl
  ·rw [if_neg q,if_neg q];exact w.sl j
 ·rcases val j u h with ⟨rfl,rfl⟩ | ⟨n,h⟩
  ·rw [w.sv j y C,ev]
  ·exact w.sv j u h
 ·rcases val j u h with ⟨rfl,rfl⟩ | ⟨n,h⟩
  ·refine ⟨rep,fun _=>⟨hm,a,A,rfl,rfl,na,fun _=>v4 hu⟩,fun c d=>?_⟩
   rcases Ei.mp d with e | d
   ·rw [e];exact W.src a (by rw [v2];exact Ec)
   ·exact (R c d).2
  ·exact keep u (w.okS j u h) (S j u n h)
 ·rcases val j p O with ⟨J,ep⟩ | ⟨n1,x⟩
  ·rcases val k q hq with ⟨Z,eq⟩ | ⟨n2,B⟩
   ·exact absurd (J.trans Z.symm) n
   ·rw [ep]
    intro _ c l
    cases l
    exact S k q n2 B
  ·rcases val k q hq with ⟨Z,eq⟩ | ⟨n2,B⟩
   ·rw [eq]
    intro hf c l d
    rcases Ei.mp d with e | d
    ·obtain ⟨_,b,L2,F,Y,_⟩:=(w.okS j p x).own hf
     rw [l] at F;cases F
     exact S j p n1 x (by rw [<- e,Y];exact Ec)
    ·exact (R c d).1.1 j p x hf l
   ·exact w.ss j k p q n x B
 ·rcases val j u h with ⟨J,E⟩ | ⟨n,h'⟩
  ·rw [E]
   refine ⟨fun _ c l=>by cases l;exact Q t N,fun hf c l d=>?_⟩
   rcases Ei.mp d with e | d
   ·obtain ⟨_,b,L2,F,Y,_⟩:=(w.okT t N).own hf
    rw [l] at F;cases F
    exact Q t N (by rw [<- e,Y];exact Ec)
   ·exact (R c d).1.2 t N hf l
  ·exact w.st j u h' t N
 ·have:b ≠ a:=fun z=>by
   subst z
   rcases v4 hu with h | h
   ·rw [e] at h;cases h
   ·exact n h
  rw [aw this];exact w.base b o e n
 ·rcases val j u h with ⟨J,E⟩ | ⟨n,h'⟩
  ·subst J
   rw [E] at U
   cases U
   exact w.fx.frS j y C O r a ev
  ·exact w.fx.frS j u h' O hf b U
 ·obtain ⟨o,X⟩:=w.fx.bin b m
  exact I b o X
 ·obtain ⟨o2,X⟩:=w.fx.ob b o m
  exact I b o2 X
 ·rcases val j u h with ⟨J,E⟩ | ⟨n,h'⟩
  ·rw [E] at P;cases P
  ·exact w.fx.lvS j u h' P
def MutD (K:FG) (r:V->List V->Hp->VK->Prop) (f:D->List D->Option (D × D)):Prop:=∀ (a:Addr) (d:D) (b:List Addr) (as:List It3) (H:Hp) (Q:VK) (p:D × D),Rep K H d (.ref a) (a :: b)->jm d=true->a ∉ b->(∀ x ∈ as,Rep K H x.d x.v x.L)->(∀ x ∈ as,a ∉ x.L)->f d (as.map (·.d))=some p ->
 (∀ (o':HO) (e:List Addr) (w:It3),Rep K (upd H a o') p.1 (.ref a) (a :: e)->jm p.1=true->(∀ c ∈ e,c ∈ b\/dq as c)->w.f=.z->w.d=p.2->Rep K (upd H a o') w.d w.v w.L->(∀ c ∈ w.L,c ∈ b\/dq as c)->Q w.v (upd H a o'))->r (.ref a) (as.map (·.v)) H Q
def chk (ok:D->Bool) (i:Nat):M3 Unit:=fun ρ=>match (ρ[i]?).join with
 | some (d,_)=>if ok d then some (.ok (),ρ) else none
 | none=>none
theorem oQ {i:Nat} {k:R3->M3 β} {r:Except D β} (e:ae (ac i) k ρ=some (r,ρ')):∃ p,(ρ[i]?).join=some p/\k (.pl i) ρ=some (r,ρ'):=by
 unfold ae ac at e
 cases q:(ρ[i]?).join with
 | none=>rw [q] at e;exact nsE e
 | some p=>rw [q] at e;exact ⟨p,rfl,e⟩
theorem yS {ok:D->Bool} {i:Nat} {k:Unit->M3 β} {r:Except D β} (e:ae (chk ok i) k ρ=some (r,ρ')):(∀ p,(ρ[i]?).join=some p->ok p.1=true)/\k () ρ=some (r,ρ'):=by
 unfold ae chk at e
 cases q:(ρ[i]?).join with
 | none=>rw [q] at e;exact nsE e
 | some p =>
  rw [q] at e
  dsimp only at e
  cases h:ok p.1 with
  | false=>rw [h] at e;exact nsE e
  | true=>rw [h] at e;exact ⟨fun b a=>by cases a;exact h,e⟩
def rS (ok:D->Bool) (f:D->List D->Option (D × D)) (i:Nat) (ms:M3 (List R3)):EM:=ae (ac i) fun _=>ae (chk ok i) fun _=>ae ms fun rs=>ae (gives rs) fun ds=>fun ρ=>match (ρ[i]?).join with
 | some (d,.u)=>match f d ds with
  | some p=>some (.ok (.val p.2 .z),ρ.set i (some (p.1,.u)))
  | none=>none
 | _=>none
theorem Wf.changed {i:Nat} {d:D} {as us:List It3} {r:V->List V->Hp->VK->Prop} {f:D->List D->Option (D × D)} {p:D × D} {v:V} {Q:VK} (X:MutD K r f) (w:Wf K G H σ ρ (us ++ T) g) (e:(ρ[i]?).join=some (d,.u)) (P:σ[i]?=some (some v)) (C:∀ y ∈ as,Itm (us ++ T) g y/\y.f=.z)
  (W:f d (as.map (·.d))=some p) (q:∀ v H',Got K G σ (ρ.set i (some (p.1,.u))) T (.val p.2 .z) v H'->Q v H'):r v (as.map (·.v)) H Q:=by
 obtain ⟨y,B,N,J,o⟩:=w.slot e
 rw [P] at o
 injection o with o
 injection o with o
 have l:y.f ≠ .z:=by rw [J];intro q;cases q
 have F:=w.okS i y B
 obtain ⟨m,a,E,v1,v2,v3,_⟩:=F.own l
 have ra:=F.rep
 rw [v1,v2,N] at ra
 rw [N] at m
 rw [o,v1]
 have na:∀ x ∈ as,a ∉ x.L:=fun x n b=>by
  have:=(w.kid (C x n).1 b fun hf=>absurd (C x n).2 hf).1 i y B l
  exact this v1
 refine X a d E as H Q p ra m v3 (fun x n=>(w.itm (C x n).1).rep) na W fun o' O u R Y s1 I ud Z A=>?_
 have k:∀ c,(c ∈ E\/dq as c)->dD (us ++ T) g c/\(G.H0 c=none\/G.src c):=fun c b=>by
  rcases b with b | b
  ·have t:c ∈ y.L:=by rw [v2];exact Ed _ b
   exact ⟨w.kid (.inl ⟨i,B⟩) t fun _ ez=>by rw [v1] at ez;cases ez;exact v3 b,F.src c t⟩
  ·exact w.alls C b
 have M:∀ c,(c ∈ E\/dq as c)->c ≠ a:=fun c b z=>(k c b).1.1 i y B l (by rw [z];exact v1)
 have S:=w.mutate (o':=o') B J v1 Y R (fun h=>M a (s1 a h) rfl) fun c b=>k c (s1 c b)
 have U:=S.pushAll (ws:=[u]) fun x n=>by
  rw [EJ.mp n]
  refine ⟨I,Z,fun c b=>?_⟩
  have s:=k c (A c b)
  refine ⟨⟨fun j z ez hf hz=>?_,s.1.2⟩,s.2⟩
  have ez:(if j=i then some (⟨p.1,.ref a,a :: O,.u⟩:It3) else g j)=some z:=ez
  by_cases q:j=i
  ·rw [if_pos q] at ez
   cases ez
   cases hz
   exact M a (A a b) rfl
  ·rw [if_neg q] at ez
   exact s.1.1 j z ez hf hz
 rw [<- ud,<- I] at q
 exact q u.v _ ⟨[u],_,U.sub ((List.Sublist.refl [u]).append (Er us T)),.val u⟩
theorem B4 {i:Nat} {Ty:String} {ok:D->Bool} {ms:M3 (List R3)} {r:V->List V->Hp->VK->Prop} {f:D->List D->Option (D × D)} {Q:VK} (A:MutD K r f) (hok:∀ d v L H,ok d=true->Rep K H d v L->tyV K Ty v H) (h:tE K G0 W0 (rS ok f i ms) σ H Q):tBM K Ty r (uy i) (tA K G0 W0 ms) σ H Q:=by
 refine h.use fun G W le ρ T g o ρ' w e q=>?_
 obtain ⟨t,j,e⟩:=oQ e
 obtain ⟨m,e⟩:=yS e
 obtain ⟨n,f0⟩:=t
 obtain ⟨y,E,B,J,k⟩:=w.slot j
 refine ⟨y.v,k,hok n y.v y.L H (m _ j) (by rw [<- B];exact (w.okS i y E).rep),?_⟩
 refine tA.seq le w e q.err fun rs ρ1 e1 M H1 Ts g1 s a1=>?_
 obtain ⟨ds,ρ2,g2,a,_,I,_,ys,C,f1,f2⟩:=a1.gives s e1
 subst f1 f2
 cases c:(ρ2[i]?).join with
 | none=>rw [c] at a;exact nsE a
 | some p3 =>
  obtain ⟨F,x⟩:=p3
  rw [c] at a
  cases x with
  | u =>
   dsimp only at a
   cases b:f F (ys.map (·.d)) with
   | none=>rw [b] at a;exact nsE a
   | some p =>
    rw [b] at a
    cases a
    exact I.changed A c k C b q
  | l=>exact nsE a
  | z=>exact nsE a
def lc (t:V->V->V->Hp->(Hp->Prop)->Prop):V->List V->Hp->VK->Prop:=fun x a H Q=>∃ k v,a=[k,v]/\t x k v H fun H'=>Q .non H'
def lQ (f:D->List D->Option (D × D)) (i:Nat) (mk a:EM):SM:=ae a fun c=>ae (ac i) fun _=>ae mk fun b=>ae (gives [b,c]) fun ds=>fun ρ=>match (ρ[i]?).join with
 | some (d,.u)=>match f d ds with
  | some p=>some (.ok .nx,ρ.set i (some (p.1,.u)))
  | none=>none
 | _=>none
theorem BP {i:Nat} {mk m:EM} {t:vO} {f:D->List D->Option (D × D)} {E:Ends} (M:MutD K (lc t) f) (h:tS K G0 W0 (lQ f i mk m) E σ H):wc (tE K G0 W0 m) (gSub (uy i) (tE K G0 W0 mk) t) E σ H:=by
 refine h.use fun G W le ρ T g r ρ' w e q=>?_
 refine tE.seq le w e q.err fun F ρ1 e1 v H1 ⟨Ts,g1,n,a1⟩=>?_
 obtain ⟨I,B,e1⟩:=oQ e1
 obtain ⟨Z,f0⟩:=I
 obtain ⟨y,y1,y2,Y,k⟩:=n.slot B
 refine ⟨y.v,k,?_⟩
 ·refine tE.seq le n e1 q.err fun L ρ2 V P H2 ⟨Us,g2,U,a2⟩=>?_
  have O:Ars σ [L,F] [P,v] (([] ++ Ts) ++ Us):=.cons a2 (.cons a1 .nil)
  have o:Wf K G H2 σ ρ2 ((([] ++ Ts) ++ Us) ++ T) g2:=U.perm (by
   rw [List.nil_append,<- List.append_assoc]
   exact (List.perm_append_comm).append_right T)
  obtain ⟨ds,ρ3,g3,a,_,A,_,ys,N,f1,f2⟩:=O.gives o V
  subst f1
  cases c:(ρ3[i]?).join with
  | none=>rw [c] at a;exact nsE a
  | some p3 =>
   obtain ⟨R,J⟩:=p3
   rw [c] at a
   cases J with
   | u =>
    dsimp only at a
    cases j:f R (ys.map (·.d)) with
    | none=>rw [j] at a;exact nsE a
    | some p =>
     rw [j] at a
     cases a
     have:=A.changed (Q:=fun _ H'=>E.nx σ H') M c k N j fun s H' ⟨C,X,x,a5⟩=>q _ _ _ (x.sub (Er C T))
     rw [f2] at this
     obtain ⟨k',s,b,S⟩:=this
     cases b
     exact S
   | l=>exact nsE a
   | z=>exact nsE a
end
end L3
end
section
namespace L3
open PySem L2
structure RE (X:Cx) (G0:Gm) (W0:D->Sto->Prop) (e:Expr) (m:EM):Prop where
 h:PE X e (tE X.K G0 W0 m)
structure RT (X:Cx) (G0:Gm) (W0:D->Sto->Prop) (e:Expr) (m:M3 Bool):Prop where
 h:PT X e (tT X.K G0 W0 m)
structure RW (X:Cx) (G0:Gm) (W0:D->Sto->Prop) (e:Expr) (m:M3 Bool):Prop where
 h:PW X e (tT X.K G0 W0 m)
structure RA (X:Cx) (G0:Gm) (W0:D->Sto->Prop) (es:List Expr) (m:M3 (List R3)):Prop where
 h:PA X es (tA X.K G0 W0 m)
structure RS (X:Cx) (G0:Gm) (W0:D->Sto->Prop) (s:Stmt) (m:SM):Prop where
 h:PS X s (tS X.K G0 W0 m)
structure RSs (X:Cx) (G0:Gm) (W0:D->Sto->Prop) (s:List Stmt) (m:SM):Prop where
 h:PSs X s (tS X.K G0 W0 m)
structure RI (X:Cx) (G0:Gm) (W0:D->Sto->Prop) (tg iter:Expr) (m:IM):Prop where
 h:PI X tg iter (tI X.K G0 W0 m)
structure RG (X:Cx) (pr:Nat->Bool) (target:Expr) (bnd:D->Sto->Option Sto):Prop where
 h:∃ tg,PG X target tg/\Bnd X.K pr tg bnd
structure RGs (X:Cx) (pr:Nat->Bool) (targets:List Expr) (bnd:List D->Sto->Option Sto):Prop where
 h:∃ tg,PGs X targets tg/\zm X.K pr tg bnd
theorem PE.imp {X:Cx} {e:Expr} {t t':TE} (h:PE X e t) (f:∀ σ H Q,t' σ H Q->t σ H Q):PE X e t':=fun pins s σ H Q I q=>h pins s σ H Q I (f σ H Q q)
theorem PT.imp {X:Cx} {e:Expr} {t t':TT} (h:PT X e t) (f:∀ σ H Q,t' σ H Q->t σ H Q):PT X e t':=fun pins s σ H Q I q=>h pins s σ H Q I (f σ H Q q)
theorem PW.imp {X:Cx} {e:Expr} {t t':TT} (h:PW X e t) (f:∀ σ H Q,t' σ H Q->t σ H Q):PW X e t':=fun wh pins s σ H Q I q=>h wh pins s σ H Q I (f σ H Q q)
theorem PA.imp {X:Cx} {e:List Expr} {t t':TA} (h:PA X e t) (f:∀ σ H Q,t' σ H Q->t σ H Q):PA X e t':=fun pos pins s σ H Q I q=>h pos pins s σ H Q I (f σ H Q q)
theorem PS.imp {X:Cx} {e:Stmt} {t t':TS} (h:PS X e t) (f:∀ D σ H,t' D σ H->t D σ H):PS X e t':=fun pins s σ H D I q=>h pins s σ H D I (f D σ H q)
theorem PSs.imp {X:Cx} {e:List Stmt} {t t':TS} (h:PSs X e t) (f:∀ D σ H,t' D σ H->t D σ H):PSs X e t':=fun pins s σ H D I q=>h pins s σ H D I (f D σ H q)
theorem PI.imp {X:Cx} {tg e:Expr} {t t':TI} (h:PI X tg e t) (f:∀ σ H R,t' σ H R->t σ H R):PI X tg e t':=fun pins s σ H R I q=>h pins s σ H R I (f σ H R q)
theorem szl:(16777216:Nat)=sizeLine:=by rw [sizeLine_eq]
section
variable {X:Cx} {G0:Gm} {W0:D->Sto->Prop} {a b c e:Expr} {es:List Expr} {pos:Pos} {ma mb mc m:EM} {ms:M3 (List R3)} {t u:M3 Bool} {d5:List Expr}
theorem nD (i:Nat) {x:Str} (b:X.N[i]?=some x) (c:Vis X.env.scope x) (hd:(x == ("__debug__":Str))=false) (a:(x == ("__classdict__":Str))=false):RE X G0 W0 (.Name x pos) (ac i):=⟨PE.imp (nJ b c hd a) fun _ _ _ h=>BZ h⟩
theorem CC {i j}:RE X G0 W0 (.Constant (.int i) j pos) (mC (.int i)):=⟨PE.imp nK fun _ _ _ h=>gj (fun _=>.int i) h⟩
theorem re_bl {i j}:RE X G0 W0 (.Constant (.bool i) j pos) (mC (.bl i)):=⟨PE.imp pe_bl fun _ _ _ h=>gj (fun _=>.bl i) h⟩
theorem CA {j}:RE X G0 W0 (.Constant .none j pos) (mC .non):=⟨PE.imp CW fun _ _ _ h=>gj (fun _=>.non) h⟩
theorem Cw {i j}:RE X G0 W0 (.Constant (.str i) j pos) (mC (.str i)):=⟨PE.imp xy fun _ _ _ h=>gj (fun _=>.str i) h⟩
theorem pg {x:Str} {i:Int} {tk:Tok} (a:Gl X x) (hm:X.mg x=some (.int i tk)) (hd:(x == ("__debug__":Str))=false):RE X G0 W0 (.Name x pos) (mC (.int i)):=⟨PE.imp (Ak (v:=V.int i) a hm ⟨_,rfl⟩ hd) fun _ _ _ h=>gj (fun _=>.int i) h⟩
theorem jF {op:Operator} {r:R2} {f:D->D->Option (D × Fl)} (d:OpR X (binaryOp op) r) (hd:OpD X.K r f) (e:RE X G0 W0 a ma) (c:RE X G0 W0 b mb):RE X G0 W0 (.BinOp a op b pos) (ah f ma mb):=⟨PE.imp (pe_op d e.h c.h) fun _ _ _ h=>nq hd h⟩
theorem re_un {op:UnaryOp} {r:V->Hp->VK->Prop} {f:D->Option (D × Fl)} (c:UnR X (unaryOp op) r) (hd:UnD X.K r f) (b:RE X G0 W0 a ma):RE X G0 W0 (.UnaryOp op a pos) (mUn f ma):=⟨PE.imp (pe_un c b.h) fun _ _ _ h=>Bh hd h⟩
theorem nF {op:CmpOp} {r:R2} {f:D->D->Option (D × Fl)} (d:OpR X (compareOp op) r) (hd:OpD X.K r f) (e:RE X G0 W0 a ma) (c:RE X G0 W0 b mb) (hm:behindInMarks op b=false):RE X G0 W0 (.Compare a [op] [b] pos) (ah f ma mb):=⟨PE.imp (Am d e.h c.h hm) fun _ _ _ h=>nq hd h⟩
theorem re_ix {r:R2} {f:D->D->Option (D × Fl)} (d:IxR X r) (hd:OpD X.K r f) (e:RE X G0 W0 a ma) (c:RE X G0 W0 b mb) (g:um b):RE X G0 W0 (.Subscript a b pos) (ah f ma mb):=⟨PE.imp (pe_ix d e.h c.h g) fun _ _ _ h=>nq hd h⟩
theorem CG (c:RE X G0 W0 a ma) (d:RE X G0 W0 (.BoolOp .And (b :: d5) pos) mb):RE X G0 W0 (.BoolOp .And (a :: b :: d5) pos) (fQ ma mb):=⟨PE.imp (C4 c.h d.h) fun _ _ _ h=>B6 h⟩
theorem Cy {op} (h:RE X G0 W0 a ma):RE X G0 W0 (.BoolOp op [a] pos) ma:=⟨CU h.h⟩
theorem Cz (b:RE X G0 W0 a ma):RE X G0 W0 (.UnaryOp .Not a pos) (p5 ma):=⟨PE.imp (CV b.h) fun _ _ _ h=>B3 h⟩
theorem re_if (e:RT X G0 W0 c t) (d:RE X G0 W0 a ma) (f:RE X G0 W0 b mb):RE X G0 W0 (.IfExp c a b pos) (mIf t ma mb):=⟨PE.imp (xA e.h d.h f.h) fun _ _ _ h=>tE_if h⟩
def di (f a:D->D->Option (D × Fl)) (ma mb mc:EM):EM:=ae ma fun ra=>ae mb fun rb=>ae (der ra) fun da=>ae (der rb) fun db=>ae (aZ ((f da db).bind fun p=>asB p.1)) fun k=>if k then ae mc fun rc=>ae (der rb) fun db=>ae (der rc) fun b=>aZ ((a db b).map fun p=>R3.val p.1 p.2) else aW (.val (.bl false) .z)
theorem Cm (b:RE X G0 W0 a ma) (he:∀ whole,isTrue a X.env whole=(do let v <- whole;standAt a.pos;holding [v] (truthy v))):RT X G0 W0 a (cB ma):=⟨PT.imp (CM b.h he) fun _ _ _ h=>tT_b h⟩
theorem rt_w (h:RW X G0 W0 a t):RT X G0 W0 a t:=⟨h.h.pt⟩
theorem Ch (b:RT X G0 W0 a t):RW X G0 W0 (.BoolOp .Or [a] pos) t:=⟨CK b.h⟩
theorem rw_or (c:RT X G0 W0 a t) (d:RW X G0 W0 (.BoolOp .Or (b :: d5) pos) u):RW X G0 W0 (.BoolOp .Or (a :: b :: d5) pos) (cOr t u):=⟨PW.imp (pw_or c.h d.h) fun _ _ _ h=>tT_or h⟩
theorem Cn (b:RT X G0 W0 a t):RT X G0 W0 (.UnaryOp .Not a pos) (eU t):=⟨PT.imp (CN b.h) fun _ _ _ h=>BO h⟩
theorem xa:RA X G0 W0 [] af:=⟨PA.imp nO fun _ _ _ h=>B8 h⟩
theorem tj (a:RE X G0 W0 e m) (c:RA X G0 W0 es ms) (b:starEach (e :: es) X.env=(false,eval e X.env) :: starEach es X.env):RA X G0 W0 (e :: es) (aa m ms):=⟨PA.imp (jf a.h c.h b) fun _ _ _ h=>zB h⟩
theorem Cv {x1} (h:RA X G0 W0 es ms):RE X G0 W0 (.Tuple es x1 pos) (bp ms):=⟨PE.imp (xx h.h) fun _ _ _ h=>B0 szl h⟩
theorem CB (h:RA X G0 W0 es ms):RE X G0 W0 (.List es pos) (cA ms):=⟨PE.imp (CY h.h) fun _ _ _ h=>B5 szl h⟩
theorem cZ {x:Str} {p:Pos} {id:String} {r:List V->Hp->VK->Prop} {f:List D->Option (D × Fl)} (j:cp X (.builtin id) r) (hd:eM X.K r f) (g:Gl X x) (hm:X.mg x=none) (i:bootBuiltins x=some (.builtin id)) (d:RA X G0 W0 (e :: es) ms) (c:x ≠ "__name__") (a:(x == ("__debug__":Str))=false)
  (he:starEach (e :: es) X.env=(false,eval e X.env) :: starEach es X.env) (b:(backTo pos (starEach es X.env)).any (·.1)=false):RE X G0 W0 (.Call (.Name x p) (e :: es) [] pos) (au f ms):=⟨PE.imp (lg j g hm i d.h c a he b) fun _ _ _ h=>kU hd h⟩
theorem mD {x:Str} {p:Pos} {T:String} {r:List V->Hp->VK->Prop} {f:List D->Option (D × Fl)} (j:cp X (.type T) r) (hd:eM X.K r f) (g:Gl X x) (hm:X.mg x=none) (i:bootBuiltins x=some (.type T)) (d:RA X G0 W0 (e :: es) ms) (c:x ≠ "__name__") (a:(x == ("__debug__":Str))=false)
  (he:starEach (e :: es) X.env=(false,eval e X.env) :: starEach es X.env) (b:(backTo pos (starEach es X.env)).any (·.1)=false):RE X G0 W0 (.Call (.Name x p) (e :: es) [] pos) (au f ms):=⟨PE.imp (mF j g hm i d.h c a he b) fun _ _ _ h=>kU hd h⟩
variable {st:Stmt} {sts:List Stmt} {sm sn:SM}
theorem zR:RSs X G0 W0 [] dy:=⟨PSs.imp Ac fun _ _ _ h=>BT h⟩
theorem wO (h1:RS X G0 W0 st sm) (h2:RSs X G0 W0 sts sn):RSs X G0 W0 (st :: sts) (aE sm sn):=⟨PSs.imp (xo h1.h h2.h) fun _ _ _ h=>BR h⟩
theorem zQ (h1:RS X G0 W0 st sm):RSs X G0 W0 [st] sm:=⟨Ab h1.h⟩
theorem zS (he:RE X G0 W0 e m) (a:swapsWith e none pos.line X.env=pure false):RS X G0 W0 (.Expr e pos) (fZ m):=⟨PS.imp (Ad he.h a) fun _ _ _ h=>zq h⟩
theorem Cp (np:Nat) (a:∀ i,np<=i->G0.pr i=false) (he:RE X G0 W0 e m):RS X G0 W0 (.Return (some e) pos) (aV np m):=⟨PS.imp (CP he.h) fun _ _ _ h=>BS a h⟩
theorem rs_if {x y:List Stmt} (b:RT X G0 W0 c t) (a:RSs X G0 W0 x sm) (d:RSs X G0 W0 y sn):RS X G0 W0 (.If c x y pos) (sIf t sm sn):=⟨PS.imp (ps_if b.h a.h d.h) fun _ _ _ h=>tS_if h⟩
theorem wQ (i:Nat) {x:Str} {pos':Pos} (d:X.N.Nodup) (hi:X.N[i]?=some x) (b:Loc X.env.scope x) (he:RE X G0 W0 e m) (c:swapsWith e (some (.Name x pos')) pos.line X.env=pure false) (hf:X.fn x=true\/X.env.scope.names.lookup x=some .local) (a:G0.pr i=false):RS X G0 W0 (.Assign [.Name x pos'] e pos) (aP i m):=⟨PS.imp (CO d hi b he.h c hf) fun _ _ _ h=>BQ a h⟩
theorem wP {body:List Stmt} (a:PassesOwn (model X.prog X.w) X.A X.env X.xe) (b:RT X G0 W0 c t) (d:RSs X G0 W0 body sm):RS X G0 W0 (.While c body [] pos) (gl t sm):=⟨PS.imp (xp a b.h d.h) fun _ _ _ h=>vZ h⟩
theorem Cq {tg iter:Expr} {body:List Stmt} {im:IM} {bnd:D->Sto->Option Sto} (a:PassesOwn (model X.prog X.w) X.A X.env X.xe) (e:X.calm=true) (hi:RI X G0 W0 tg iter im) (d:RG X G0.pr tg bnd) (b:RSs X G0 W0 body sm) (c:∀ x,foldedSetIterable iter X.env x=pure x):RS X G0 W0 (.For tg iter body [] pos) (cP im bnd sm):=by
 obtain ⟨g,h1,h2⟩:=d.h
 exact ⟨PS.imp (CQ a e hi.h h1 b.h c) fun _ _ _ h=>BU h2 h⟩
theorem sZ (i:Nat) {x:Str} {pr:Nat->Bool} (a:X.N.Nodup) (hi:X.N[i]?=some x) (c:Loc X.env.scope x) (hf:X.fn x=true\/X.env.scope.names.lookup x=some .local) (b:pr i=false):RG X pr (.Name x pos) (aq i):=⟨_,je a hi c hf,ip b⟩
theorem zZ {pr:Nat->Bool}:RGs X pr [] ju:=⟨_,tG,qD⟩
theorem wW {pr:Nat->Bool} {bn:D->Sto->Option Sto} {bs:List D->Sto->Option Sto} (h1:RG X pr e bn) (h2:RGs X pr es bs) (a:(assignEach (e :: es) X.env).map (·.2)=assign e X.env :: (assignEach es X.env).map (·.2)):RGs X pr (e :: es) (cn bn bs):=by
 obtain ⟨g,a1,a2⟩:=h1.h
 obtain ⟨b,b1,b2⟩:=h2.h
 exact ⟨_,lf a1 b1 a,jW a2 b2⟩
theorem Cu {pr:Nat->Bool} {k n:Nat} {bs:List D->Sto->Option Sto} (c:X.calm=true) (h:RGs X pr es bs) (b:(assignEach es X.env).length=n) (a:(assignEach es X.env).findIdx? (·.1)=none):RG X pr (.Tuple es k pos) (jt n bs):=by
 obtain ⟨d,b1,b2⟩:=h.h
 exact ⟨_,xw c b1 b a,ue b2⟩
theorem z5 {elt tg iter:Expr} {ifs:List Expr} {scope:Scope} {im:IM} {bnd:D->Sto->Option Sto} {d:M3 Bool} {em:EM} (NY:List Str) (ix:List (Option Nat)) (i:X.calm=true) (hi:RI X G0 W0 tg iter im)
  (g:∀ s H C fp,PTs (aN X NY scope s H C fp) ifs (tT X.K (bo ix) noX d)) (he:∀ s H C fp,RE (aN X NY scope s H C fp) (bo ix) noX elt em)
  (e:ie scope X.N X.env.scope NY ix=true) (c:Inj ix) (f:∀ x,foldedSetIterable iter X.env x=pure x) (b:∃ a,Bnd X.K (bo ix).pr a bnd/\∀ s H C fp,PG (aN X NY scope s H C fp) tg a):RE X G0 W0 (.ListComp elt [⟨tg,iter,ifs,0⟩] scope pos) (bx im bnd d em ix):=by
 obtain ⟨a,b1,b2⟩:=b
 exact ⟨PE.imp (Al NY ix i hi.h b2 g (fun s H C fp=>(he s H C fp).h) e f) fun _ _ _ h=>zA szl c b1 h⟩
end
end L3
end
section
namespace L3
open PySem L2
def aj (F:Fn) (ms:M3 (List R3)):EM:=ae ms fun rs=>fun ρ=>match prs (frz (kD rs) ρ) rs with
 | none=>none
 | some ps=>match F ps with
  | none=>none
  | some (.ok p,qs)=>if qs.length=ps.length then some (.ok (.val p.1 p.2),back rs ps qs (frz (kD rs) ρ)) else none
  | some (.error _,_)=>none
def uz (K:FG) (F:Fn):Sp:=fun a H Q _=>∃ (ps:List It3) (p:D × Fl) (fs:List (D × Fl)),a=ps.map (·.v)/\(∀ p ∈ ps,Arg K H p)/\ps.Pairwise Apart3/\F (ps.map fun p=>(p.d,p.f))=some (.ok p,fs) /\
 ∀ x qs H',Behind K H H' ps qs x->x.d=p.1->x.f=p.2->qs.map (fun q=>(q.d,q.f))=fs->Q x.v H'
section
variable {K:FG} {G G0:Gm} {W W0:D->Sto->Prop} {H H':Hp} {σ:St} {ρ ρ':Sto} {T T':List It3} {g:Nat->Option It3} {x y z:It3} {α β:Type}
theorem wb {F:Fn} {ms:M3 (List R3)} {Q:VK} (h:tE K G0 W0 (aj F ms) σ H Q):tA K G0 W0 ms σ H fun s H1=>uz K F s H1 Q E0:=by
 refine h.use fun G W le ρ T g o ρ' w e q=>?_
 refine tA.seq le w e q.err fun rs ρ1 e1 s H1 Ts g1 t a1=>?_
 obtain ⟨g2,c,M⟩:=Wf.frz (is:=kD rs) t
 cases k:prs (L3.frz (kD rs) ρ1) rs with
 | none=>rw [k] at e1;exact nsE e1
 | some pfs =>
  rw [k] at e1
  dsimp only at e1
  have hd:∀ i,2<=(pls rs).count i->∀ y,g2 i=some y->y.f=.z:=fun i C y u=>by
   have hm:i ∈ kD rs:=EL.mpr ⟨List.count_pos_iff.mp (by omega),by simpa using C⟩
   have s1:=c.sl i
   rw [u] at s1
   have O:∃ y0,g1 i=some y0:=by
    cases N:g1 i with
    | some y0=>exact ⟨y0,rfl⟩
    | none =>
     exfalso
     have s2:=t.sl i
     rw [N] at s2
     have:=qc (is:=kD rs) s2.symm
     rw [this] at s1
     cases s1
   obtain ⟨y0,l⟩:=O
   obtain ⟨S,b,_,L⟩:=M i y0 l
   rw [u] at b
   cases b
   exact L hm
  obtain ⟨ps,f1,f2,E,f4,I⟩:=Ars.args a1 c hd k
  have hit:∀ p ∈ ps,Itm (Ts ++ T) g2 p:=fun p j=>by
   rcases f4 p j with ⟨i,_,J⟩ | h
   ·exact .inl ⟨i,J⟩
   ·exact .inr (Eg _ h)
  have d:∀ p ∈ ps,Arg K H1 p:=fun p j=>⟨(c.itm (hit p j)).rep,fun hf=>by
   obtain ⟨m,a,L',v1,v2,v3,_⟩:=(c.itm (hit p j)).own hf
   exact ⟨m,a,L',v1,v2,v3⟩⟩
  subst f2
  cases b:F pfs with
  | none=>rw [b] at e1;exact nsE e1
  | some r =>
   obtain ⟨out,fs⟩:=r
   rw [b] at e1
   cases out with
   | ok p =>
    dsimp only at e1
    split at e1
    ·cases e1
     refine ⟨ps,p,fs,rfl,d,E,by rw [f1];exact b,?_⟩
     intro x qs H' B x1 P D
     obtain ⟨g',R,A⟩:=Wf.after c k f1 f4 I B.toBehindX
     have n:=A x B.rep B.own B.src B.apx
     rw [D] at n
     rw [<- x1,<- P] at q
     exact q x.v H' ⟨[x],g',n,.val x⟩
    ·exact nsE e1
   | error er=>exact nsE e1
def dR (b:Bool) (p:It3):It3:=if b then dj p else p
theorem mQ:∀ {mask:List Bool} {ps:List It3},(List.zipWith dR mask ps).map (fun p=>(p.d,p.f))=List.zipWith lU mask (ps.map fun p=>(p.d,p.f))
 | [],_=>rfl
 | _ :: _,[]=>rfl
 | b :: mask,p :: ps=>by
  simp only [List.zipWith_cons_cons,Ey,mQ]
  cases b <;> rfl
theorem ve {mask:List Bool} {ps:List It3} {i:Nat} {q:It3} (h:(List.zipWith dR mask ps)[i]?=some q):∃ b p,mask[i]?=some b/\ps[i]?=some p/\q=dR b p:=by
 rw [List.getElem?_zipWith] at h
 cases e1:mask[i]? with
 | none=>rw [e1] at h;exact nsE h
 | some b =>
  cases a:ps[i]? with
  | none=>rw [e1,a] at h;exact nsE h
  | some p=>rw [e1,a] at h;cases h;exact ⟨b,p,rfl,rfl,rfl⟩
theorem p6 {mask:List Bool} {ps:List It3} {i:Nat} {p:It3} (a:ps.length=mask.length) (h:ps[i]?=some p):∃ b,mask[i]?=some b/\(List.zipWith dR mask ps)[i]?=some (dR b p):=by
 have hi:i < mask.length:=by have:=(Eo.mp h).1;omega
 refine ⟨mask[i],Ej hi,?_⟩
 rw [List.getElem?_zipWith,Ej hi,h]
theorem dQ (b:Bool) (p:It3):(dR b p).d=p.d/\(dR b p).v=p.v/\(dR b p).L=p.L/\((dR b p).f=p.f\/(dR b p).f=.z):=by
 cases b
 ·exact ⟨rfl,rfl,rfl,.inl rfl⟩
 ·exact ⟨rfl,rfl,rfl,.inr rfl⟩
theorem NoRoot.low {a b d g:It3} (h:NoRoot a b) (i:d.v=a.v) (hf:d.f=a.f\/d.f=.z) (j:g.L=b.L):NoRoot d g:=fun q c e=>by
 rw [j]
 rcases hf with f | f
 ·exact h (by rw [<- f];exact q) c (by rw [<- i];exact e)
 ·exact absurd f q
def prM (mask:List Bool) (i:Nat):Bool:=match mask[i]? with
 | some b=>!b
 | none=>false
theorem AF {α β:Type} {f:α->β} {l:List α} {i:Nat} {a:α} (h:l[i]?=some a):(l.map f)[i]?=some (f a):=by rw [Et,h];rfl
theorem tZ {mask:List Bool} {m:SM} {n:Nat} {vs:List V} {Q:VK} {E:XK} (hn:mask.length<=n) (h:uz K (fnM mask n m) vs H Q E) :
  ∃ G:Gm,G.pr=prM mask/\tS K G noX m { nx:=fun _ H'=>Q .non H',rt:=Q } (vs.map some ++ List.replicate (n - vs.length) none) H:=by
 obtain ⟨ps,p,fs,rfl,ha,hp,l,q⟩:=h
 unfold fnM at l
 rw [En] at l
 split at l
 ·rename_i hl
  rw [<- mQ] at l
  generalize w:List.zipWith dR mask ps=g at l
  have Z:g.length=ps.length:=by rw [<- w,List.length_zipWith];omega
  have S:g.map (·.v)=ps.map (·.v):=by
   refine List.ext_getElem? fun i=>?_
   rw [Et,Et]
   cases e:ps[i]? with
   | none=>rw [List.getElem?_eq_none (by have:=List.getElem?_eq_none_iff.mp e;omega)]
   | some u =>
    obtain ⟨b,_,t⟩:=p6 (mask:=mask) hl e
    rw [w] at t
    rw [t]
    show some (dR b u).v=some u.v
    rw [(dQ b u).2.1]
  have up:∀ (i:Nat) (u:It3),g[i]?=some u->∃ b s,mask[i]?=some b/\ps[i]?=some s/\u=dR b s:=fun i u e=>by rw [<- w] at e;exact ve e
  have A:∀ u ∈ g,∃ b s,s ∈ ps/\u=dR b s:=fun u hu=>by
   obtain ⟨i,hi,e⟩:=List.mem_iff_getElem.mp hu
   obtain ⟨b,s,_,t,y⟩:=up i u (by rw [Ej hi,e])
   exact ⟨b,s,Ep t,y⟩
  have I:∀ u ∈ g,Arg K H u:=fun u hu=>by
   obtain ⟨b,s,h0,rfl⟩:=A u hu
   obtain ⟨e1,t,y,e4⟩:=dQ b s
   refine ⟨by rw [e1,t,y];exact (ha s h0).rep,fun hf=>?_⟩
   rw [e1,t,y]
   refine (ha s h0).own fun z=>hf ?_
   rcases e4 with f | f
   ·rw [f];exact z
   ·exact f
  have M:g.Pairwise Apart3:=by
   rw [List.pairwise_iff_getElem]
   intro i j hi hj lt
   obtain ⟨b,s,_,t,y⟩:=up i _ (Ej hi)
   obtain ⟨C,W,_,X,T⟩:=up j _ (Ej hj)
   have ap:=c9 hp (fun _ _=>Apart3.symm) (Ew lt) t X
   rw [y,T]
   obtain ⟨_,a2,U,R⟩:=dQ b s
   obtain ⟨_,b2,b3,b4⟩:=dQ C W
   exact ⟨ap.1.low a2 R b3,ap.2.low b2 b4 U⟩
  have P:∀ (i:Nat) (u:It3),g[i]?=some u->u.f ≠ .z->prM mask i=true:=fun i u e hf=>by
   obtain ⟨b,s,e1,t,y⟩:=up i u e
   unfold prM
   rw [e1]
   cases b with
   | false=>rfl
   | true=>rw [y] at hf;exact absurd rfl hf
  have alls:∀ c,dq g c->dq ps c:=fun c ⟨u,hu,J⟩=>by
   obtain ⟨b,s,h0,rfl⟩:=A u hu
   exact ⟨s,h0,by rw [<- (dQ b s).2.2.1];exact J⟩
  have lift:∀ {H':Hp} {qs:List It3},BehindX K H H' g qs->BehindX K H H' ps qs:=fun {H' qs} B=>by
   refine ⟨fun b o hb hn=>B.frame b o hb fun u hu hf S=>?_,Paired.ofGet ?_ fun k u v eu ev=>?_,B.apart⟩
   ·obtain ⟨C,s,h0,rfl⟩:=A u hu
    obtain ⟨_,t,_,e4⟩:=dQ C s
    rcases e4 with f | f
    ·exact hn s h0 (by rw [<- f];exact hf) (by rw [<- t];exact S)
    ·rw [f] at hf;cases hf
   ·rw [<- Z];exact Paired.length B.back
   ·obtain ⟨b,_,t⟩:=p6 (mask:=mask) hl eu
    rw [w] at t
    have b1:=Paired.at B.back t ev
    obtain ⟨a1,a2,U,R⟩:=dQ b u
    refine ⟨fun hz=>?_,by rw [b1.v,a2],?_,b1.arg,fun c J=>(b1.src c J).imp id (alls c),fun hf C N=>?_⟩
    ·have:dR b u=u:=by
      cases b
      ·rfl
      ·obtain ⟨d,v,L,f⟩:=u
       have hz:f=.z:=hz
       subst hz;rfl
     rw [<- this]
     exact b1.z (by rw [this];exact hz)
    ·rcases b1.f with h | h
     ·rcases R with f | f
      ·exact .inl (h.trans f)
      ·exact .inr (h.trans f)
     ·exact .inr h
    ·rcases R with f | f
     ·exact b1.there (by rw [f];exact hf) C (by rw [a2];exact N)
     ·-- lowered: as it was
      obtain ⟨_,a,L',v1,v2,_⟩:=(ha u (Ep eu)).own (by rw [hf];intro q;cases q)
      rw [N] at v1;cases v1
      have hq:=b1.z f
      have r:=b1.arg.rep
      rw [hq,a1,a2,U] at r
      exact (r.inH C (by rw [v2];exact Ec)).ex
  have Y:g.length<=n:=by omega
  have wf:=vQ (K:=K) (H:=H) (n:=n) (pr:=prM mask) Y I M P
  rw [S] at wf
  refine ⟨gOf H (prM mask) ((ps.map (·.v)).map some ++ List.replicate (n - (ps.map (·.v)).length) none) g,rfl,?_⟩
  have h0:∀ (i:Nat) (u:It3),g[i]?=some u->((ps.map (·.v)).map some ++ List.replicate (n - (ps.map (·.v)).length) none)[i]?=some (some u.v):=fun i u e=>mh (by rw [<- S];exact AF e)
  unfold fn0 at l
  cases e:m (gg n (g.map fun p=>(p.d,p.f))) with
  | none=>rw [e] at l;exact nsE l
  | some rr =>
   obtain ⟨r,ρ2⟩:=rr
   rw [e] at l
   refine tS.mk (r:=r) (Le.refl K _ _) wf e ?_
   have fin:∀ {x:It3} {σ':St} {H':Hp} {g':Nat->Option It3} {d:D} {f:Fl},Wf K (gOf H (prM mask) ((ps.map (·.v)).map some ++ List.replicate (n - (ps.map (·.v)).length) none) g) H' σ' ρ2 [x] g'->x.d=d->x.f=f ->
     ((fg ρ2 0 (g.map fun p=>(p.d,p.f))).map fun fs=>((.ok (d,f),fs):Except D (D × Fl) × List (D × Fl)))=some (.ok p,fs)->Q x.v H':=fun {x σ' H' g' d f} O xd xf l=>by
    cases F:fg ρ2 0 (g.map fun p=>(p.d,p.f)) with
    | none=>rw [F] at l;exact nsE l
    | some fs' =>
     rw [F] at l
     cases l
     obtain ⟨qs,B,hq⟩:=sK (n:=n) I M P h0 O F
     have BX:=lift B.toBehindX
     exact q x qs H' ⟨BX,B.rep,B.own,fun c J=>(B.src c J).imp id (alls c),B.apx⟩ xd xf hq
   cases r with
   | error er=>
    dsimp only at l
    cases F:fg ρ2 0 (g.map fun p=>(p.d,p.f)) with
    | none=>rw [F] at l;exact nsE l
    | some fs'=>rw [F] at l;cases l
   | ok fl =>
    cases fl with
    | nx =>
     intro σ' H' g' O
     obtain ⟨Ts,g2,w2,a2⟩:=O.const .non
     obtain ⟨x,rfl,x1,x2,x3⟩:=a2.val_inv
     have:=fin w2 x1 x2 l
     rw [x3] at this
     exact this
    | br=>exact nsE l
    | ct=>exact nsE l
    | rt d f =>
     intro x σ' H' g' O x1 x2
     exact fin O x1 x2 l
 ·exact nsE l
end
abbrev aD (P:Program) (w:World) (K:FG) (mg:Str->Option Value) (base:Heap) (x:Str) (k:Nat) (ps:List Str) (F:Fn):Prop:=Callee P w K mg base x k ps (uz K F)
theorem aK {P:Program} {w:World} {K:FG} {mg:Str->Option Value} {base:Heap} {x:Str} {st:Stmt} {k:Nat} {N ps:List Str} {mask:List Bool} {m:SM} {nn:Nat} (D:Def K mg x st) (S:FnScope N ps (ag st)) (c:mask.length=ps.length) (b:N.length=nn)
  (i:∀ (kV doc pm:Value) (an:Option Addr) (a ct:Value) (us:List Value),us.length=ps.length->bindArgs (PySem.W.fnOf x x (bb st) (aU st) (ag st) .none kV doc pm an a ct) ⟨us,[]⟩=pure (ps.zip us))
  (body:∀ (a:Value) (A:Around) (outer:List Env) (s:Shared) (H:Hp) (E:XK) (f:Addr) (G:Gm),Room k (A.deeper (PyProof.Rows.envOfC x (ag st) s.heap.objs.size f a))->G.pr=prM mask->RSs (qh CX0 P w K mg base N x (ag st) f a A outer s H E).nox G noX (aU st) m) :
  aD P w K mg base x (k+1) ps (fnM mask nn m):=by
 refine D.callee i fun f fd F=>F.ok S (fun j H Q E h=>?_) fun a A outer s H j Q E n h=>?_
 ·obtain ⟨l,p,fs,rfl,_,_,d,_⟩:=h
  unfold fnM at d
  rw [En] at d ⊢
  split at d
  ·rename_i e;rw [e,c]
  ·exact nsE d
 ·have hle:mask.length<=nn:=by
   rw [c,<- b]
   have:=congrArg List.length S.pre
   rw [EG] at this
   omega
  obtain ⟨G,g,o⟩:=tZ hle h
  subst b
  exact ⟨_,(body a A outer s H E f G n g).h,o⟩
theorem z6 {X:Cx} {G0:Gm} {W0:D->Sto->Prop} {x:Str} {p pos:Pos} {e:Expr} {es:List Expr} {ms:M3 (List R3)} {k:Nat} {ps:List Str} {F:Fn} (c:aD X.prog X.w X.K X.mg X.base x k ps F) (d:Room k X.A) (g:RA X G0 W0 (e :: es) ms) (f:Gl X x) (a:(x == ("__debug__":Str))=false)
  (he:starEach (e :: es) X.env=(false,eval e X.env) :: starEach es X.env) (b:(backTo pos (starEach es X.env)).any (·.1)=false):RE X G0 W0 (.Call (.Name x p) (e :: es) [] pos) (aj F ms) :=
 ⟨PE.imp (pe_fn c d g.h f a he b) fun _ _ _ h=>wb h⟩
end L3
end
section
namespace L3
open PySem L2
def orD (f g:D->D->Option (D × Fl)) (a b:D):Option (D × Fl):=match f a b with
 | some p=>some p
 | none=>g a b
section
variable {K:FG} {H:Hp} {Ks:Addr->Prop} {d:D} {v:V} {L:List Addr} {X:Cx}
theorem d7 (r:Rep K H d v []):New K H H Ks ⟨d,v,[],.z⟩:=⟨Same.refl _,r,fun _ h=>(by cases h),fun h=>absurd rfl h⟩
theorem pJ (r:Rep K H d v L) (h:∀ c ∈ L,Ks c):New K H H Ks ⟨d,v,L,.z⟩:=⟨Same.refl _,r,fun c a=>.inr (h c a),fun h=>absurd rfl h⟩
theorem rK {p:Addr} {ds:List D} {f:List V} (a:H p=none) (r:Reps (Rep K H) ds f L) (h:∀ c ∈ L,Ks c):New K H (upd H p (.lst f)) Ks ⟨.lst ds,.ref p,p :: L,.u⟩:=by
 have np:p ∉ L:=fun b=>by obtain ⟨o,d⟩:=(r.inH p b).ex;rw [a] at d;exact nsE d
 refine ⟨bJ a,.lst aJ (r.same (bJ a)),fun c b=>?_,fun _=>⟨rfl,p,L,rfl,rfl,np,a⟩⟩
 rcases Ei.mp b with e | b
 ·rw [e];exact .inl a
 ·exact .inr (h c b)
theorem uW {p:Addr} {ds:List D} {b:List V} (a:H p=none) (r:Reps (Rep K H) ds b L) (h:∀ c ∈ L,Ks c):New K H (upd H p (.tup b)) Ks ⟨.tup ds,.ref p,L,.z⟩ :=
 ⟨bJ a,.tup aJ (r.same (bJ a)),fun c d=>.inr (h c d),fun h=>absurd rfl h⟩
theorem jl {y:It3} {ys:List It3} (a:y ∈ ys) (h:Arg K H y) (hm:jm y.d=false):∀ c ∈ y.L,dm ys c:=fun c b=>⟨y,a,b,fun hf=>by
 have:=(h.own hf).1
 rw [hm] at this;cases this⟩
theorem nX {y:It3} {ys:List It3} {a:Addr} {L:List Addr} (g:y ∈ ys) (h:Arg K H y) (b:y.v=.ref a) (d:y.L=a :: L):∀ c ∈ L,dm ys c:=fun c f=>⟨y,g,by rw [d];exact Ed _ f,fun hf e=>by
 obtain ⟨_,i,L',v1,v2,v3⟩:=h.own hf
 rw [b] at v1;cases v1
 rw [d] at v2;cases v2
 rw [b] at e;cases e
 exact v3 f⟩
theorem OpD.or {r i:R2} {f g:D->D->Option (D × Fl)} (h:OpD K r f) (h':OpD K i g):OpD K (fun x y H Q=>r x y H Q\/i x y H Q) (orD f g):=fun a b H Q p ra rb e q=>by
 unfold orD at e
 cases c:f a.d b.d with
 | some p'=>rw [c] at e;cases e;exact .inl (h a b H Q _ ra rb c q)
 | none=>rw [c] at e;exact .inr (h' a b H Q p ra rb e q)
def bL (C:Int->Int->Bool) (g:Int->Int->D):D->D->Option (D × Fl)
 | .int i,.int j=>if C i j then some (g i j,.z) else none
 | _,_=>none
theorem jo {C:Int->Int->Prop} {c:Int->Int->Bool} {g:Int->Int->V} {gd:Int->Int->D} (d:∀ i j,c i j=true->C i j) (f:∀ i j H,Rep K H (gd i j) (g i j) []):OpD K (rI C g) (bL c gd):=fun a b H Q p ra rb e q=>by
 obtain ⟨da,m,l,o⟩:=a
 obtain ⟨db,n,r,s⟩:=b
 obtain ⟨ra,k⟩:=ra
 obtain ⟨rb,ob⟩:=rb
 dsimp only at ra rb
 cases da <;> try (exact nsE e)
 rename_i i
 obtain ⟨rfl,rfl⟩:=ra.view
 cases db <;> try (exact nsE e)
 rename_i j
 obtain ⟨rfl,rfl⟩:=rb.view
 have e:(if c i j then some (gd i j,Fl.z) else none)=some p:=e
 split at e
 ·rename_i h
  cases e
  exact ⟨i,j,rfl,rfl,d i j h,q ⟨gd i j,g i j,[],.z⟩ H (d7 (f i j H)) rfl rfl⟩
 ·exact nsE e
theorem rI_of {g:Int->Int->V}:rI0 g=rI (fun _ _=>True) g:=by
 funext x y H Q
 unfold rI0 rI
 apply propext
 constructor
 ·rintro ⟨i,j,a,b,c⟩;exact ⟨i,j,a,b,trivial,c⟩
 ·rintro ⟨i,j,a,b,_,c⟩;exact ⟨i,j,a,b,c⟩
theorem ff {g:Int->Int->V} {gd:Int->Int->D} (a:∀ i j H,Rep K H (gd i j) (g i j) []):OpD K (rI0 g) (bL (fun _ _=>true) gd):=by
 rw [rI_of]
 exact jo (fun _ _ _=>trivial) a
abbrev oO:Int->Int->Bool:=fun _ _=>true
abbrev addI:=bL oO fun i j=>.int (i+j)
abbrev fv:=bL oO fun i j=>.int (i - j)
abbrev eO:=bL (fun i j=>decide ((-(2 ^ 64) < i/\i < 2 ^ 64)\/(-(2 ^ 64) < j/\j < 2 ^ 64))) fun i j=>.int (i * j)
abbrev rL:=bL (fun _ j=>decide (0 < j)) fun i j=>.int (i % j)
abbrev rB:=bL (fun i j=>decide (0<=j/\j<=1000000/\i.natAbs < 2 ^ 64)) fun i j=>.int (i ^ j.toNat)
abbrev ltI:=bL oO fun i j=>.bl (decide (i < j))
abbrev leI:=bL oO fun i j=>.bl (decide (i<=j))
abbrev gtI:=bL oO fun i j=>.bl (decide (j < i))
abbrev geI:=bL oO fun i j=>.bl (decide (j<=i))
theorem od_addI:OpD K (rI0 fun i j=>.int (i+j)) addI:=ff fun i j _=>.int _
theorem As:OpD K (rI0 fun i j=>.int (i - j)) fv:=ff fun i j _=>.int _
theorem Au:OpD K (rI CMul fun i j=>.int (i * j)) eO:=jo (fun i j h=>by simpa [CMul,vP,zj] using h) fun i j _=>.int _
theorem Av:OpD K (rI (fun _ j=>0 < j) fun i j=>.int (i % j)) rL:=jo (fun i j h=>by simpa [CMul,vP,zj] using h) fun i j _=>.int _
theorem At:OpD K (rI zj fun i j=>.int (i ^ j.toNat)) rB:=jo (fun i j h=>by simpa [CMul,vP,zj] using h) fun i j _=>.int _
theorem xJ:OpD K (rI0 fun i j=>.bl (decide (i < j))) ltI:=ff fun i j _=>.bl _
theorem xK:OpD K (rI0 fun i j=>.bl (decide (i<=j))) leI:=ff fun i j _=>.bl _
theorem Bv:OpD K (rI0 fun i j=>.bl (decide (j < i))) gtI:=ff fun i j _=>.bl _
theorem od_ge:OpD K (rI0 fun i j=>.bl (decide (j<=i))) geI:=ff fun i j _=>.bl _
def qp:D->D->Option (D × Fl)
 | .tup xs,.tup ys=>if xs.length+ys.length<=16777216 then some (.tup (xs ++ ys),.z) else none
 | _,_=>none
def qt:D->D->Option (D × Fl)
 | .lst xs,.lst ys=>if xs.length+ys.length<=16777216 then some (.lst (xs ++ ys),.u) else none
 | _,_=>none
def qr:D->D->Option (D × Fl)
 | .str xs,.str ys=>if xs.length+ys.length<=16777216 then some (.str (xs ++ ys),.z) else none
 | _,_=>none
theorem Reps.len {ds:List D} {a:List V} (r:Reps (Rep K H) ds a L):ds.length=a.length:=by
 induction r with
 | nil=>rfl
 | cons _ _ ih=>simp [ih]
theorem Reps.append {ds b:List D} {d c:List V} {L L':List Addr} (r:Reps (Rep K H) ds d L) (e:Reps (Rep K H) b c L'):Reps (Rep K H) (ds ++ b) (d ++ c) (L ++ L'):=by
 induction r with
 | nil=>exact e
 | cons a _ ih=>rw [List.append_assoc];exact .cons a ih
theorem Reps.nil_iff {ds:List D} {a:List V} (r:Reps (Rep K H) ds a L):ds=[] ↔ a=[]:=by cases r <;> simp
def nG (K:FG):R2:=fun x y H Q=>∃ a b ys,x=.ref a/\y=.ref b/\SqT K H a []/\SqT K H b ys/\Q (.ref b) H
theorem xI:OpR X (binaryOp .Add) (nG X.K):=by
 intro pins s σ H x y v u Q I t o h
 obtain ⟨a,b,ys,rfl,rfl,A,r,q⟩:=h
 cases t
 cases o
 obtain ⟨its,p,z,_⟩:=I.tuple A
 obtain ⟨l,B,p2,_⟩:=I.tuple r
 have e:its=[]:=p.nil_iff.mpr rfl
 subst e
 obtain ⟨⟨cls,m,data,sl⟩,k,j,n,hd⟩:=id z
 obtain ⟨⟨i,f,data2,g⟩,d,c,w,hd2⟩:=id p2
 simp only at j hd c hd2
 subst j hd c hd2
 exact concat_meets ⟨_,k,rfl⟩ ⟨_,d,rfl⟩ noFill_tuple_add seq_tuple_add PySem.F.slot_tuple_add PySem.F.entry_tuple_add (PySem.F.args_tuple_add_2 _ _)
   (PyProof.Rows.tuple_addW0 a b _ _ n w m f sl g (by simp)) ⟨k,d,⟨.ref b,H,I,rfl,q⟩⟩
theorem od_catT:OpD K (fun x y H Q=>tD K x y H Q\/nG K x y H Q) qp:=fun a b H Q p ra rb e q=>by
 obtain ⟨da,B,k,s⟩:=a
 obtain ⟨db,C,l,u⟩:=b
 obtain ⟨ra,r⟩:=ra
 obtain ⟨rb,ob⟩:=rb
 dsimp only at ra rb
 cases da <;> try (exact nsE e)
 rename_i xs
 obtain ⟨f,t,rfl,j,rs⟩:=ra.view
 cases db <;> try (exact nsE e)
 rename_i ys
 obtain ⟨i,ws,rfl,g,d⟩:=rb.view
 have e:(if xs.length+ys.length<=16777216 then some (D.tup (xs ++ ys),Fl.z) else none)=some p:=e
 split at e
 ·rename_i v
  cases e
  by_cases m:t=[]
  ·have o:=rs.nil_iff.mpr m
   subst m o
   refine .inr ⟨f,i,ws,rfl,rfl,SqT.of j,SqT.of g,?_⟩
   exact q ⟨.tup ys,.ref i,l,.z⟩ H (pJ (.tup g d) (jl (y:=⟨.tup ys,.ref i,l,u⟩) (Ed _ (EJ.mpr rfl)) ⟨.tup g d,ob⟩ rfl)) rfl rfl
  ·refine .inl ⟨f,i,t,ws,rfl,rfl,SqT.of j,SqT.of g,m,by rw [<- rs.len,<- d.len,<- szl];exact v,fun hw=>?_,fun hw p A=>?_⟩
   ·have n:=d.nil_iff.mpr hw
    subst n
    refine q ⟨.tup (xs ++ []),.ref f,k,.z⟩ H (pJ (by rw [List.append_nil];exact .tup j rs) (jl (y:=⟨.tup xs,.ref f,k,s⟩) Ec ⟨.tup j rs,r⟩ rfl)) rfl rfl
   ·refine q ⟨.tup (xs ++ ys),.ref p,k ++ l,.z⟩ _ (uW A (rs.append d) fun c w=>?_) rfl rfl
    rcases El.mp w with h | h
    ·exact jl (y:=⟨.tup xs,.ref f,k,s⟩) Ec ⟨.tup j rs,r⟩ rfl c h
    ·exact jl (y:=⟨.tup ys,.ref i,l,u⟩) (Ed _ (EJ.mpr rfl)) ⟨.tup g d,ob⟩ rfl c h
 ·exact nsE e
theorem Ay:OpD K z7 qt:=fun a b H Q p ra rb e q=>by
 obtain ⟨da,w,f,r⟩:=a
 obtain ⟨db,x,i,t⟩:=b
 obtain ⟨ra,n⟩:=ra
 obtain ⟨rb,ob⟩:=rb
 dsimp only at ra rb
 cases da <;> try (exact nsE e)
 rename_i xs
 obtain ⟨j,s,f,rfl,rfl,k,rs⟩:=ra.view
 cases db <;> try (exact nsE e)
 rename_i ys
 obtain ⟨g,ws,i,rfl,rfl,l,d⟩:=rb.view
 have e:(if xs.length+ys.length<=16777216 then some (D.lst (xs ++ ys),Fl.u) else none)=some p:=e
 split at e
 ·rename_i m
  cases e
  refine ⟨j,g,s,ws,rfl,rfl,k,l,by rw [<- rs.len,<- d.len,<- szl];exact m,fun p o=>?_⟩
  refine q ⟨.lst (xs ++ ys),.ref p,p :: (f ++ i),.u⟩ _ (rK o (rs.append d) fun c v=>?_) rfl rfl
  rcases El.mp v with h | h
  ·exact nX (y:=⟨.lst xs,.ref j,j :: f,r⟩) Ec ⟨.lst k rs,n⟩ rfl rfl c h
  ·exact nX (y:=⟨.lst ys,.ref g,g :: i,t⟩) (Ed _ (EJ.mpr rfl)) ⟨.lst l d,ob⟩ rfl rfl c h
 ·exact nsE e
theorem od_catS:OpD K (fun x y H Q=>∃ i j,x=.str i/\y=.str j/\i.length+j.length<=sizeLine/\Q (.str (i ++ j)) H) qr:=fun a b H Q p ra rb e q=>by
 obtain ⟨da,g,f,k⟩:=a
 obtain ⟨db,h,l,m⟩:=b
 obtain ⟨ra,d⟩:=ra
 obtain ⟨rb,ob⟩:=rb
 dsimp only at ra rb
 cases da <;> try (exact nsE e)
 rename_i i
 obtain ⟨rfl,rfl⟩:=ra.view
 cases db <;> try (exact nsE e)
 rename_i j
 obtain ⟨rfl,rfl⟩:=rb.view
 have e:(if i.length+j.length<=16777216 then some (D.str (i ++ j),Fl.z) else none)=some p:=e
 split at e
 ·rename_i c
  cases e
  exact ⟨i,j,rfl,rfl,by rw [<- szl];exact c,q ⟨.str (i ++ j),.str (i ++ j),[],.z⟩ H (d7 (.str _)) rfl rfl⟩
 ·exact nsE e
abbrev aO:=orD addI (orD qr (orD qp qt))
theorem Df:OpD K (fun x y H Q=>rI0 (fun i j=>.int (i+j)) x y H Q\/((∃ i j,x=.str i/\y=.str j/\i.length+j.length<=sizeLine/\Q (.str (i ++ j)) H)\/((tD K x y H Q\/nG K x y H Q)\/z7 x y H Q))) aO:=od_addI.or (od_catS.or (od_catT.or Ay))
theorem Ao:OpR X (binaryOp .Add) (fun x y H Q=>rI0 (fun i j=>.int (i+j)) x y H Q\/((∃ i j,x=.str i/\y=.str j/\i.length+j.length<=sizeLine/\Q (.str (i ++ j)) H)\/((tD X.K x y H Q\/nG X.K x y H Q)\/z7 x y H Q))):=op_add.or (op_add_str.or ((op_catT.or xI).or Db))
def eqS:D->D->Option Bool
 | .non,.non=>some true | .non,.int _=>some false | .int _,.non=>some false | .non,.bl _=>some false | .bl _,.non=>some false | .non,.str _=>some false | .str _,.non=>some false
 | .int i,.int j=>some (decide (i=j)) | .bl i,.bl j=>some (decide (i=j)) | .str i,.str j=>some (decide (i=j))
 | .int _,.str _=>some false | .str _,.int _=>some false | .bl _,.str _=>some false | .str _,.bl _=>some false
 | _,_=>none
theorem yH {a b:D} {u v:V} {L L':List Addr} {k:Bool} (ra:Rep K H a u L) (rb:Rep K H b v L') (e:eqS a b=some k):Cf u v=true/\k=decide (u=v):=by
 cases a <;> cases b <;> first | exact nsE e | (obtain ⟨rfl,rfl⟩:=ra.view;obtain ⟨rfl,rfl⟩:=rb.view;cases e;exact ⟨rfl,by simp⟩)
def km:D->Bool
 | .non=>true
 | _=>false
def isN:D->D->Option (D × Fl)
 | a,.non=>some (.bl (km a),.z)
 | _,_=>none
def AA:D->D->Option (D × Fl)
 | a,.non=>some (.bl (!km a),.z)
 | _,_=>none
theorem Rep.non_iff {a:D} {u:V} (ra:Rep K H a u L):km a=decide (u=.non):=by cases ra <;> simp [km]
theorem De:OpD K (fun x y H Q=>y=.non/\Q (.bl (decide (x=.non))) H) isN:=fun a b H Q p ra rb e q=>by
 obtain ⟨db,c,d,f⟩:=b
 obtain ⟨rb,ob⟩:=rb
 dsimp only at rb
 cases db <;> try (exact nsE e)
 obtain ⟨rfl,rfl⟩:=rb.view
 unfold isN at e
 cases e
 refine ⟨rfl,?_⟩
 rw [<- ra.rep.non_iff]
 exact q ⟨_,_,[],.z⟩ H (d7 (.bl _)) rfl rfl
def eZ:D->Option (D × Fl)
 | .int i=>some (.int (-i),.z)
 | _=>none
theorem BL:UnD K (rU fun i=>.int (-i)) eZ:=fun a H Q p ra e q=>by
 obtain ⟨da,b,f,c⟩:=a
 obtain ⟨ra,d⟩:=ra
 dsimp only at ra
 cases da <;> try (exact nsE e)
 obtain ⟨rfl,rfl⟩:=ra.view
 cases e
 exact ⟨_,rfl,q ⟨_,_,[],.z⟩ H (d7 (.int _)) rfl rfl⟩
theorem Reps.at:∀ {ds:List D} {b:List V} {L:List Addr} {i:Nat} {d:D},Reps (Rep K H) ds b L->ds[i]?=some d->∃ v L',b[i]?=some v/\Rep K H d v L'/\∀ c ∈ L',c ∈ L
 | _,_,_,_,_,.nil,h=>by simp at h
 | _,_,_,0,_,.cons r _,h=>by simp at h;subst h;exact ⟨_,_,rfl,r,fun c a=>Eg _ a⟩
 | _,_,_,i+1,_,.cons _ t,h=>by
  obtain ⟨v,L',h1,h2,h3⟩:=Reps.at (i:=i) t (by simpa using h)
  exact ⟨v,L',by simpa using h1,h2,fun c a=>Eh _ (h3 c a)⟩
theorem Reps.atI {ds:List D} {a:List V} {i:Int} {d:D} (r:Reps (Rep K H) ds a L) (h:atI ds i=some d):∃ v L',atI a i=some v/\Rep K H d v L'/\∀ c ∈ L',c ∈ L:=by
 unfold L2.atI at h ⊢
 rw [<- r.len]
 cases e:ixN ds.length i with
 | none=>rw [e] at h;exact nsE h
 | some j=>rw [e] at h;exact r.at h
def ixD:D->D->Option (D × Fl)
 | .lst xs,.int i=>(atI xs i).map fun d=>(d,.z)
 | .fls xs,.int i=>(atI xs i).map fun d=>(d,.z)
 | .tup xs,.int i=>(atI xs i).map fun d=>(d,.z)
 | _,_=>none
theorem od_ix:OpD K (fun x y H Q=>xi K x y H Q\/xh K x y H Q) ixD:=fun a b H Q p ra rb e q=>by
 obtain ⟨da,o,l,m⟩:=a
 obtain ⟨db,r,s,t⟩:=b
 obtain ⟨rb,ob⟩:=rb
 have g:=ra
 obtain ⟨ra,n⟩:=ra
 dsimp only at ra rb
 cases da <;> try (exact nsE e)
 all_goals (cases db <;> try (exact nsE e))
 all_goals (rename_i xs i;obtain ⟨rfl,rfl⟩:=rb.view)
 ·obtain ⟨f,h,rfl,k,rs⟩:=ra.view
  obtain ⟨d,h1,h2⟩:=Ef.mp (show (atI xs i).map (fun d=>(d,Fl.z))=some p from e)
  subst h2
  obtain ⟨v,L',g1,g2,g3⟩:=rs.atI h1
  refine .inr ⟨f,h,i,v,rfl,rfl,SqT.of k,g1,q ⟨d,v,L',.z⟩ H (pJ g2 fun c j=>?_) rfl rfl⟩
  exact jl (y:=⟨.tup xs,.ref f,l,m⟩) Ec g rfl c (g3 c j)
 ·obtain ⟨f,h,l,rfl,rfl,k,rs⟩:=ra.view
  obtain ⟨d,h1,h2⟩:=Ef.mp (show (atI xs i).map (fun d=>(d,Fl.z))=some p from e)
  subst h2
  obtain ⟨v,L',g1,g2,g3⟩:=rs.atI h1
  refine .inl ⟨f,h,i,v,rfl,rfl,SqL.of k,g1,q ⟨d,v,L',.z⟩ H (pJ g2 fun c j=>?_) rfl rfl⟩
  exact nX (y:=⟨.lst xs,.ref f,f :: l,m⟩) Ec g rfl rfl c (g3 c j)
 ·obtain ⟨f,h,rfl,k,rs⟩:=ra.view
  obtain ⟨d,h1,h2⟩:=Ef.mp (show (atI xs i).map (fun d=>(d,Fl.z))=some p from e)
  subst h2
  obtain ⟨v,L',g1,g2,g3⟩:=rs.atI h1
  refine .inl ⟨f,h,i,v,rfl,rfl,k.sq,g1,q ⟨d,v,L',.z⟩ H (pJ g2 fun c j=>?_) rfl rfl⟩
  exact jl (y:=⟨.fls xs,.ref f,l,m⟩) Ec g rfl c (g3 c j)
theorem ix_ok:IxR X (fun x y H Q=>xi X.K x y H Q\/xh X.K x y H Q):=ix_list.or Du
end
end L3
end
section
namespace L3
open PySem L2
def orC (f g:List D->Option (D × Fl)) (a:List D):Option (D × Fl):=match f a with
 | some p=>some p
 | none=>g a
section
variable {K:FG} {H:Hp} {Ks:Addr->Prop} {d:D} {v:V} {L:List Addr} {X:Cx}
def c1 (f:D->Option (D × Fl)):List D->Option (D × Fl)
 | [d]=>f d
 | _=>none
def c2 (f:D->D->Option (D × Fl)):List D->Option (D × Fl)
 | [d,d']=>f d d'
 | _=>none
theorem io {ys:List It3} {f:D->Option (D × Fl)} {p:D × Fl} (e:c1 f (ys.map (·.d))=some p):∃ y,ys=[y]/\f y.d=some p:=by
 match ys,e with
 | [],e=>exact nsE e
 | [y],e=>exact ⟨y,rfl,e⟩
 | _ :: _ :: _,e=>exact nsE e
theorem sF {ys:List It3} {f:D->D->Option (D × Fl)} {p:D × Fl} (e:c2 f (ys.map (·.d))=some p):∃ y z,ys=[y,z]/\f y.d z.d=some p:=by
 match ys,e with
 | [],e=>exact nsE e
 | [_],e=>exact nsE e
 | [y,z],e=>exact ⟨y,z,rfl,e⟩
 | _ :: _ :: _ :: _,e=>exact nsE e
def kA:D->Option (D × Fl)
 | .lst xs=>some (.int xs.length,.z)
 | .fls xs=>some (.int xs.length,.z)
 | .tup xs=>some (.int xs.length,.z)
 | _=>none
abbrev bZ:=c1 kA
theorem DK:eM K (fun xs H Q=>∃ p ys,xs=[.ref p]/\(SqL K H p ys\/SqT K H p ys)/\Q (.int ys.length) H) bZ:=fun ys H Q p ra e q=>by
 obtain ⟨y,rfl,f⟩:=io e
 clear e
 have e:=f
 clear f
 have d:=(ra y Ec).rep
 obtain ⟨da,h,g,i⟩:=y
 dsimp only at d e
 cases da <;> try (exact nsE e)
 ·rename_i xs
  obtain ⟨a,c,rfl,b,rs⟩:=d.view
  cases e
  exact ⟨a,c,rfl,.inr (SqT.of b),by rw [<- rs.len];exact q ⟨_,_,[],.z⟩ H (d7 (.int _)) rfl rfl⟩
 ·rename_i xs
  obtain ⟨a,c,g,rfl,rfl,b,rs⟩:=d.view
  cases e
  exact ⟨a,c,rfl,.inl (SqL.of b),by rw [<- rs.len];exact q ⟨_,_,[],.z⟩ H (d7 (.int _)) rfl rfl⟩
 ·rename_i xs
  obtain ⟨a,c,rfl,b,rs⟩:=d.view
  cases e
  exact ⟨a,c,rfl,.inl b.sq,by rw [<- rs.len];exact q ⟨_,_,[],.z⟩ H (d7 (.int _)) rfl rfl⟩
def vT:D->Option (D × Fl)
 | .lst xs=>some (.tup xs,.z)
 | .tup xs=>some (.tup xs,.z)
 | _=>none
abbrev lN:=c1 vT
theorem DI:eM K (fun xs H Q=>∃ p ys,xs=[.ref p]/\((SqL K H p ys/\∀ l,H l=none->Q (.ref l) (upd H l (.tup ys)))\/(SqT K H p ys/\Q (.ref p) H))) lN:=fun ys H Q p ra e q=>by
 obtain ⟨y,rfl,i⟩:=io e
 clear e
 have e:=i
 clear i
 have f:=ra y Ec
 have d:=f.rep
 obtain ⟨da,k,b,h⟩:=y
 dsimp only at d e
 cases da <;> try (exact nsE e)
 ·rename_i xs
  obtain ⟨a,g,rfl,c,rs⟩:=d.view
  cases e
  exact ⟨a,g,rfl,.inr ⟨SqT.of c,q ⟨.tup xs,.ref a,b,.z⟩ H (pJ (.tup c rs) (jl (y:=⟨.tup xs,.ref a,b,h⟩) Ec f rfl)) rfl rfl⟩⟩
 ·rename_i xs
  obtain ⟨a,g,b,rfl,rfl,c,rs⟩:=d.view
  cases e
  exact ⟨a,g,rfl,.inl ⟨SqL.of c,fun l j=>q ⟨.tup xs,.ref l,b,.z⟩ _ (uW j rs (nX (y:=⟨.lst xs,.ref a,a :: b,h⟩) Ec f rfl rfl)) rfl rfl⟩⟩
def x6:D->Option (D × Fl)
 | .lst xs=>some (.lst xs,.u)
 | .tup xs=>some (.lst xs,.u)
 | _=>none
abbrev u9:=c1 x6
theorem DJ:eM K (fun xs H Q=>∃ p ys,xs=[.ref p]/\(SqL K H p ys\/SqT K H p ys)/\∀ l,H l=none->Q (.ref l) (upd H l (.lst ys))) u9:=fun ys H Q p ra e q=>by
 obtain ⟨y,rfl,j⟩:=io e
 clear e
 have e:=j
 clear j
 have f:=ra y Ec
 have d:=f.rep
 obtain ⟨da,k,b,i⟩:=y
 dsimp only at d e
 cases da <;> try (exact nsE e)
 ·rename_i xs
  obtain ⟨a,h,rfl,g,rs⟩:=d.view
  cases e
  exact ⟨a,h,rfl,.inr (SqT.of g),fun l c=>q ⟨.lst xs,.ref l,l :: b,.u⟩ _ (rK c rs (jl (y:=⟨.tup xs,.ref a,b,i⟩) Ec f rfl)) rfl rfl⟩
 ·rename_i xs
  obtain ⟨a,h,b,rfl,rfl,g,rs⟩:=d.view
  cases e
  exact ⟨a,h,rfl,.inl (SqL.of g),fun l c=>q ⟨.lst xs,.ref l,l :: b,.u⟩ _ (rK c rs (nX (y:=⟨.lst xs,.ref a,a :: b,i⟩) Ec f rfl rfl)) rfl rfl⟩
def zb:D->Option (D × Fl)
 | .int i=>some (.int (if i < 0 then -i else i),.z)
 | _=>none
abbrev absD:=c1 zb
theorem Rep.int_inv {i:Int} (r:Rep K H (.int i) v L):v=.int i:=by cases r;rfl
theorem DM:eM K (fun xs H Q=>∃ i,xs=[.int i]/\Q (.int (if i < 0 then -i else i)) H) absD:=fun ys H Q p ra e q=>by
 obtain ⟨y,rfl,b⟩:=io e
 clear e
 have e:=b
 clear b
 have a:=(ra y Ec).rep
 obtain ⟨da,c,f,d⟩:=y
 dsimp only at a e
 cases a <;> try (exact nsE e)
 cases e
 exact ⟨_,rfl,q ⟨_,_,[],.z⟩ H (d7 (.int _)) rfl rfl⟩
def jn (C:Int->Int->Bool) (g:Int->Int->D):D->D->Option (D × Fl)
 | .int i,.int j=>if C i j then some (g i j,.z) else none
 | _,_=>none
theorem jN {a b:D} {C:Int->Int->Bool} {g:Int->Int->D} {p:D × Fl} (e:jn C g a b=some p):∃ i j,a=.int i/\b=.int j/\C i j=true/\p=(g i j,.z):=by
 cases a <;> cases b <;> try (exact nsE e)
 rename_i i j
 have e:(if C i j then some (g i j,Fl.z) else none)=some p:=e
 split at e
 ·rename_i h;cases e;exact ⟨i,j,rfl,rfl,h,rfl⟩
 ·exact nsE e
abbrev By:=c2 (jn oO fun i j=>.int (if j > i then j else i))
abbrev Bx:=c2 (jn oO fun i j=>.int (if j < i then j else i))
abbrev yM:=c2 (jn (fun _ j=>decide (0 < j/\j < 1073741824)) fun i j=>.tup [.int (i / j),.int (i % j)])
theorem AZ:eM K (fun xs H Q=>∃ i j,xs=[.int i,.int j]/\Q (.int (if j > i then j else i)) H) By:=fun ys H Q p ra e q=>by
 obtain ⟨y,z,rfl,c⟩:=sF e
 clear e
 have e:=c
 clear c
 obtain ⟨i,j,d,f,_,rfl⟩:=jN e
 have a:=(ra y Ec).rep
 have b:=(ra z (Ed _ Ec)).rep
 rw [d] at a
 rw [f] at b
 refine ⟨i,j,?_,q ⟨_,_,[],.z⟩ H (d7 (.int _)) rfl rfl⟩
 show [y.v,z.v]=_
 rw [a.int_inv,b.int_inv]
theorem AY:eM K (fun xs H Q=>∃ i j,xs=[.int i,.int j]/\Q (.int (if j < i then j else i)) H) Bx:=fun ys H Q p ra e q=>by
 obtain ⟨y,z,rfl,c⟩:=sF e
 clear e
 have e:=c
 clear c
 obtain ⟨i,j,d,f,_,rfl⟩:=jN e
 have a:=(ra y Ec).rep
 have b:=(ra z (Ed _ Ec)).rep
 rw [d] at a
 rw [f] at b
 refine ⟨i,j,?_,q ⟨_,_,[],.z⟩ H (d7 (.int _)) rfl rfl⟩
 show [y.v,z.v]=_
 rw [a.int_inv,b.int_inv]
theorem vC:eM K (fun xs H Q=>∃ i j,xs=[.int i,.int j]/\vP i j/\∀ p,H p=none->Q (.ref p) (upd H p (.tup [.int (i / j),.int (i % j)]))) yM:=fun ys H Q p ra e q=>by
 obtain ⟨y,z,rfl,f⟩:=sF e
 clear e
 have e:=f
 clear f
 obtain ⟨i,j,g,k,a,rfl⟩:=jN e
 have b:=(ra y Ec).rep
 have d:=(ra z (Ed _ Ec)).rep
 rw [g] at b
 rw [k] at d
 refine ⟨i,j,?_,by simpa [vP] using a,fun p h=>q ⟨_,.ref p,[],.z⟩ _ (uW h (L:=[]) (.cons (L:=[]) (.int _) (.cons (L:=[]) (.int _) .nil)) fun c a=>by cases a) rfl rfl⟩
 show [y.v,z.v]=_
 rw [b.int_inv,d.int_inv]
def iM:List D->Option (List Bool)
 | []=>some []
 | .bl b :: ds=>(iM ds).map (b :: ·)
 | _=>none
theorem qE:∀ {ds:List D} {bs:List Bool},iM ds=some bs->ds=bs.map D.bl
 | [],bs,e=>by cases e;rfl
 | d :: ds,bs,e=>by
  cases d <;> try (exact nsE e)
  rename_i b
  obtain ⟨r,h1,h2⟩:=Ef.mp (show (iM ds).map (b :: ·)=some bs from e)
  subst h2
  rw [qE h1];rfl
theorem Reps.bls:∀ {bs:List Bool} {a:List V} {L:List Addr},Reps (Rep K H) (bs.map D.bl) a L->a=bs.map V.bl
 | [],_,_,.nil=>rfl
 | b :: bs,_,_,.cons r rs=>by
  rw [Reps.bls rs]
  cases r;rfl
def DS:D->Option (D × Fl)
 | .lst xs=>(iM xs).map fun bs=>(.bl (bs.all id),.z)
 | _=>none
abbrev oM:=c1 DS
theorem DL:eM K (fun xs H Q=>∃ (a:Addr) (bs:List Bool),xs=[.ref a]/\SqL K H a (bs.map V.bl)/\Q (.bl (bs.all id)) H) oM:=fun ys H Q p ra e q=>by
 obtain ⟨y,rfl,c⟩:=io e
 clear e
 have e:=c
 clear c
 have b:=(ra y Ec).rep
 obtain ⟨da,h,d,i⟩:=y
 dsimp only at b e
 cases da <;> try (exact nsE e)
 rename_i xs
 obtain ⟨f,j,d,rfl,rfl,g,rs⟩:=b.view
 obtain ⟨bs,h1,h2⟩:=Ef.mp (show (iM xs).map (fun bs=>(D.bl (bs.all id),Fl.z))=some p from e)
 subst h2
 have:=qE h1
 subst this
 have:=rs.bls
 subst this
 exact ⟨f,bs,rfl,SqL.of g,q ⟨_,_,[],.z⟩ H (d7 (.bl _)) rfl rfl⟩
def cK (xs:List D) (lo hi:Option Int):List D:=(xs.drop (HT.sIx xs.length 0 lo)).take (HT.sIx xs.length xs.length hi - HT.sIx xs.length 0 lo)
end
end L3
end
section
namespace L3
open PySem L2
def sT:D->Option (List D)
 | .lst xs=>some xs
 | .fls xs=>some xs
 | .tup xs=>some xs
 | _=>none
def bW (m:EM):IM:=ae m fun r=>ae (der r) fun d=>aZ ((sT d).map fun ds=>([r],ds))
def iSeq (K:FG) (tl:TE):TI:=fun σ H R=>tl σ H fun x H1=>(∃ a,x=.ref a/\(∃ xs,SqL K H1 a xs)/\R (Itl K a) H1)\/∃ a,x=.ref a/\(∃ xs,SqT K H1 a xs)/\R (Itt K a) H1
theorem CS {X:Cx} {tg l:Expr} {tl:TE} (i:PE X l tl):PI X tg l (iSeq X.K tl):=by
 intro pins s σ H R I h
 exact thn (i pins s σ H _ I h) fun v s1 ⟨x,H1,c,g,j⟩=>by
   rcases j with ⟨a,e,⟨xs,f⟩,q⟩ | ⟨a,e,⟨xs,f⟩,q⟩
   ·subst e
    cases g
    obtain ⟨its,k,p,hz⟩:=c.list f
    refine wpAny_pyIter_list p.isList ?_
    refine ⟨s1.heap.objs.size,[s1.heap.objs.size],_,_,H1,rfl,c.kept (t':=s1.toks) fun b o e=>Ee _ e,ut a _,⟨_,Em _ rfl,rfl,rfl⟩,fun b d=>?_,q⟩
    have e:b=s1.heap.objs.size:=by simpa using d
    subst e
    exact c.fpOk (Eu _) (c.hok.fresh (Eu _))
   ·subst e
    cases g
    obtain ⟨its,k,p,hz⟩:=c.tuple f
    refine wpAny_pyIter_tuple (show s1.heap.IsTuple a its.toArray from p) ?_
    refine ⟨s1.heap.objs.size,[s1.heap.objs.size],_,_,H1,rfl,c.kept (t':=s1.toks) fun b o e=>Ee _ e,qM a _,⟨_,Em _ rfl,rfl,rfl⟩,fun b d=>?_,q⟩
    have e:b=s1.heap.objs.size:=by simpa using d
    subst e
    exact c.fpOk (Eu _) (c.hok.fresh (Eu _))
section
variable {K:FG} {G G0:Gm} {W W0:D->Sto->Prop} {H H':Hp} {σ:St} {ρ ρ':Sto} {T T':List It3} {g:Nat->Option It3} {x y z:It3} {α β:Type} {X:Cx}
theorem Ar.item2 {r:R3} {v:V} {Ts:List It3} {d:D} (w:Wf K G H σ ρ (Ts ++ T) g) (a:Ar σ r v Ts) (e:der r ρ=some (.ok d,ρ)):∃ y,y.d=d/\y.v=v/\((∃ i,i ∈ pls [r]/\g i=some y)\/y ∈ Ts):=by
 cases a with
 | @pl i v h =>
  have c:der (.pl i) ρ=((ρ[i]?).join).map fun p=>(.ok p.1,ρ):=rfl
  rw [c] at e
  cases q:(ρ[i]?).join with
  | none=>rw [q] at e;exact nsE e
  | some p =>
   rw [q] at e
   obtain ⟨y,e1,k,l,b⟩:=w.slot (d:=p.1) (f:=p.2) q
   have j:p.1=d:=by cases e;rfl
   rw [h] at b
   injection b with b
   injection b with b
   exact ⟨y,k.trans j,b.symm,.inl ⟨i,Ec,e1⟩⟩
 | val x=>cases e;exact ⟨x,rfl,rfl,.inr (by simp)⟩
theorem nk {J:It} {H1:Hp} {y:It3} {ds:List D} {g:List V} {k:List Addr} (m:Reps (Rep K H1) ds g k) (q:∀ c ∈ k,dm [y] c) (t:∀ c ∈ k,c ∈ y.L)
  (l:∀ (M:Addr->Prop) (H':Hp),(∀ b,M b->MutAt H1 b)->(∀ b o,H1 b=some o->¬ M b->H' b=some o)->(∀ b ∈ y.L,¬ M b)->(∀ (i:Nat) (v:V),g[i]?=some v->J.go i H'/\∀ x e,J.yld i H' x e->e=H'/\x=v)/\J.stop g.length H'):Walk K J H1 [y] ds:=by
 obtain ⟨ws,h1,h2,h3⟩:=Reps.split m
 refine ⟨ws,fun x h=>⟨(h3 x h).1,(h3 x h).2.1,fun c j=>q c ((h3 x h).2.2 c j)⟩,fun M H' hm f p=>?_⟩
 obtain ⟨go,stop⟩:=l M H' hm f (p y Ec)
 refine ⟨fun i d hd=>?_,by rw [m.len];exact stop⟩
 have hi:∃ u,ws[i]?=some u/\u.d=d:=by
  rw [<- h1,Et] at hd
  obtain ⟨u,a,b⟩:=Ef.mp hd
  exact ⟨u,a,b⟩
 obtain ⟨u,n,z⟩:=hi
 have r:g[i]?=some u.v:=by rw [<- h2,Et,n];rfl
 obtain ⟨g1,g2⟩:=go i u.v r
 refine ⟨g1,fun x e w=>?_⟩
 obtain ⟨e1,A⟩:=g2 x e w
 subst e1 A
 have hu:=Ep n
 refine ⟨u,⟨Same.refl _,(h3 u hu).2.1.keep f hm fun b s=>p y Ec b (t b ((h3 u hu).2.2 b s)),fun c j=>.inr ⟨u,hu,j⟩,fun hf=>absurd (h3 u hu).1 hf⟩,z,(h3 u hu).1,rfl⟩
theorem l5 {y:It3} {a:Addr} {ds:List D} {c:List V} (k:∀ H',SqL K H' a c->True) (f:∀ (M:Addr->Prop) (H':Hp),(∀ b,M b->MutAt H b)->(∀ b o,H b=some o->¬ M b->H' b=some o)->(∀ b ∈ y.L,¬ M b)->SqL K H' a c) :
  ∀ (M:Addr->Prop) (H':Hp),(∀ b,M b->MutAt H b)->(∀ b o,H b=some o->¬ M b->H' b=some o)->(∀ b ∈ y.L,¬ M b)->(∀ (i:Nat) (v:V),c[i]?=some v->(Itl K a).go i H'/\∀ x d,(Itl K a).yld i H' x d->d=H'/\x=v)/\(Itl K a).stop c.length H':=fun M H' hm g h=>by
 have sq:SqL K H' a c:=f M H' hm g h
 refine ⟨fun i v e=>⟨⟨c,v,sq,e⟩,fun x d ⟨e1,j⟩=>⟨e1,?_⟩⟩,⟨c,sq,Eu _⟩⟩
 have:=j c sq
 rw [e] at this
 injection this with this
 exact this.symm
theorem BY {m:EM} {R:It->Hp->Prop} (h:tI K G0 W0 (bW m) σ H R):iSeq K (tE K G0 W0 m) σ H R:=by
 obtain ⟨G,W,le,ρ,T,g,o,ρ',w,e,q⟩:=h
 have l:∀ x,o=.error x->W x ρ':=fun x N=>by subst N;exact q
 refine tE.seq le w e l fun ra ρ1 e1 v H1 ⟨Ts,g1,B,a1⟩=>?_
 obtain ⟨d,d1,u⟩:=aS e1
 obtain ⟨p,L,rfl,rfl⟩:=bP u
 obtain ⟨ds,r,P⟩:=Ef.mp L
 subst P
 obtain ⟨y,V,S,F⟩:=a1.item2 B d1
 have U:Itm (Ts ++ T) g1 y:=by
  rcases F with ⟨i,_,Q⟩ | h
  ·exact .inl ⟨i,Q⟩
  ·exact .inr (Eg _ h)
 have E:=(B.itm U).arg
 have C:∀ J,Walk K J H1 [y] ds->R J H1:=fun J hw=>q J H1 [v] Ts g1 [y] B (by simpa using Ars.cons a1 .nil) (fun z hz=>by rw [EJ.mp hz];exact F) hw
 clear e1 u L q
 subst V S
 have f:=E
 obtain ⟨da,X,s,A⟩:=y
 obtain ⟨t,Y⟩:=E
 dsimp only at t r
 cases da with
 | tup xs =>
  obtain ⟨a,j,rfl,b,rs⟩:=t.view
  cases r
  refine .inr ⟨a,rfl,⟨_,SqT.of b⟩,C _ (nk rs (jl (y:=⟨.tup ds,.ref a,s,A⟩) Ec f rfl) (fun c n=>n) fun M H' hm k D=>?_)⟩
  have sq:SqT K H' a j:=SqT.of (k a _ b fun z=>(hm a z).notup b)
  refine ⟨fun i v I=>⟨⟨j,v,sq,I⟩,fun x O ⟨e1,u⟩=>⟨e1,?_⟩⟩,⟨j,sq,Eu _⟩⟩
  have:=u j sq
  rw [I] at this
  injection this with this
  exact this.symm
 | lst xs =>
  obtain ⟨a,j,s,rfl,rfl,b,rs⟩:=t.view
  cases r
  refine .inl ⟨a,rfl,⟨_,SqL.of b⟩,C _ (nk rs (nX (y:=⟨.lst ds,.ref a,a :: s,A⟩) Ec f rfl rfl) (fun c n=>Ed _ n) (l5 (ds:=ds) (fun _ _=>trivial) fun M H' hm k D=>SqL.of (k a _ b (D a Ec))))⟩
 | fls xs =>
  obtain ⟨a,j,rfl,b,rs⟩:=t.view
  cases r
  refine .inl ⟨a,rfl,⟨_,b.sq⟩,C _ (nk rs (jl (y:=⟨.fls ds,.ref a,s,A⟩) Ec f rfl) (fun c n=>n) (l5 (ds:=ds) (fun _ _=>trivial) fun M H' hm k D=>(b.keep k hm).sq))⟩
 | _=>exact nsE r
theorem Ct {tg l:Expr} {m:EM} (h:RE X G0 W0 l m):RI X G0 W0 tg l (bW m):=⟨PI.imp (CS h.h) fun _ _ _ h=>BY h⟩
def bh (lo:Int) (n:Nat):List D:=(List.range n).map fun (k:Nat)=>D.int (lo+(k:Int))
theorem oP {H1:Hp} {ys:List It3} {lo:Int} {n:Nat}:Walk K (Itr lo n) H1 ys (bh lo n):=by
 refine ⟨[],fun x f=>(by cases f),fun M H' _ _ _=>⟨fun i d hd=>?_,?_⟩⟩
 ·unfold bh at hd
  rw [Et] at hd
  obtain ⟨k,a,b⟩:=Ef.mp hd
  obtain ⟨c,e⟩:=Eo.mp a
  rw [List.getElem_range] at e
  subst e
  rw [List.length_range] at c
  refine ⟨c,fun x g ⟨e1,h⟩=>?_⟩
  subst e1
  exact ⟨⟨d,x,[],.z⟩,d7 (by rw [<- b,h];exact .int _),rfl,rfl,rfl⟩
 ·show n<=(bh lo n).length
  unfold bh
  simp
def gf (j:Int):Bool:=decide (-(2 ^ 62)<=j/\j < 2 ^ 62)
def cH:List D->Option (List D)
 | [.int j]=>if gf j then some (bh 0 j.toNat) else none
 | _=>none
def k8:List D->Option (List D)
 | [.int i,.int j]=>if gf i && gf j then some (bh i (j - i).toNat) else none
 | _=>none
def bD (f:List D->Option (List D)) (ms:M3 (List R3)):IM:=ae ms fun rs=>ae (cJ rs) fun ds=>aZ ((f ds).map fun xs=>([],xs))
theorem zu {ms:M3 (List R3)} {R:It->Hp->Prop} (h:tI K G0 W0 (bD cH ms) σ H R):BB (tA K G0 W0 ms) σ H R:=by
 obtain ⟨G,W,le,ρ,T,g,o,ρ',w,e,q⟩:=h
 have b:∀ x,o=.error x->W x ρ':=fun x f=>by subst f;exact q
 refine tA.seq le w e b fun rs ρ1 e1 t H1 Ts g1 i a1=>?_
 obtain ⟨ds,d1,s⟩:=bU e1
 obtain ⟨p,n,rfl,rfl⟩:=bP s
 obtain ⟨xs,a,m⟩:=Ef.mp n
 subst m
 obtain ⟨ys,k,f1,f2⟩:=a1.items i (fun x f=>Eg _ f) d1
 subst f1 f2
 match ys,a,k,a1 with
 | [],a,_,_=>exact nsE a
 | y :: z :: r,a,_,_=>cases hd:y.d <;> (rw [Ey,Ey,hd] at a;exact nsE a)
 | [y],a,k,a1 =>
  have l:=(i.itm (k y Ec)).rep
  cases hd:y.d <;> (rw [Ey,hd] at a;try (exact nsE a))
  rename_i j
  rw [hd] at l
  have a:(if gf j then some (bh 0 j.toNat) else none)=some xs:=a
  split at a
  ·rename_i c
   cases a
   have c:=of_decide_eq_true c
   refine ⟨j,by show [y.v]=_;rw [l.int_inv],c.1,c.2,?_⟩
   exact q _ H1 [] [] g1 [] (i.sub (Er Ts T)) .nil (fun _ h=>by cases h) oP
  ·exact nsE a
theorem zt {ms:M3 (List R3)} {R:It->Hp->Prop} (h:tI K G0 W0 (bD k8 ms) σ H R):BA (tA K G0 W0 ms) σ H R:=by
 obtain ⟨G,W,le,ρ,T,g,o,ρ',w,e,q⟩:=h
 have b:∀ x,o=.error x->W x ρ':=fun x l=>by subst l;exact q
 refine tA.seq le w e b fun rs ρ1 e1 E H1 Ts g1 c a1=>?_
 obtain ⟨ds,d1,C⟩:=bU e1
 obtain ⟨p,B,rfl,rfl⟩:=bP C
 obtain ⟨xs,t,A⟩:=Ef.mp B
 subst A
 obtain ⟨ys,f,f1,f2⟩:=a1.items c (fun x l=>Eg _ l) d1
 subst f1 f2
 have inv:∀ {ds:List D},k8 ds=some xs->∃ i j,ds=[.int i,.int j]/\gf i=true/\gf j=true/\xs=bh i (j - i).toNat:=fun {ds} h=>by
  unfold k8 at h
  split at h
  ·rename_i i j
   split at h
   ·rename_i m
    cases h
    simp only [Bool.and_eq_true] at m
    exact ⟨i,j,rfl,m.1,m.2,rfl⟩
   ·exact nsE h
  ·exact nsE h
 obtain ⟨i,j,a,hi,k,rfl⟩:=inv t
 match ys,a,f,a1 with
 | [],a,_,_=>cases a
 | [y],a,_,_=>exact absurd (congrArg List.length a) (by simp)
 | y :: z :: u :: r,a,_,_=>exact absurd (congrArg List.length a) (by simp)
 | [y,z],a,f,a1 =>
  have n:=(c.itm (f y Ec)).rep
  have s:=(c.itm (f z (Ed _ Ec))).rep
  have h1:y.d=.int i:=by injection a
  have h2:z.d=.int j:=by injection a with _ h;injection h
  rw [h1] at n
  rw [h2] at s
  have hi:=of_decide_eq_true hi
  have k:=of_decide_eq_true k
  refine ⟨i,j,by show [y.v,z.v]=_;rw [n.int_inv,s.int_inv],⟨hi.1,hi.2,k.1,k.2⟩,?_⟩
  exact q _ H1 [] [] g1 [] (c.sub (Er Ts T)) .nil (fun _ h=>by cases h) oP
theorem zX {tg a:Expr} {p pos:Pos} {ms:M3 (List R3)} (d:Gl X "range") (hm:X.mg "range"=none) (b:RA X G0 W0 [a] ms) (c:starEach [a] X.env=[(false,eval a X.env)]):RI X G0 W0 tg (.Call (.Name "range" p) [a] [] pos) (bD cH ms):=⟨PI.imp (uR d hm b.h c) fun _ _ _ h=>zu h⟩
theorem zW {tg a b:Expr} {p pos:Pos} {ms:M3 (List R3)} (e:Gl X "range") (hm:X.mg "range"=none) (d:RA X G0 W0 [a,b] ms) (f:starEach [a,b] X.env=[(false,eval a X.env),(false,eval b X.env)]) (c:starEach [b] X.env=[(false,eval b X.env)]):RI X G0 W0 tg (.Call (.Name "range" p) [a,b] [] pos) (bD k8 ms):=⟨PI.imp (uQ e hm d.h f c) fun _ _ _ h=>zt h⟩
end
end L3
end
section
namespace L3
open PySem L2
section
variable {K:FG} {G G0:Gm} {W W0:D->Sto->Prop} {H H':Hp} {σ:St} {ρ ρ':Sto} {T T':List It3} {g:Nat->Option It3} {x y z:It3} {α β:Type} {X:Cx} {L:List Addr}
def lR (bnd:D->Sto->Option Sto) (m:EM):SM:=ae m fun r=>ae (cW r) fun p=>fun ρ=>(bnd p.1 ρ).map fun ρ1=>(.ok .nx,ρ1)
theorem BV {bnd:D->Sto->Option Sto} {tg:TG} {m:EM} {E:Ends} (i:Bnd K G0.pr tg bnd) (h:tS K G0 W0 (lR bnd m) E σ H):wc (tE K G0 W0 m) tg E σ H:=by
 refine h.use fun G W le ρ T g r ρ' w e q=>?_
 refine tE.seq le w e q.err fun ra ρ1 e1 v H1 ⟨Ts,g1,j,a1⟩=>?_
 obtain ⟨p,ρ2,g2,x,n,l,f1,_,_,a⟩:=a1.take j e1
 have b:=Wf.lowT (Ts:=[x]) l
 obtain ⟨ρ3,k,c⟩:=Ef.mp n
 cases c
 rw [<- a]
 exact i G H1 σ ρ2 _ T g2 (dj x) _ le.pr rfl b (by show bnd x.d ρ2=_;rw [f1];exact k) fun σ2 g3 f=>q _ _ _ f
theorem Cr {tg e:Expr} {pos:Pos} {bnd:D->Sto->Option Sto} {m:EM} (d:RG X G0.pr tg bnd) (he:RE X G0 W0 e m) (c:swapsWithSole [tg] e pos.line X.env=pure false) (hw:swappedStores [tg] e X.env=pure none) (h1:(assignEach [tg] X.env).map (·.2)=[assign tg X.env]):RS X G0 W0 (.Assign [tg] e pos) (lR bnd m):=by
 obtain ⟨g,a,b⟩:=d.h
 exact ⟨PS.imp (xr he.h a c hw h1) fun _ _ _ h=>BV b h⟩
theorem re {i:Nat} {y:Str} {py a:Pos} {elt tg iter:Expr} {ifs:List Expr} {scope:Scope} {pos:Pos} {im:IM} {bnd:D->Sto->Option Sto} {f:M3 Bool} {em:EM} (o:X.N.Nodup) (m:X.N[i]?=some y) (g:Loc X.env.scope y) (NY:List Str) (ix:List (Option Nat)) (k:X.calm=true) (hi:RI X G0 W0 tg iter im)
  (p:∀ s H C fp,PTs (aN X NY scope s H C fp) ifs (tT X.K (bo ix) noX f)) (he:∀ s H C fp,RE (aN X NY scope s H C fp) (bo ix) noX elt em)
  (l:ie scope X.N X.env.scope NY ix=true) (e:Inj ix) (d:swapsWith (.ListComp elt [⟨tg,iter,ifs,0⟩] scope pos) (some (.Name y py)) a.line X.env=pure true) (hf:X.fn y=true\/X.env.scope.names.lookup y=some .local)
  (j:∀ x,foldedSetIterable iter X.env x=pure x) (n:G0.pr i=false) (c:∃ b,Bnd X.K (bo ix).pr b bnd/\∀ s H C fp,PG (aN X NY scope s H C fp) tg b):RS X G0 W0 (.Assign [.Name y py] (.ListComp elt [⟨tg,iter,ifs,0⟩] scope pos) a) (aP i (bx im bnd f em ix)):=by
 obtain ⟨b,b1,b2⟩:=c
 exact ⟨PS.imp (rz o m g NY ix k hi.h b2 p (fun s H C fp=>(he s H C fp).h) l d hf j) fun _ _ _ h=>qS szl e b1 n h⟩
def isL:D->Bool
 | .lst _=>true
 | _=>false
theorem yp:∀ d v L H,isL d=true->Rep K H d v L->tyV K "list" v H:=fun d v L H h r=>by
 cases r with
 | lst ha _=>exact .inl ⟨rfl,_,SqL.of ha⟩
 | _=>cases h
def vL:D->List D->Option (D × D)
 | .lst xs,[d]=>if xs.length < 16777216 then some (.lst (xs ++ [d]),.non) else none
 | _,_=>none
theorem Dl:MutD K tF vL:=fun a d k as H Q p r m na ra i e q=>by
 cases d with
 | lst xs =>
  obtain ⟨_,g,_,e1,w,l,rs⟩:=r.view
  cases e1
  cases w
  match as,e,ra,i with
  | [],e,_,_=>exact nsE e
  | _ :: _ :: _,e,_,_=>exact nsE e
  | [y],e,ra,i =>
   have e:(if xs.length < 16777216 then some (D.lst (xs ++ [y.d]),D.non) else none)=some p:=e
   split at e
   ·rename_i s
    cases e
    refine ⟨a,g,y.v,rfl,rfl,l,by rw [<- rs.len,<- szl];exact s,?_⟩
    have t:=ra y Ec
    have u:=i y Ec
    have ma:MutAt H a:=.inl ⟨_,l⟩
    have keep:∀ {d v L},Rep K H d v L->a ∉ L->Rep K (upd H a (.lst (g ++ [y.v]))) d v L:=fun {d v L} r n=>r.keep (M:=fun b=>b=a) (fun b o f h=>by rw [aw h];exact f) (fun b e=>by rw [e];exact ma) fun b f e=>n (by rw [<- e];exact f)
    have keeps:Reps (Rep K (upd H a (.lst (g ++ [y.v])))) xs g k:=rs.keep (M:=fun b=>b=a) (fun b o f h=>by rw [aw h];exact f) (fun b e=>by rw [e];exact ma) fun b f e=>na (by rw [<- e];exact f)
    exact q (.lst (g ++ [y.v])) (k ++ (y.L ++ [])) ⟨.non,.non,[],.z⟩ (.lst aJ (keeps.append (.cons (keep t u) .nil))) rfl (fun c j=>by
     rcases El.mp j with h | h
     ·exact .inl h
     ·rw [List.append_nil] at h;exact .inr ⟨y,Ec,h⟩) rfl rfl .non fun c j=>by cases j
   ·exact nsE e
 | _=>exact nsE e
def yF:D->List D->Option (D × D)
 | .lst xs,[.lst ys]=>if xs.length+ys.length<=16777216 then some (.lst (xs ++ ys),.non) else none
 | _,_=>none
theorem ext2 {xs:List D} (a:D) {b:D} {r:List D}:yF (.lst xs) (a :: b :: r)=none:=by cases a <;> rfl
theorem Dk:MutD K tw yF:=fun a d A as H Q p r m na ra l e q=>by
 cases d with
 | lst xs =>
  obtain ⟨_,j,_,e1,B,u,rs⟩:=r.view
  cases e1
  cases B
  match as,e,ra,l with
  | [],e,_,_=>exact nsE e
  | y :: _ :: _,e,_,_=>exact nsE ((ext2 y.d).symm.trans e)
  | [y],e,ra,l =>
   have s:=ra y Ec
   have t:=l y Ec
   obtain ⟨x,E,C,F⟩:=y
   dsimp only at s t e
   cases x with
   | lst ys =>
    obtain ⟨b,ws,w,rfl,rfl,g,i⟩:=s.view
    have e:(if xs.length+ys.length<=16777216 then some (D.lst (xs ++ ys),D.non) else none)=some p:=e
    split at e
    ·rename_i v
     cases e
     refine ⟨a,b,j,ws,rfl,rfl,u,g,by rw [<- rs.len,<- i.len,<- szl];exact v,?_⟩
     have ma:MutAt H a:=.inl ⟨_,u⟩
     have keeps:∀ {ds f L},Reps (Rep K H) ds f L->a ∉ L->Reps (Rep K (upd H a (.lst (j ++ ws)))) ds f L:=fun {ds f L} r n=>r.keep (M:=fun b=>b=a) (fun b o g h=>by rw [aw h];exact g) (fun b e=>by rw [e];exact ma) fun b g e=>n (by rw [<- e];exact g)
     exact q (.lst (j ++ ws)) (A ++ w) ⟨.non,.non,[],.z⟩ (.lst aJ ((keeps rs na).append (keeps i fun h=>t (Ed _ h)))) rfl (fun c k=>by
      rcases El.mp k with h | h
      ·exact .inl h
      ·exact .inr ⟨_,Ec,Ed _ h⟩) rfl rfl .non fun c k=>by cases k
    ·exact nsE e
   | _=>exact nsE e
 | _=>exact nsE e
def o6:D->List D->Option (D × D)
 | .lst xs,[.int i,d]=>(ixN xs.length i).map fun j=>(.lst (xs.set j d),.non)
 | _,_=>none
theorem Reps.set:∀ {ds:List D} {b:List V} {L L':List Addr} {d:D} {v:V} (j:Nat),Reps (Rep K H) ds b L->Rep K H d v L'->∃ L2,Reps (Rep K H) (ds.set j d) (b.set j v) L2/\∀ c ∈ L2,c ∈ L\/c ∈ L'
 | _,_,_,_,_,_,j,.nil,_=>⟨[],.nil,fun c a=>by cases a⟩
 | _,_,_,L',_,_,0,.cons (L:=L1) (L':=L1') r rs,r'=>⟨L' ++ L1',.cons r' rs,fun c a=>by
  rcases El.mp a with h | h
  ·exact .inr h
  ·exact .inl (Eh _ h)⟩
 | _,_,_,L',_,_,j+1,.cons (L:=L1) (L':=L1') r rs,r'=>by
  obtain ⟨L2,h1,h2⟩:=Reps.set j rs r'
  refine ⟨L1 ++ L2,.cons r h1,fun c a=>?_⟩
  rcases El.mp a with h | h
  ·exact .inl (Eg _ h)
  ·rcases h2 c h with h | h
   ·exact .inl (Eh _ h)
   ·exact .inr h
theorem set1 {xs:List D} (a:D):o6 (.lst xs) [a]=none:=by cases a <;> rfl
theorem set3' {xs:List D} (a:D) {b c:D} {r:List D}:o6 (.lst xs) (a :: b :: c :: r)=none:=by cases a <;> rfl
theorem AD:MutD K (lc tu) o6:=fun a d A as H Q p r m na ra s e q=>by
 cases d with
 | lst xs =>
  obtain ⟨_,g,_,e1,C,u,rs⟩:=r.view
  cases e1
  cases C
  match as,e,ra,s with
  | [],e,_,_=>exact nsE e
  | [y],e,_,_=>exact nsE ((set1 y.d).symm.trans e)
  | y :: _ :: _ :: _,e,_,_=>exact nsE ((set3' y.d).symm.trans e)
  | [k,y],e,ra,s =>
   have t:=ra k Ec
   have w:=ra y (Ed _ Ec)
   have B:=s y (Ed _ Ec)
   obtain ⟨kd,F,G,E⟩:=k
   dsimp only at t
   cases kd with
   | int i =>
    obtain ⟨rfl,rfl⟩:=t.view
    obtain ⟨j,h1,h2⟩:=Ef.mp (show (ixN xs.length i).map (fun j=>(D.lst (xs.set j y.d),D.non))=some p from e)
    subst h2
    refine ⟨.int i,y.v,rfl,a,g,i,j,rfl,rfl,u,by rw [<- rs.len];exact h1,?_⟩
    have ma:MutAt H a:=.inl ⟨_,u⟩
    have n:Rep K (upd H a (.lst (g.set j y.v))) y.d y.v y.L:=w.keep (M:=fun b=>b=a) (fun b o f h=>by rw [aw h];exact f) (fun b e=>by rw [e];exact ma) fun b f e=>B (by rw [<- e];exact f)
    have keeps:Reps (Rep K (upd H a (.lst (g.set j y.v)))) xs g A:=rs.keep (M:=fun b=>b=a) (fun b o f h=>by rw [aw h];exact f) (fun b e=>by rw [e];exact ma) fun b f e=>na (by rw [<- e];exact f)
    obtain ⟨L2,h3,x⟩:=keeps.set j n
    exact q (.lst (g.set j y.v)) L2 ⟨.non,.non,[],.z⟩ (.lst aJ h3) rfl (fun c l=>(x c l).imp id fun h=>⟨y,Ed _ Ec,h⟩) rfl rfl .non fun c l=>by cases l
   | _=>exact nsE e
 | _=>exact nsE e
theorem tf {i:Nat} {x:Str} {pn apos cpos:Pos} {id:String} {nm:Str} {Ty:String} {e:Expr} {es:List Expr} {ok:D->Bool} {r:V->List V->Hp->VK->Prop} {f:D->List D->Option (D × D)} {ms:M3 (List R3)} (n:PlainAttrs Ty) (slot:Slot Ty nm id) (j:typeOf (.builtin id)=pure (.type "method_descriptor")) (hm:MtR X id r) (k:MutD X.K r f) (hok:∀ d v L H,ok d=true->Rep X.K H d v L->tyV X.K Ty v H)
  (l:PE X (.Name x pn) (uy i)) (o:RA X G0 W0 (e :: es) ms) (b:attributeBase (.Name x pn) nm X.env (eval (.Name x pn) X.env)=eval (.Name x pn) X.env)
  (g:((backTo cpos (starEach (e :: es) X.env)).all (fun x=>!x.1) && (backToKw cpos (keywordEach [] X.env)).all (fun x=>x.1.isSome) && decide ((e :: es).length+([]:List Keyword).length+(if ([]:List Keyword).isEmpty then 0 else 1) < 30))=true)
  (c:(apos.endLine == cpos.line)=true) (m:starEach (e :: es) X.env=(false,eval e X.env) :: starEach es X.env) (a:(backTo cpos (starEach es X.env)).any (·.1)=false):RE X G0 W0 (.Call (.Attribute (.Name x pn) nm apos) (e :: es) [] cpos) (rS ok f i ms) :=
 ⟨PE.imp (pe_bm n slot j hm l o.h b g c m a) fun _ _ _ h=>B4 k hok h⟩
theorem Co {i:Nat} {x:Str} {pn p2 pos:Pos} {k e:Expr} {mk b:EM} {t:vO} {f:D->List D->Option (D × D)} (g:ze X t) (c:MutD X.K (lc t) f) (d:PE X (.Name x pn) (uy i)) (j:RE X G0 W0 k mk) (l:RE X G0 W0 e b)
  (m:∀ v,assign (.Subscript (.Name x pn) k p2) X.env v=(do
   let ov <- holding [v] (eval (.Name x pn) X.env)
   let a <- holding [v,ov] (eval k X.env)
   standAt p2
   holding [v,ov,a] (setItem ov a v)
   release [v,ov,a] []))
  (h1:swapsWithSole [.Subscript (.Name x pn) k p2] e pos.line X.env=pure false) (h2:swappedStores [.Subscript (.Name x pn) k p2] e X.env=pure none) (h3:(assignEach [.Subscript (.Name x pn) k p2] X.env).map (·.2)=[assign (.Subscript (.Name x pn) k p2) X.env]):RS X G0 W0 (.Assign [.Subscript (.Name x pn) k p2] e pos) (lQ f i mk b) :=
 ⟨PS.imp (xr l.h (CT d j.h g m) h1 h2 h3) fun _ _ _ h=>BP c h⟩
end
end L3
end
section
namespace L3
open PySem L2
section
variable {K:FG} {G G0:Gm} {W W0:D->Sto->Prop} {H H':Hp} {σ:St} {ρ ρ':Sto} {T T':List It3} {g:Nat->Option It3} {x y z:It3} {α β:Type} {X:Cx} {L:List Addr}
theorem wT {Y:Cx} {ix:List (Option Nat)}:PTs Y [] (tT K (bo ix) noX b7):=fun pins s σ H Q I h=>z9 pins s σ H Q I (BN h)
theorem wS {Y:Cx} {c:Expr} {ix:List (Option Nat)} {m:M3 Bool} (h:RT Y (bo ix) noX c m):PTs Y [c] (tT Y.K (bo ix) noX m):=z8 h.h
theorem rZ {ix:List (Option Nat)} (h:(ix.filterMap id).Nodup):Inj ix:=by
 intro j k i a b
 induction ix generalizing j k with
 | nil=>simp at a
 | cons o ix ih =>
  cases o with
  | none =>
   have h':(ix.filterMap id).Nodup:=by simpa using h
   cases j with
   | zero=>simp at a
   | succ j =>
    cases k with
    | zero=>simp at b
    | succ k=>rw [ih h' j k (by simpa using a) (by simpa using b)]
  | some c =>
   have h':(c :: ix.filterMap id).Nodup:=by simpa using h
   obtain ⟨n,d⟩:=List.nodup_cons.mp h'
   have mem:∀ m:Nat,ix[m]?=some (some c)->False:=fun m e=>n (List.mem_filterMap.mpr ⟨some c,Ep e,rfl⟩)
   cases j with
   | zero =>
    simp at a
    cases k with
    | zero=>rfl
    | succ k=>subst a;exact (mem k (by simpa using b)).elim
   | succ j =>
    cases k with
    | zero=>simp at b;subst b;exact (mem j (by simpa using a)).elim
    | succ k=>rw [ih d j k (by simpa using a) (by simpa using b)]
def wB:SM:=fun _=>none
theorem wR {st:Stmt}:RS X G0 W0 st wB:=⟨PS.imp xq fun _ _ _ h=>by
 refine h.use fun G W le ρ T g r ρ' w e q=>?_
 cases e⟩
theorem wa {r O:R2} {f t:D->D->Option (D × Fl)} {ma mb mc:EM} {Q:VK} (ho:OpD K r f) (n:OpD K O t) (h:tE K G0 W0 (di f t ma mb mc) σ H Q):qT r O (tE K G0 W0 ma) (tE K G0 W0 mb) (tE K G0 W0 mc) σ H Q:=by
 refine h.use fun G W le ρ T g o ρ' w e q=>?_
 refine tE.seq le w e q.err fun ra ρ1 e1 va H1 ⟨Ts,g1,w1,a1⟩=>?_
 refine tE.seq le w1 e1 q.err fun rb ρ2 e2 vb H2 ⟨Us,g2,j,a2⟩=>?_
 obtain ⟨da,d1,e3⟩:=aS e2
 obtain ⟨db,d2,e4⟩:=aS e3
 obtain ⟨k,e5,A⟩:=jI e4
 obtain ⟨L,Y,f1,f2⟩:=a1.item j (fun x b=>Eh _ (Eg _ b)) d1
 obtain ⟨M,P,f3,f4⟩:=a2.item j (fun x b=>Eg _ b) d2
 obtain ⟨p,X,e8⟩:=EI.mp e5
 have hp:=y8 e8
 subst f1 f2 f4
 rw [<- f3] at X
 refine ho L M H2 _ p (j.itm Y).arg (j.itm P).arg X fun u H3 U ud uf=>?_
 have w3:=j.push U fun c h=>j.kids (ys:=[L,M]) (fun y i=>by
  rcases Ei.mp i with h | i
  ·rw [h];exact Y
  ·rw [EJ.mp i];exact P) h
 have Z:=U.rep
 rw [ud,hp] at Z
 refine ⟨k,Z.bl_eq.1,?_⟩
 have J:=w3.sub (List.sublist_cons_self u _)
 cases k with
 | false =>
  cases A
  have d:=J.sub (T':=T) ((Er Ts T).trans (Er Us _))
  exact q _ _ (d.const (.bl false))
 | true =>
  simp only [if_true] at A ⊢
  refine tE.seq le J A q.err fun rc ρ5 e9 vc H5 ⟨m,I,d,a5⟩=>?_
  obtain ⟨B,d3,C⟩:=aS e9
  obtain ⟨dc,d4,E⟩:=aS C
  obtain ⟨p',a,rfl,rfl⟩:=bP E
  obtain ⟨l,N,f5,f6⟩:=a2.item d (fun x b=>Eh _ (Eg _ b)) d3
  obtain ⟨S,V,f7,f8⟩:=a5.item d (fun x b=>Eg _ b) d4
  cases v:t B dc with
  | none=>rw [v] at a;exact nsE a
  | some s =>
   rw [v] at a
   cases a
   have R:=d
   rw [show m ++ (Us ++ (Ts ++ T))=(m ++ (Us ++ Ts)) ++ T by simp] at R
   have F:Itm ((m ++ (Us ++ Ts)) ++ T) I l:=by simpa using N
   have z:Itm ((m ++ (Us ++ Ts)) ++ T) I S:=by simpa using V
   rw [<- f6,<- f8]
   refine n l S H5 Q s (d.itm N).arg (d.itm V).arg (by rw [f5,f7];exact v) (m4 R (fun y i=>?_) q)
   rcases Ei.mp i with h | i
   ·rw [h];exact F
   ·rw [EJ.mp i];exact z
theorem ph {op d:CmpOp} {r g:R2} {f i:D->D->Option (D × Fl)} {a b c:Expr} {pos:Pos} {ma mb mc:EM} (n:OpR X (compareOp op) r) (hd:OpD X.K r f) (j:OpR X (compareOp d) g) (e:OpD X.K g i) (l:RE X G0 W0 a ma) (k:RE X G0 W0 b mb) (m:RE X G0 W0 c mc)
  (h:PE X a (tE X.K G0 W0 ma)->PE X b (tE X.K G0 W0 mb)->PE X c (tE X.K G0 W0 mc)->PE X (.Compare a [op,d] [b,c] pos) (qT r g (tE X.K G0 W0 ma) (tE X.K G0 W0 mb) (tE X.K G0 W0 mc))):RE X G0 W0 (.Compare a [op,d] [b,c] pos) (di f i ma mb mc):=⟨PE.imp (h l.h k.h m.h) fun _ _ _ h=>wa hd e h⟩
theorem k7 {op:CmpOp} {r:R2} {f:D->D->Option (D × Fl)} {a b:Expr} {pos:Pos} {ma mb:EM} (c:OpR X (compareOp op) r) (hd:OpD X.K r f) (e:RE X G0 W0 a ma) (d:RE X G0 W0 b mb) (hm:behindInMarks op b=false):RT X G0 W0 (.Compare a [op] [b] pos) (cB (ah f ma mb)):=⟨PT.imp (Aa c e.h d.h hm) fun _ _ _ h=>nq hd (tT_b h)⟩
def ib (n:Nat):List D->List D
 | []=>[]
 | d :: ds=>.tup [.int n,d] :: ib (n+1) ds
theorem jR:∀ {ds:List D} {n i:Nat},(ib n ds)[i]?=(ds[i]?).map fun d=>.tup [.int ((n+i:Nat):Int),d]
 | [],n,i=>by simp [ib]
 | d :: ds,n,0=>by simp [ib]
 | d :: ds,n,i+1=>by
  show (ib (n+1) ds)[i]?=_
  rw [jR]
  simp only [List.getElem?_cons_succ]
  rw [show n+1+i=n+(i+1) by omega]
theorem jQ:∀ {ds:List D} {n:Nat},(ib n ds).length=ds.length
 | [],_=>rfl
 | d :: ds,n=>by simp [ib,jQ]
def lz (ms:M3 (List R3)):IM:=ae ms fun rs=>ae (cJ rs) fun ds=>aZ (match ds with
 | [.lst xs]=>some (rs,ib 0 xs)
 | _=>none)
theorem zv {ms:M3 (List R3)} {R:It->Hp->Prop} (h:tI K G0 W0 (lz ms) σ H R):BC K (tA K G0 W0 ms) σ H R:=by
 obtain ⟨G,W,le,ρ,T,g,o,ρ',w,e,q⟩:=h
 have m:∀ x,o=.error x->W x ρ':=fun x l=>by subst l;exact q
 refine tA.seq le w e m fun rs ρ1 e1 j H1 Ts g1 B a1=>?_
 obtain ⟨ds,d1,E⟩:=bU e1
 obtain ⟨p,s,rfl,rfl⟩:=bP E
 have inv:∃ xs,ds=[.lst xs]/\p=(rs,ib 0 xs):=by
  split at s
  ·cases s;exact ⟨_,rfl,rfl⟩
  ·exact nsE s
 obtain ⟨xs,rfl,rfl⟩:=inv
 match rs,d1,a1,q with
 | [],d1,_,_=>cases d1
 | r :: r' :: rs,d1,_,_ =>
  obtain ⟨_,_,f⟩:=aS (k:=fun d=>ae (cJ (r' :: rs)) fun ds=>aW (d :: ds)) d1
  obtain ⟨ab,e6,e7⟩:=bU f
  obtain ⟨_,_,e8⟩:=aS (k:=fun d=>ae (cJ rs) fun ds=>aW (d :: ds)) e6
  obtain ⟨ax,_,e9⟩:=bU e8
  cases e9
  cases e7
 | [r],d1,a1,q =>
  obtain ⟨d,C,f⟩:=aS (k:=fun d=>ae (cJ []) fun ds=>aW (d :: ds)) d1
  have hd:d=.lst xs:=by
   have f:some ((.ok [d],ρ'):Except D (List D) × Sto)=some (.ok [.lst xs],ρ'):=f
   cases f;rfl
  subst hd
  cases a1 with
  | @cons _ v Ts1 _ vs1 Us1 a as =>
   cases as with
   | nil =>
    obtain ⟨y,V,y2,O⟩:=Ar.item2 (T:=T) (by simpa using B) a C
    have hy:Itm (([] ++ Ts1) ++ T) g1 y:=by
     rcases O with ⟨i,_,ei⟩ | h
     ·exact .inl ⟨i,ei⟩
     ·exact .inr (by simpa using Eg T h)
    have I:=(B.itm hy).arg
    have qq:∀ J,Walk K J H1 [y] (ib 0 xs)->R J H1:=fun J hw=>q J H1 [v] ([] ++ Ts1) g1 [y] B (.cons a .nil) (fun z hz=>by
     rw [EJ.mp hz]
     rcases O with h | h
     ·exact .inl h
     ·exact .inr (by simpa using h)) hw
    clear q
    subst y2
    have A:=I
    obtain ⟨yd,X,yL,yf⟩:=y
    obtain ⟨S,oo⟩:=I
    dsimp only at S V
    subst V
    cases S with
    | @lst _ pa j La ha rs =>
     refine ⟨pa,rfl,⟨_,SqL.of ha⟩,qq _ ?_⟩
     obtain ⟨ws,h1,h2,h3⟩:=Reps.split rs
     refine ⟨ws,fun x l=>⟨(h3 x l).1,(h3 x l).2.1,fun c t=>nX (y:=⟨.lst xs,.ref pa,pa :: La,yf⟩) Ec A rfl rfl c ((h3 x l).2.2 c t)⟩,fun M H' hm N U=>?_⟩
     have sq:SqL K H' pa j:=SqL.of (N pa _ ha (U _ Ec pa Ec))
     refine ⟨fun i d hd=>?_,by rw [jQ];exact ⟨j,sq,by rw [<- rs.len];exact Eu _⟩⟩
     rw [jR] at hd
     obtain ⟨P,n,rfl⟩:=Ef.mp hd
     have hw:∃ u,ws[i]?=some u/\u.d=P:=by
      rw [<- h1,Et] at n
      obtain ⟨u,a,b⟩:=Ef.mp n
      exact ⟨u,a,b⟩
     obtain ⟨u,F,ud⟩:=hw
     have Q:j[i]?=some u.v:=by rw [<- h2,Et,F];rfl
     have hu:=Ep F
     refine ⟨⟨j,u.v,sq,Q⟩,fun x Z ⟨Tt,X,e1,E,s,C⟩=>?_⟩
     have f:=C j sq
     rw [Q] at f
     cases f
     subst e1 s
     have ru:Rep K H' u.d u.v u.L:=(h3 u hu).2.1.keep N hm fun b Y=>U _ Ec b (Ed _ ((h3 u hu).2.2 b Y))
     refine ⟨⟨.tup [.int ((0+i:Nat):Int),P],.ref Tt,[] ++ (u.L ++ []),.z⟩,uW E (.cons (L:=[]) (by rw [EC];exact .int _) (.cons (by rw [<- ud];exact ru) .nil)) (fun c t=>⟨u,hu,by simpa using t⟩),rfl,rfl,rfl⟩
theorem zY {a:Expr} {ms:M3 (List R3)} {p pos:Pos} {elts:List Expr} {k:Nat} {e:Pos} (d:Gl X "enumerate") (hm:X.mg "enumerate"=none) (b:RA X G0 W0 [a] ms) (c:starEach [a] X.env=[(false,eval a X.env)]):RI X G0 W0 (.Tuple elts k e) (.Call (.Name "enumerate" p) [a] [] pos) (lz ms):=⟨PI.imp (Ai d hm b.h c) fun _ _ _ h=>zv h⟩
end
end L3
namespace L3
theorem Ae {mask:List Bool} {i:Nat} (h:mask.length<=i):prM mask i=false:=by
 unfold prM
 rw [List.getElem?_eq_none h]
end L3
end
section
namespace L3
open PySem L2
structure Bl (mg:Str->Option Value):Prop where
 len:mg "len"=none
 range:mg "range"=none
 abs:mg "abs"=none
 divmod:mg "divmod"=none
 enumerate:mg "enumerate"=none
 tuple:mg "tuple"=none
 isinstance:mg "isinstance"=none
 int:mg "int"=none
 bool:mg "bool"=none
 all:mg "all"=none
 str:mg "str"=none
 max:mg "max"=none
 min:mg "min"=none
 list:mg "list"=none
 dict:mg "dict"=none
 repr:mg "repr"=none
 sorted:mg "sorted"=none
 set:mg "set"=none
 zip:mg "zip"=none
 reversed:mg "reversed"=none
theorem b_len:bootBuiltins "len"=some (.builtin "len"):=by decide +kernel
theorem b_abs:bootBuiltins "abs"=some (.builtin "abs"):=by decide +kernel
theorem y7:bootBuiltins "divmod"=some (.builtin "divmod"):=by decide +kernel
theorem uh:bootBuiltins "tuple"=some (.type "tuple"):=by decide +kernel
theorem oK:bootBuiltins "isinstance"=some (.builtin "isinstance"):=by decide +kernel
theorem b_int:bootBuiltins "int"=some (.type "int"):=by decide +kernel
theorem DQ:bootBuiltins "bool"=some (.type "bool"):=by decide +kernel
theorem b_all:bootBuiltins "all"=some (.builtin "all"):=by decide +kernel
theorem b_max:bootBuiltins "max"=some (.builtin "max"):=by decide +kernel
theorem b_min:bootBuiltins "min"=some (.builtin "min"):=by decide +kernel
theorem DP:bootBuiltins "list"=some (.type "list"):=by decide +kernel
theorem DO:bootBuiltins "repr"=some (.builtin "repr"):=by decide +kernel
theorem qG:bootBuiltins "sorted"=some (.builtin "sorted"):=by decide +kernel
theorem b_set:bootBuiltins "set"=some (.type "set"):=by decide +kernel
end L3
end
section
namespace L3
open PySem L2
section
variable {K:FG} {G G0:Gm} {W W0:D->Sto->Prop} {H H':Hp} {σ:St} {ρ ρ':Sto} {T T':List It3} {g:Nat->Option It3} {x y z:It3} {α β:Type} {X:Cx} {L:List Addr}
theorem zy {m:EM} {Q a:VK} (h:tE K G0 W0 m σ H Q) (f:∀ v H,Q v H->a v H):tE K G0 W0 m σ H a:=by
 refine h.use fun G W le ρ T g o ρ' w e q=>?_
 refine tE.mk le w e ?_
 cases o with
 | ok r=>exact fun v H' g=>f v H' (q v H' g)
 | error x=>exact q
def mR:D->Option String
 | .non=>some "NoneType" | .bl _=>some "bool" | .int _=>some "int" | .str _=>some "str"
 | .tup _=>some "tuple" | .lst _=>some "list" | .fls _=>some "list" | .dk _=>some "dict" | .dt _=>some "dict" | .exc _ _=>none
def fR (t:String) (d:D):Option (D × Fl):=(mR d).map fun k=>(.bl (kB k t),.z)
theorem Rep.kind {d:D} {v:V} {k:String} (r:Rep K H d v L) (e:mR d=some k):KindOf K H v k:=by
 cases r with
 | non=>cases e;exact .non
 | bl b=>cases e;exact .bool b
 | int i=>cases e;exact .int i
 | str s=>cases e;exact .str s
 | tup h _=>cases e;exact .tuple (SqT.of h)
 | lst h _=>cases e;exact .list (SqL.of h)
 | lstF h _=>cases e;exact .list h.sq
 | dK h _ _=>cases e;exact .dK h
 | dT h _ _=>cases e;exact .dT h
 | exc _ _=>cases e
theorem rh {t:String} {c:Str} {a:Expr} {p b pos:Pos} {ma:EM} (n:cp X (.builtin "isinstance") (fun xs H Q=>∃ x k,xs=[x,.ty t]/\KindOf X.K H x k/\Q (.bl (kB k t)) H)) (j:Gl X "isinstance") (hm:X.mg "isinstance"=none) (m:PE X (.Name c b) (tC (.ty t))) (l:RE X G0 W0 a ma)
  (d:starEach [a,.Name c b] X.env=(false,eval a X.env) :: starEach [.Name c b] X.env) (g:starEach [.Name c b] X.env=(false,eval (.Name c b) X.env) :: starEach [] X.env) (f:(backTo pos (starEach [.Name c b] X.env)).any (·.1)=false):RE X G0 W0 (.Call (.Name "isinstance" p) [a,.Name c b] [] pos) (mUn (fR t) ma) :=
 ⟨PE.imp (lg n j hm oK (jf l.h (jf m nO g) d) (by decide) (by decide) d f) fun σ H Q h=>by
  have h:=Bh (r:=fun x H Q=>∃ k,KindOf X.K H x k/\Q (.bl (kB k t)) H) (fun a H Q p ra e q=>by
   obtain ⟨k,h1,h2⟩:=Ef.mp e
   subst h2
   exact ⟨k,ra.rep.kind h1,q ⟨.bl (kB k t),.bl (kB k t),[],.z⟩ H (d7 (.bl _)) rfl rfl⟩) h
  refine zy h fun x H1 ⟨k,i,q⟩=>?_
  exact ⟨x,k,rfl,i,q⟩⟩
def yk:D->Option Key
 | .int i=>some (.inl i)
 | .str s=>some (.inr s)
 | _=>none
def eS:List D->Option (List Key)
 | []=>some []
 | d :: ds=>match yk d,eS ds with
  | some k,some ks=>some (k :: ks)
  | _,_=>none
theorem vg {d:D} {v:V} {k:Key} (r:Rep K H d v L) (e:yk d=some k):v=kV k:=by
 cases r <;> cases e <;> rfl
theorem hU:∀ {ds:List D} {a:List V} {L:List Addr} {ks:List Key},Reps (Rep K H) ds a L->eS ds=some ks->a=ks.map kV
 | _,_,_,ks,.nil,e=>by cases e;rfl
 | _,_,_,ks,.cons (d:=d) (ds:=ds) r rs,e=>by
  unfold eS at e
  cases h1:yk d with
  | none=>rw [h1] at e;exact nsE e
  | some k =>
   cases h2:eS ds with
   | none=>rw [h1,h2] at e;exact nsE e
   | some ks' =>
    rw [h1,h2] at e
    cases e
    rw [vg r h1,hU rs h2];rfl
def lA (kvs:List (List Key × D)) (k:List Key):Option D:=(kvs.find? fun a=>decide (a.1=k)).map (·.2)
def pv (kvs:List (List Key × D)) (k:List Key) (v:D):List (List Key × D) :=
 if (kvs.any fun a=>decide (a.1=k))=true then kvs.map (fun a=>if a.1=k then (a.1,v) else a) else kvs ++ [(k,v)]
theorem qb:∀ {kvs:List (List Key × D)} {ps:List (List Key × V)} {L:List Addr} {k:List Key} {d:D},kvs.map (·.1)=ps.map (·.1)->Reps (Rep K H) (kvs.map (·.2)) (ps.map (·.2)) L->lA kvs k=some d->∃ v L',ky ps k=some v/\Rep K H d v L'/\∀ c ∈ L',c ∈ L
 | [],ps,L,k,d,hk,r,e=>by cases e
 | f :: kvs,[],L,k,d,hk,r,e=>by cases hk
 | f :: kvs,p :: ps,L,k,d,hk,r,e=>by
  have b:f.1=p.1/\kvs.map (·.1)=ps.map (·.1):=by simpa using hk
  generalize i:(f :: kvs).map (·.2)=xs at r
  generalize j:(p :: ps).map (·.2)=ys at r
  cases r with
  | nil=>cases i
  | cons a as =>
   cases i
   cases j
   unfold lA at e
   rw [List.find?_cons] at e
   by_cases h:f.1=k
   ·rw [Ez h] at e
    cases e
    exact ⟨_,_,iY (b.1.symm.trans h),a,fun c g=>Eg _ g⟩
   ·rw [EA h] at e
    obtain ⟨v,L',h1,h2,h3⟩:=qb b.2 as e
    exact ⟨v,L',by rw [iZ (fun z=>h (b.1.trans z))];exact h1,h2,fun c g=>Eh _ (h3 c g)⟩
def kr:D->D->Option (D × Fl)
 | .dt kvs,.tup ks=>match eS ks with
  | some k=>(lA kvs k).map fun d=>(d,.z)
  | none=>none
 | _,_=>none
def tz:R2:=fun x y H Q=>∃ a v,x=.ref a/\DGet H a y (some v)/\Q v H
theorem Aw:OpD K tz kr:=fun a b H Q p ra rb e q=>by
 obtain ⟨da,u,s,j⟩:=a
 obtain ⟨db,w,x,A⟩:=b
 have g:=ra
 obtain ⟨ra,r⟩:=ra
 obtain ⟨rb,ob⟩:=rb
 dsimp only at ra rb e
 cases da with
 | dt kvs =>
  obtain ⟨f,ps,n,rfl,rfl,o,i,rs⟩:=ra.view
  cases db with
  | tup ks =>
   obtain ⟨B,ws,rfl,l,h⟩:=rb.view
   have e:(match eS ks with | some k=>(lA kvs k).map fun d=>(d,Fl.z) | none=>none)=some p:=e
   cases h1:eS ks with
   | none=>rw [h1] at e;exact nsE e
   | some k =>
    rw [h1] at e
    obtain ⟨d,h2,h3⟩:=Ef.mp (show (lA kvs k).map (fun d=>(d,Fl.z))=some p from e)
    subst h3
    have hw:=hU h h1
    subst hw
    obtain ⟨v,L',g1,g2,g3⟩:=qb i rs h2
    refine ⟨f,v,rfl,by rw [<- g1];exact DGet.t o l,q ⟨d,v,L',.z⟩ H (pJ g2 fun c m=>?_) rfl rfl⟩
    exact nX (y:=⟨.dt kvs,.ref f,f :: n,j⟩) Ec g rfl rfl c (g3 c m)
  | _=>exact nsE e
 | _=>exact nsE e
open PySem.Spec PyProof.Rows in
theorem AN (hu:X.A.units+1 < cLine):IxR X tz:=by
 intro value slice pins s σ H x y v u Q I i f h e
 obtain ⟨a,w,rfl,g,q⟩:=h
 cases i
 have c:=qg I g
 unfold subscriptTail
 refine DZ ?_
 rw [getitemInPython_of_ne c.not_modules]
 refine DZ (wpAny_specialOf c PySem.F.slot_dict_getitem.lookup ?_)
 have fin:wpAny (model X.prog X.w) X.A (subscripted slice false (.ref a) u) (fun r d=>wpAny (model X.prog X.w) X.A (letTemporaryGo value (.ref a) r >>= fun _=>pure r) (EP X pins σ Q) X.xe d) X.xe s:=by
  rw [e]
  exact wpAny_operating (vA hu I g f fun k s3 j b=>DZ (wpAny_letTemporaryGo (Ea ⟨w,H,j,b,q⟩)))
 first
  | exact Ea (DZ fin)
  | exact DZ (Ea (DZ fin))
  | exact DZ fin
abbrev aA:=orD ixD kr
theorem Dc:OpD K (fun x y H Q=>(xi K x y H Q\/xh K x y H Q)\/tz x y H Q) aA:=od_ix.or Aw
theorem Dv (hu:X.A.units+1 < cLine):IxR X (fun x y H Q=>(xi X.K x y H Q\/xh X.K x y H Q)\/tz x y H Q):=ix_ok.or (AN hu)
def xZ:EM:=aW (.val (.dt []) .u)
theorem wY {pos:Pos}:RE X G0 W0 (.Dict [] [] pos) xZ:=⟨PE.imp xB fun σ H Q h=>by
 refine h.use fun G W le ρ T g o ρ' w e q=>?_
 cases e
 intro p a
 refine q _ _ (Wf.done (Us:=[]) (ys:=[]) (x:=⟨.dt [],.ref p,[p],.u⟩) w (fun _ h=>(by cases h)) ⟨bJ a,.dT aJ rfl .nil,fun c b=>?_,fun _=>⟨rfl,p,[],rfl,rfl,(by simp),a⟩⟩)
 rw [EJ.mp b];exact .inl a⟩
def kb:D->List D->Option (D × D)
 | .dt kvs,[.tup ks,v]=>match eS ks with
  | some k=>if kvs.length < 16777216 then some (.dt (pv kvs k v),.non) else none
  | none=>none
 | _,_=>none
def tv:vO:=fun o i v H Q=>∃ a H',o=.ref a/\DPut H a i v H'/\Q H'
theorem wy (hu:X.A.units+1 < cLine):ze X tv:=by
 intro pins s σ H o i v ov f u Q I c b d h
 obtain ⟨a,H',rfl,g,q⟩:=h
 cases c
 exact vz hu I g b d fun s' e=>⟨H',e,q⟩
theorem pq:∀ {kvs:List (List Key × D)} {ps:List (List Key × V)} {L L':List Addr} {k:List Key} {d:D} {v:V},kvs.map (·.1)=ps.map (·.1)->Reps (Rep K H) (kvs.map (·.2)) (ps.map (·.2)) L->Rep K H d v L' ->
  ∃ L2,Reps (Rep K H) ((kvs.map fun b=>if b.1=k then (b.1,d) else b).map (·.2)) ((ps.map fun b=>if b.1=k then (b.1,v) else b).map (·.2)) L2/\(∀ c ∈ L2,c ∈ L\/c ∈ L')
 | [],[],L,L',k,d,v,hk,r,rd=>⟨[],.nil,fun c f=>by cases f⟩
 | [],_ :: _,_,_,_,_,_,hk,_,_=>by cases hk
 | _ :: _,[],_,_,_,_,_,hk,_,_=>by cases hk
 | b :: kvs,p :: ps,L,L',k,d,v,hk,r,rd=>by
  have e:b.1=p.1/\kvs.map (·.1)=ps.map (·.1):=by simpa using hk
  generalize g:(b :: kvs).map (·.2)=xs at r
  generalize i:(p :: ps).map (·.2)=ys at r
  cases r with
  | nil=>cases g
  | @cons _ _ L1 _ _ L1' a as =>
   cases g
   cases i
   obtain ⟨L2,h1,h2⟩:=pq (k:=k) e.2 as rd
   by_cases h:b.1=k
   ·refine ⟨L' ++ L2,?_,fun c f=>?_⟩
    ·simp only [Ey,if_pos h,if_pos (e.1.symm.trans h)]
     exact .cons rd h1
    ·rcases El.mp f with z | z
     ·exact .inr z
     ·rcases h2 c z with y | y
      ·exact .inl (Eh _ y)
      ·exact .inr y
   ·refine ⟨L1 ++ L2,?_,fun c f=>?_⟩
    ·simp only [Ey,if_neg h,if_neg (fun z=>h (e.1.trans z))]
     exact .cons a h1
    ·rcases El.mp f with z | z
     ·exact .inl (Eg _ z)
     ·rcases h2 c z with y | y
      ·exact .inl (Eh _ y)
      ·exact .inr y
theorem za {kvs:List (List Key × D)} {ps:List (List Key × V)} {k:List Key} (b:kvs.map (·.1)=ps.map (·.1)):(kvs.any fun a=>decide (a.1=k))=ps.any fun a=>decide (a.1=k):=by
 have h1:(kvs.any fun a=>decide (a.1=k))=(kvs.map (·.1)).any fun x=>decide (x=k):=by rw [List.any_map];rfl
 have h2:(ps.any fun a=>decide (a.1=k))=(ps.map (·.1)).any fun x=>decide (x=k):=by rw [List.any_map];rfl
 rw [h1,h2,b]
theorem pS {α:Type} {kvs:List (List Key × α)} {k:List Key} {d:α}:(kvs.map fun a=>if a.1=k then (a.1,d) else a).map (·.1)=kvs.map (·.1):=by
 rw [EV]
 refine List.map_congr_left fun a _=>?_
 show (if a.1=k then (a.1,d) else a).1=a.1
 split <;> rfl
theorem put1 {kvs:List (List Key × D)} (a:D):kb (.dt kvs) [a]=none:=by cases a <;> rfl
theorem put3' {kvs:List (List Key × D)} (a:D) {b c:D} {r:List D}:kb (.dt kvs) (a :: b :: c :: r)=none:=by cases a <;> rfl
theorem AE:MutD K (lc tv) kb:=fun a d s as H Q p r m na ra u e q=>by
 cases d with
 | dt kvs =>
  obtain ⟨_,ps,_,e1,F,x,i,rs⟩:=r.view
  cases e1
  cases F
  match as,e,ra,u with
  | [],e,_,_=>exact nsE e
  | [y],e,_,_=>exact nsE ((put1 y.d).symm.trans e)
  | y :: _ :: _ :: _,e,_,_=>exact nsE ((put3' y.d).symm.trans e)
  | [k,y],e,ra,u =>
   have w:=ra k Ec
   have B:=ra y (Ed _ Ec)
   have E:=u y (Ed _ Ec)
   obtain ⟨kd,I,J,G⟩:=k
   dsimp only at w
   cases kd with
   | tup ks =>
    obtain ⟨C,ws,rfl,f,n⟩:=w.view
    have e:(match eS ks with | some k=>if kvs.length < 16777216 then some (D.dt (pv kvs k y.d),D.non) else none | none=>none)=some p:=e
    cases h1:eS ks with
    | none=>rw [h1] at e;exact nsE e
    | some key =>
     rw [h1] at e
     dsimp only at e
     split at e
     ·rename_i A
      cases e
      have hw:=hU n h1
      subst hw
      have hlen:kvs.length=ps.length:=by have:=congrArg List.length i;simpa using this
      refine ⟨.ref C,y.v,rfl,a,_,rfl,DPut.t x f (by rw [<- hlen,<- szl];exact A),?_⟩
      have ma:MutAt H a:=.inr (.inr ⟨_,x⟩)
      have g:Rep K (upd H a (.dT (fI ps key y.v))) y.d y.v y.L:=B.keep (M:=fun b=>b=a) (fun b o f h=>by rw [aw h];exact f) (fun b e=>by rw [e];exact ma) fun b f e=>E (by rw [<- e];exact f)
      have keeps:Reps (Rep K (upd H a (.dT (fI ps key y.v)))) (kvs.map (·.2)) (ps.map (·.2)) s:=rs.keep (M:=fun b=>b=a) (fun b o f h=>by rw [aw h];exact f) (fun b e=>by rw [e];exact ma) fun b f e=>na (by rw [<- e];exact f)
      have fin:∃ l,Reps (Rep K (upd H a (.dT (fI ps key y.v)))) ((pv kvs key y.d).map (·.2)) ((fI ps key y.v).map (·.2)) l/\(∀ c ∈ l,c ∈ s\/c ∈ y.L)/\(pv kvs key y.d).map (·.1)=(fI ps key y.v).map (·.1):=by
       generalize upd H a (HO.dT (fI ps key y.v))=H2 at keeps g ⊢
       unfold pv fI
       rw [za i]
       split
       ·obtain ⟨L2,g1,g2⟩:=pq (k:=key) i keeps g
        exact ⟨L2,g1,g2,by rw [pS,pS];exact i⟩
       ·refine ⟨s ++ (y.L ++ []),?_,fun c j=>?_,by rw [List.map_append,List.map_append,i];rfl⟩
        ·rw [List.map_append,List.map_append]
         exact keeps.append (.cons g .nil)
        ·rcases El.mp j with z | z
         ·exact .inl z
         ·rw [List.append_nil] at z;exact .inr z
      obtain ⟨l,g1,g2,g3⟩:=fin
      exact q (.dT (fI ps key y.v)) l ⟨.non,.non,[],.z⟩ (.dT aJ g3 g1) rfl (fun c j=>(g2 c j).imp id fun h=>⟨y,Ed _ Ec,h⟩) rfl rfl .non fun c j=>by cases j
     ·exact nsE e
   | _=>exact nsE e
 | _=>exact nsE e
def rE (f g:D->List D->Option (D × D)) (a:D) (b:List D):Option (D × D):=match f a b with
 | some p=>some p
 | none=>g a b
theorem MutD.or {r i:V->List V->Hp->VK->Prop} {f g:D->List D->Option (D × D)} (h:MutD K r f) (h':MutD K i g):MutD K (fun x y H Q=>r x y H Q\/i x y H Q) (rE f g):=fun a d c as H Q p r m na ra j e q=>by
 unfold rE at e
 cases b:f d (as.map (·.d)) with
 | some p'=>rw [b] at e;cases e;exact .inl (h a d c as H Q _ r m na ra j b q)
 | none=>rw [b] at e;exact .inr (h' a d c as H Q p r m na ra j e q)
abbrev zJ:=rE o6 kb
theorem Dj:MutD K (lc fun o i v H Q=>tu o i v H Q\/tv o i v H Q) zJ:=fun a d b as H Q p r m na ra c e q=>by
 rcases MutD.or AD AE a d b as H Q p r m na ra c e q with ⟨k,v,h1,h2⟩ | ⟨k,v,h1,h2⟩
 ·exact ⟨k,v,h1,.inl h2⟩
 ·exact ⟨k,v,h1,.inr h2⟩
theorem zH (hu:X.A.units+1 < cLine):ze X (fun o i v H Q=>tu o i v H Q\/tv o i v H Q):=by
 intro pins s σ H o i v ov d u Q I b a c h
 rcases h with h | h
 ·exact ww pins s σ H o i v ov d u Q I b a c h
 ·exact wy hu pins s σ H o i v ov d u Q I b a c h
end
end L3
end
section
namespace L3
open PySem L2
section
open PySem.Spec PyProof.Rows HT
variable {prog:Program} {w:World} {A:Around} {E:Value->Shared->Prop} {s:Shared}
theorem iJ {t sl:Addr} {items:Array Value} {e g:Value} {lo hi:Option Int} {Q:Value->Shared->Prop} (a:IsTup s.heap t items) (f:s.heap.IsSliceOf sl e g .none) (pl:IsPart e lo) (pu:IsPart g hi)
  (hw:sIx items.size 0 lo=0/\sIx items.size items.size hi=items.size) (h:Q (.ref t) s) (hsz:items.size<=sizeLine):wpAny (model prog w) A (getItem (.ref t) (.ref sl)) Q E s:=by
 obtain ⟨os,b,c,i⟩:=id f
 have d:s.TypeIs (.ref sl) "slice":=⟨os,b,c⟩
 unfold getItem
 try with_reducible refine Eb ?_
 first | refine DZ (Ea ?_) | skip
 refine DZ (wpAny_sequenceKey a.typeIs (by decide) ?_)
 refine DZ (wpAny_callSpecial?_slot (name:=Str.ofString "__getitem__") a.typeIs PyProof.Rows.slot_tuple_getitem
  (wpAny_call_entry PyProof.Rows.slot_tuple_getitem a.typeIs entry_tuple_getitem ?_ (args_tuple_getitem _ _)))
 show wpAny _ _ (Builtin.Tuple.tupleItemsOf (.ref t) >>= _) _ _ s
 refine DZ (tupleItemsOf_ a ?_)
 refine DZ (wpAny_typeOf d ?_)
 rw [if_pos (by decide)]
 refine DZ (eW f pl pu ?_)
 show wpAny _ _ (if (((sIx items.size 0 lo:Nat):Int) == 0 && (1:Int) == 1 && (sIx items.size items.size hi - sIx items.size 0 lo) == items.size)=true then _ else _) _ _ s
 rw [if_pos (by simp [hw.1,hw.2])]
 refine DZ ?_
 unfold Builtin.Tuple.tupleIsExact
 refine DZ (wpAny_typeOf a.typeIs ?_)
 refine Ea ?_
 rw [if_pos (by decide)]
 exact DZ (wpAny_rule (Ea ⟨_,rfl,Ea h⟩))
end
section
variable {K:FG} {G G0:Gm} {W W0:D->Sto->Prop} {H H':Hp} {σ:St} {ρ ρ':Sto} {T T':List It3} {g:Nat->Option It3} {x y z:It3} {α β:Type} {X:Cx} {L:List Addr}
def xg (K:FG):V->Option Int->Option Int->Hp->VK->Prop:=fun x lo hi H Q=>∃ a xs,x=.ref a/\SqT K H a xs/\(HT.sIx xs.length 0 lo=0/\HT.sIx xs.length xs.length hi=xs.length)/\Q (.ref a) H
theorem zC:SlR X (xg X.K):=by
 intro pins s σ H x v f g lo hi sl Q I e d pl pu h
 obtain ⟨a,xs,rfl,c,hw,q⟩:=h
 cases e
 obtain ⟨its,r,b,hz⟩:=I.tuple c
 have hlen:its.toArray.size=xs.length:=by rw [Ex];exact r.length.symm
 refine ⟨"tuple",_,PyProof.Rows.slot_tuple_getitem.lookup,b.typeIs,?_⟩
 exact iJ b d pl pu (by rw [hlen];exact hw) ⟨.ref a,H,I,rfl,q⟩ (by rw [hlen];exact hz)
def asI:D->Option Int
 | .int i=>some i
 | _=>none
def eY:M3 (Option Int):=aW none
def bR (m:EM):M3 (Option Int):=ae m fun r=>ae (der r) fun d=>aZ ((asI d).map some)
def EndP (K:FG) (G:Gm) (W:D->Sto->Prop) (σ:St) (T:List It3) (ρ':Sto) (Q:Option Int->Hp->Prop):Except D (Option Int)->Prop
 | .ok b=>∀ H' g',Wf K G H' σ ρ' T g'->Q b H'
 | .error e=>W e ρ'
def tP (K:FG) (G0:Gm) (W0:D->Sto->Prop) (m:M3 (Option Int)):TO:=fun σ H Q=>∃ G W,Le K G W G0 W0/\∃ ρ T g r ρ',Wf K G H σ ρ T g/\m ρ=some (r,ρ')/\EndP K G W σ T ρ' Q r
structure RP (X:Cx) (G0:Gm) (W0:D->Sto->Prop) (e:Option Expr) (m:M3 (Option Int)):Prop where
 h:PO X e (tP X.K G0 W0 m)
theorem PO.imp {e:Option Expr} {t t':TO} (h:PO X e t) (f:∀ σ H Q,t' σ H Q->t σ H Q):PO X e t':=fun pins s σ H Q I q=>h pins s σ H Q I (f σ H Q q)
theorem zU:RP X G0 W0 none eY:=⟨PO.imp Ag fun σ H Q h=>by
 obtain ⟨G,W,le,ρ,T,g,r,ρ',w,e,q⟩:=h
 cases e
 exact q _ _ w⟩
theorem zT {e:Expr} {m:EM} (h:RE X G0 W0 e m):RP X G0 W0 (some e) (bR m):=⟨PO.imp (Af h.h) fun σ H Q h=>by
 obtain ⟨G,W,le,ρ,T,g,r,ρ',w,e,q⟩:=h
 have a:∀ x,r=.error x->W x ρ':=fun x b=>by subst b;exact q
 refine tE.seq le w e a fun ra ρ1 e1 v H1 ⟨Ts,g1,c,a1⟩=>?_
 obtain ⟨d,d1,p⟩:=aS e1
 obtain ⟨o,l,rfl,rfl⟩:=bP p
 obtain ⟨i,j,k⟩:=Ef.mp l
 subst k
 obtain ⟨y,n,f1,f2⟩:=a1.item c (fun x b=>Eg _ b) d1
 have f:=(c.itm n).rep
 rw [f1] at f
 have hd:d=.int i:=by cases d <;> cases j;rfl
 rw [hd] at f
 refine ⟨i,by rw [<- f2];exact f.int_inv,q _ _ (c.sub (Er Ts T))⟩⟩
def mSl (f:D->Option Int->Option Int->Option (D × Fl)) (ma:EM) (pl pu:M3 (Option Int)):EM:=ae ma fun ra=>ae pl fun lo=>ae pu fun hi=>ae (der ra) fun d=>aZ ((f d lo hi).map fun p=>R3.val p.1 p.2)
def SlD (K:FG) (r:V->Option Int->Option Int->Hp->VK->Prop) (f:D->Option Int->Option Int->Option (D × Fl)):Prop:=∀ (a:It3) (lo hi:Option Int) (H:Hp) (Q:VK) (p:D × Fl),Arg K H a->f a.d lo hi=some p ->
 (∀ w H',New K H H' (dm [a]) w->w.d=p.1->w.f=p.2->Q w.v H')->r a.v lo hi H Q
theorem tP.seq {ma:M3 (Option Int)} {k:Option Int->M3 β} {r:Except D β} {P:Option Int->Hp->Prop} (le:Le K G W G0 W0) (w:Wf K G H σ ρ T g) (e:ae ma k ρ=some (r,ρ')) (he:∀ x,r=.error x->W x ρ')
  (h:∀ b ρ1,k b ρ1=some (r,ρ')->∀ H1 g1,Wf K G H1 σ ρ1 T g1->P b H1):tP K G0 W0 ma σ H P:=by
 unfold ae at e
 cases q:ma ρ with
 | none=>rw [q] at e;exact nsE e
 | some p =>
  obtain ⟨o,ρ1⟩:=p
  rw [q] at e
  cases o with
  | error x=>cases e;exact ⟨G,W,le,ρ,T,g,.error x,ρ',w,q,he x rfl⟩
  | ok ra=>exact ⟨G,W,le,ρ,T,g,.ok ra,ρ1,w,q,h ra ρ1 e⟩
theorem tE_sl {r:V->Option Int->Option Int->Hp->VK->Prop} {f:D->Option Int->Option Int->Option (D × Fl)} {ma:EM} {pl pu:M3 (Option Int)} {Q:VK} (hd:SlD K r f) (h:tE K G0 W0 (mSl f ma pl pu) σ H Q):tSl r (tE K G0 W0 ma) (tP K G0 W0 pl) (tP K G0 W0 pu) σ H Q:=by
 refine h.use fun G W le ρ T g o ρ' w e q=>?_
 refine tE.seq le w e q.err fun ra ρ1 e1 v H1 ⟨Ts,g1,l,a1⟩=>?_
 refine tP.seq le l e1 q.err fun lo ρ2 u H2 g2 t=>?_
 refine tP.seq le t u q.err fun hi ρ3 n k g3 b=>?_
 obtain ⟨d,d1,m⟩:=aS n
 obtain ⟨p,a,rfl,rfl⟩:=bP m
 obtain ⟨y,i,f1,f2⟩:=a1.item b (fun x j=>Eg _ j) d1
 subst f1 f2
 cases c:f y.d lo hi with
 | none=>rw [c] at a;exact nsE a
 | some s =>
  rw [c] at a
  cases a
  exact hd y lo hi k Q s (b.itm i).arg c (m4 b (fun z hz=>by rw [EJ.mp hz];exact i) q)
theorem Reps.take:∀ {ds:List D} {b:List V} {L:List Addr} (n:Nat),Reps (Rep K H) ds b L->∃ L',Reps (Rep K H) (ds.take n) (b.take n) L'/\∀ c ∈ L',c ∈ L
 | _,_,_,0,_=>⟨[],by simpa using Reps.nil,fun c a=>by cases a⟩
 | _,_,_,n+1,.nil=>⟨[],by simpa using Reps.nil,fun c a=>by cases a⟩
 | _,_,_,n+1,.cons (L:=L1) r rs=>by
  obtain ⟨L',h1,h2⟩:=Reps.take n rs
  exact ⟨L1 ++ L',by simpa using Reps.cons r h1,fun c a=>by
   rcases El.mp a with h | h
   ·exact Eg _ h
   ·exact Eh _ (h2 c h)⟩
theorem Reps.drop:∀ {ds:List D} {b:List V} {L:List Addr} (n:Nat),Reps (Rep K H) ds b L->∃ L',Reps (Rep K H) (ds.drop n) (b.drop n) L'/\∀ c ∈ L',c ∈ L
 | _,_,L,0,r=>⟨L,by simpa using r,fun c a=>a⟩
 | _,_,_,n+1,.nil=>⟨[],by simpa using Reps.nil,fun c a=>by cases a⟩
 | _,_,_,n+1,.cons r rs=>by
  obtain ⟨L',h1,h2⟩:=Reps.drop n rs
  exact ⟨L',by simpa using h1,fun c a=>Eh _ (h2 c a)⟩
theorem Reps.cut {ds:List D} {a:List V} (lo hi:Option Int) (r:Reps (Rep K H) ds a L):∃ L',Reps (Rep K H) (cK ds lo hi) (qi a lo hi) L'/\∀ c ∈ L',c ∈ L:=by
 unfold cK qi
 rw [<- r.len]
 obtain ⟨e,h1,h2⟩:=r.drop (HT.sIx ds.length 0 lo)
 obtain ⟨L2,h3,b⟩:=h1.take (HT.sIx ds.length ds.length hi - HT.sIx ds.length 0 lo)
 exact ⟨L2,h3,fun c d=>h2 c (b c d)⟩
def slD:D->Option Int->Option Int->Option (D × Fl)
 | .lst xs,lo,hi=>some (.lst (cK xs lo hi),.u)
 | .fls xs,lo,hi=>some (.lst (cK xs lo hi),.u)
 | .tup xs,lo,hi=>some (.tup (cK xs lo hi),.z)
 | _,_,_=>none
theorem sd_sl:SlD K (fun x lo hi H Q=>CJ K x lo hi H Q\/(CI K x lo hi H Q\/xg K x lo hi H Q)) slD:=fun a lo hi H Q p ra e q=>by
 obtain ⟨da,n,j,k⟩:=a
 have f:=ra
 obtain ⟨ra,m⟩:=ra
 dsimp only at ra e
 cases da with
 | lst xs =>
  obtain ⟨b,d,l,rfl,rfl,g,rs⟩:=ra.view
  cases e
  obtain ⟨L',h1,h2⟩:=rs.cut lo hi
  exact .inl ⟨b,d,rfl,SqL.of g,fun p i=>q ⟨_,.ref p,p :: L',.u⟩ _ (rK i h1 fun c h=>nX (y:=⟨.lst xs,.ref b,b :: l,k⟩) Ec f rfl rfl c (h2 c h)) rfl rfl⟩
 | fls xs =>
  obtain ⟨b,d,rfl,g,rs⟩:=ra.view
  cases e
  obtain ⟨L',h1,h2⟩:=rs.cut lo hi
  exact .inl ⟨b,d,rfl,g.sq,fun p i=>q ⟨_,.ref p,p :: L',.u⟩ _ (rK i h1 fun c h=>jl (y:=⟨.fls xs,.ref b,j,k⟩) Ec f rfl c (h2 c h)) rfl rfl⟩
 | tup xs =>
  obtain ⟨b,d,rfl,g,rs⟩:=ra.view
  cases e
  by_cases hw:HT.sIx d.length 0 lo=0/\HT.sIx d.length d.length hi=d.length
  ·have h:cK xs lo hi=xs:=by
    unfold cK
    rw [rs.len,hw.1,hw.2,<- rs.len]
    simp
   rw [h] at q
   exact .inr (.inr ⟨b,d,rfl,SqT.of g,hw,q ⟨.tup xs,.ref b,j,.z⟩ H (pJ (.tup g rs) (jl (y:=⟨.tup xs,.ref b,j,k⟩) Ec f rfl)) rfl rfl⟩)
  ·obtain ⟨L',h1,h2⟩:=rs.cut lo hi
   exact .inr (.inl ⟨b,d,rfl,SqT.of g,hw,fun p i=>q ⟨_,.ref p,L',.z⟩ _ (uW i h1 fun c h=>jl (y:=⟨.tup xs,.ref b,j,k⟩) Ec f rfl c (h2 c h)) rfl rfl⟩)
 | _=>exact nsE e
theorem Cc:SlR X (fun x lo hi H Q=>CJ X.K x lo hi H Q\/(CI X.K x lo hi H Q\/xg X.K x lo hi H Q)):=sl_list.or (sl_tup.or zC)
theorem wX {e:Expr} {lo hi:Option Expr} {p2 pos:Pos} {m:EM} {pl pu:M3 (Option Int)} (he:RE X G0 W0 e m) (a:RP X G0 W0 lo pl) (hu:RP X G0 W0 hi pu):RE X G0 W0 (.Subscript e (.Slice lo hi none p2) pos) (mSl slD m pl pu):=⟨PE.imp (xz Cc he.h a.h hu.h) fun _ _ _ h=>tE_sl sd_sl h⟩
end
end L3
end
section
namespace L3
open PySem L2
mutual
def pyD:D->Option PyData
 | .non=>some .none
 | .bl b=>some (.bool b)
 | .int i=>some (.int i)
 | .str x=>some (.str x)
 | .tup xs=>(d6 xs).map .tuple
 | .lst xs=>(d6 xs).map .list
 | .fls xs=>(d6 xs).map .list
 | .dk _=>none
 | .dt _=>none
 | .exc _ _=>none
def d6:List D->Option (List PyData)
 | []=>some []
 | d :: ds=>match pyD d,d6 ds with
  | some p,some ps=>some (p :: ps)
  | _,_=>none
end
section
variable {K:FG} {H:Hp} {Ks:Addr->Prop} {d:D} {v:V} {L:List Addr} {X:Cx}
theorem Rep.dv (r:Rep K H d v L):∀ p,pyD d=some p->DV K H v p:=by
 refine Rep.rec (motive_1:=fun d v _ _=>∀ p,pyD d=some p->DV K H v p) (motive_2:=fun ds c _ _=>∀ ps,d6 ds=some ps->DVs K H c ps) ?_ ?_ ?_ ?_ ?_ ?_ ?_ ?_ ?_ ?_ ?_ ?_ r
 ·intro p e;unfold pyD at e;cases e;exact .non
 ·intro _ p e;unfold pyD at e;cases e;exact .bl _
 ·intro _ p e;unfold pyD at e;cases e;exact .int _
 ·intro _ p e;unfold pyD at e;cases e;exact .str _
 ·intro xs a c L h _ b p e
  unfold pyD at e
  obtain ⟨ps,e1,rfl⟩:=Ef.mp e
  exact .tup (SqT.of h) (b ps e1)
 ·intro xs a c L h _ b p e
  unfold pyD at e
  obtain ⟨ps,e1,rfl⟩:=Ef.mp e
  exact .lst (SqL.of h) (b ps e1)
 ·intro xs a c L h _ b p e
  unfold pyD at e
  obtain ⟨ps,e1,rfl⟩:=Ef.mp e
  exact .lst h.sq (b ps e1)
 ·intro _ _ _ _ _ _ _ _ p e;unfold pyD at e;exact nsE e
 ·intro _ _ _ _ _ _ _ _ p e;unfold pyD at e;exact nsE e
 ·intros;rename_i e;unfold pyD at e;exact nsE e
 ·intro ps e;unfold d6 at e;cases e;exact .nil
 ·intro d v L ds c L' _ _ g f ps e
  unfold d6 at e
  cases h1:pyD d with
  | none=>rw [h1] at e;exact nsE e
  | some p =>
   cases h2:d6 ds with
   | none=>rw [h1,h2] at e;exact nsE e
   | some qs=>rw [h1,h2] at e;cases e;exact .cons (g p h1) (f qs h2)
def eqP (a b:D):Option Bool:=match pyD a,pyD b with
 | some p,some q=>if p.canLay0 && q.canLay0 && decide (min p.depth q.depth<=30) then some (PyData.eqv p q) else none
 | _,_=>none
def eqA (a b:D):Option Bool:=match eqS a b with
 | some k=>some k
 | none=>eqP a b
abbrev eqX (a b:D):Option (D × Fl):=(eqA a b).map fun k=>(.bl k,.z)
abbrev neX (a b:D):Option (D × Fl):=(eqA a b).map fun k=>(.bl (!k),.z)
def rEqP:R2:=fun x y H Q=>∃ p q,DV X.K H x p/\DV X.K H y q/\p.canLay0=true/\q.canLay0=true/\min p.depth q.depth<=30/\Q (.bl (PyData.eqv p q)) H
def rNeP:R2:=fun x y H Q=>∃ p q,DV X.K H x p/\DV X.K H y q/\p.canLay0=true/\q.canLay0=true/\min p.depth q.depth<=30/\Q (.bl (!PyData.eqv p q)) H
theorem xH (hu:X.A.units+64 < cLine):OpR X (compareOp .Eq) (fun x y H Q=>rEq x y H Q\/rEqP (X:=X) x y H Q):=by
 intro pins s σ H x y v u Q I b a h
 rcases h with h | ⟨p,q,h1,h2,h3,c,e,d⟩
 ·exact op_eq pins s σ H x y v u Q I b a h
 ·obtain ⟨as,ra⟩:=DV.reads I h1 b
  obtain ⟨bs,rb⟩:=DV.reads I h2 a
  exact PySem.SeqAt.compareEq_reads ra rb h3 c (by omega) ⟨.bl _,H,I,rfl,d⟩
theorem C7 (hu:X.A.units+64 < cLine):OpR X (compareOp .NotEq) (fun x y H Q=>rNe x y H Q\/rNeP (X:=X) x y H Q):=by
 intro pins s σ H x y v u Q I b a h
 rcases h with h | ⟨p,q,h1,h2,h3,c,e,d⟩
 ·exact op_ne pins s σ H x y v u Q I b a h
 ·obtain ⟨as,ra⟩:=DV.reads I h1 b
  obtain ⟨bs,rb⟩:=DV.reads I h2 a
  exact PySem.SeqAt.compareNe_reads ra rb h3 c (by omega) ⟨.bl _,H,I,rfl,d⟩
theorem t5 {a b:D} {k:Bool} (e:eqP a b=some k):∃ p q,pyD a=some p/\pyD b=some q/\p.canLay0=true/\q.canLay0=true/\min p.depth q.depth<=30/\k=PyData.eqv p q:=by
 unfold eqP at e
 cases h1:pyD a with
 | none=>rw [h1] at e;exact nsE e
 | some p =>
  cases h2:pyD b with
  | none=>rw [h1,h2] at e;exact nsE e
  | some q =>
   rw [h1,h2] at e
   dsimp only at e
   split at e
   ·rename_i h
    cases e
    simp only [Bool.and_eq_true,decide_eq_true_eq] at h
    exact ⟨p,q,rfl,rfl,h.1.1,h.1.2,h.2,rfl⟩
   ·exact nsE e
theorem xL:OpD X.K (fun x y H Q=>rEq x y H Q\/rEqP (X:=X) x y H Q) eqX:=fun a b H Q p ra rb e q=>by
 obtain ⟨k,h1,h2⟩:=Ef.mp e
 subst h2
 unfold eqA at h1
 cases c:eqS a.d b.d with
 | some k' =>
  rw [c] at h1
  cases h1
  obtain ⟨s,i⟩:=yH ra.rep rb.rep c
  exact .inl ⟨s,by rw [<- i];exact q ⟨.bl k,.bl k,[],.z⟩ H (d7 (.bl k)) rfl rfl⟩
 | none =>
  rw [c] at h1
  obtain ⟨p,f,e1,l,j,g,h,rfl⟩:=t5 h1
  exact .inr ⟨p,f,ra.rep.dv p e1,rb.rep.dv f l,j,g,h,q ⟨.bl _,.bl _,[],.z⟩ H (d7 (.bl _)) rfl rfl⟩
theorem Dd:OpD X.K (fun x y H Q=>rNe x y H Q\/rNeP (X:=X) x y H Q) neX:=fun a b H Q p ra rb e q=>by
 obtain ⟨k,h1,h2⟩:=Ef.mp e
 subst h2
 unfold eqA at h1
 cases c:eqS a.d b.d with
 | some k' =>
  rw [c] at h1
  cases h1
  obtain ⟨s,i⟩:=yH ra.rep rb.rep c
  exact .inl ⟨s,by rw [<- i];exact q ⟨.bl (!k),.bl (!k),[],.z⟩ H (d7 (.bl _)) rfl rfl⟩
 | none =>
  rw [c] at h1
  obtain ⟨p,f,e1,l,j,g,h,rfl⟩:=t5 h1
  exact .inr ⟨p,f,ra.rep.dv p e1,rb.rep.dv f l,j,g,h,q ⟨.bl _,.bl _,[],.z⟩ H (d7 (.bl _)) rfl rfl⟩
theorem yI {a:D} {p:PyData} (h:pyD a=some p) (b:p.canLay0=true) (hd:p.depth<=30):eqP a a=some true:=by
 unfold eqP
 rw [h]
 simp [b,hd,PySem.SeqAt.eqv_refl p b]
end
end L3
end
section
namespace L3
open PySem L2
theorem DD {P:Program} {w:World} {K:FG} {mg:Str->Option Value} {base:Heap} {x:Str} {st:Stmt} {k:Nat} {N ps:List Str} {mask:List Bool} {m:SM} {nn:Nat} {f:Addr} {fd:FuncData} (F:Fun K x x st f fd) (S:FnScope N ps (ag st)) (c:mask.length=ps.length) (b:N.length=nn)
  (body:∀ (a:Value) (A:Around) (outer:List Env) (s:Shared) (H:Hp) (E:XK) (f:Addr) (G:Gm),Room k (A.deeper (PyProof.Rows.envOfC x (ag st) s.heap.objs.size f a))->G.pr=prM mask->RSs (qh CX0 P w K mg base N x (ag st) f a A outer s H E).nox G noX (aU st) m) :
  FnOk P w K mg base CX0 (k+1) f fd ps (uz K (fnM mask nn m)):=by
 refine F.ok S (fun i H Q E h=>?_) fun a A outer s H i Q E l h=>?_
 ·obtain ⟨j,p,fs,rfl,_,_,d,_⟩:=h
  unfold fnM at d
  rw [En] at d ⊢
  split at d
  ·rename_i e;rw [e,c]
  ·exact nsE d
 ·have hle:mask.length<=nn:=by
   rw [c,<- b]
   have:=congrArg List.length S.pre
   rw [EG] at this
   omega
  obtain ⟨G,g,n⟩:=tZ hle h
  subst b
  exact ⟨_,(body a A outer s H E f G l g).h,n⟩
def wj (K:FG):Sp:=fun b H Q _=>∃ (a:Addr) (ns:List Int),b=[.ref a]/\SqL K H a (ns.map V.int)/\Bc H/\ns.length<=63/\∀ H',Q (.bl true) H'
theorem mB {K:FG} {H:Hp}:∀ ns:List Int,Reps (Rep K H) (ns.map D.int) (ns.map V.int) []
 | []=>.nil
 | n :: ns=>.cons (L:=[]) (.int n) (mB ns)
theorem AJ {K:FG} {F:Fn} (j:∀ ns:List Int,ns.length<=63->∃ fs,F [(.fls (ns.map .int),.z)]=some (.ok (.bl true,.z),fs)) {b:List V} {H:Hp} {Q:VK} {E:XK} (h:wj K b H Q E):uz K F b H Q E:=by
 obtain ⟨a,ns,rfl,f,d,g,q⟩:=h
 obtain ⟨fs,e⟩:=j ns g
 have c:FzL K H a (ns.map V.int):=by
  rcases f with (h | h) | h
  ·rcases d a with z | ⟨o,xs,z⟩
   ·rw [h] at z;cases z
   ·rw [h] at z;cases z
  ·exact .inl h
  ·exact .inr h
 refine ⟨[⟨.fls (ns.map .int),.ref a,[],.z⟩],(.bl true,.z),fs,rfl,fun p i=>?_,.cons (fun _ h=>by cases h) .nil,e,fun x qs H' B x1 k _=>?_⟩
 ·rw [EJ.mp i]
  exact ⟨.lstF c (mB ns),fun h=>absurd rfl h⟩
 ·have r:=B.rep
  rw [x1] at r
  have inv:∀ {v:V} {L:List Addr},Rep K H' (.bl true) v L->v=.bl true:=fun r=>by cases r;rfl
  rw [inv r]
  exact q H'
end L3
end
section
namespace L3
open PySem L2
section
variable {K:FG} {G G0:Gm} {W W0:D->Sto->Prop} {H H':Hp} {σ:St} {ρ ρ':Sto} {T T':List It3} {g:Nat->Option It3} {x y z:It3} {α β:Type} {X:Cx} {v:V} {d:D} {L:List Addr}
def bv:List D->Option (List Int)
 | []=>some []
 | .int i :: ds=>(bv ds).map (i :: ·)
 | _=>none
theorem jM:∀ {ds:List D} {ns:List Int},bv ds=some ns->ds=ns.map D.int
 | [],ns,e=>by cases e;rfl
 | d :: ds,ns,e=>by
  cases d <;> try (exact nsE e)
  rename_i b
  obtain ⟨r,h1,h2⟩:=Ef.mp (show (bv ds).map (b :: ·)=some ns from e)
  subst h2
  rw [jM h1];rfl
theorem Reps.ints:∀ {ns:List Int} {a:List V} {L:List Addr},Reps (Rep K H) (ns.map D.int) a L->a=ns.map V.int
 | [],_,_,.nil=>rfl
 | b :: bs,_,_,.cons r rs=>by
  rw [Reps.ints rs]
  cases r;rfl
end
end L3
end
section
namespace L3
open PySem L2
end L3
end
section
namespace L3
open PySem L2
section
variable {K:FG} {G G0:Gm} {W W0:D->Sto->Prop} {H H':Hp} {σ:St} {ρ ρ':Sto} {T T':List It3} {g:Nat->Option It3} {x y z:It3} {α β:Type} {X:Cx} {v:V} {d:D} {L:List Addr}
theorem Reps.rep {ds:List D} {a:List V} {L:List Addr} (r:Reps (Rep K H) ds a L):∀ n:Nat,∃ L',Reps (Rep K H) (List.replicate n ds).flatten (List.replicate n a).flatten L'/\∀ c ∈ L',c ∈ L
 | 0=>⟨[],.nil,fun _ h=>by cases h⟩
 | n+1=>by
  obtain ⟨L',h1,h2⟩:=Reps.rep r n
  refine ⟨L ++ L',?_,fun c b=>?_⟩
  ·rw [List.replicate_succ,List.replicate_succ,List.flatten_cons,List.flatten_cons];exact r.append h1
  ·rcases El.mp b with h | h
   ·exact h
   ·exact h2 c h
def zk (i j:Int):Prop:=0 < j/\j < 1267650600228229401496703205376
theorem xG:OpR X (binaryOp .FloorDiv) (rI zk fun i j=>.int (i / j)):=opI fun i j _ _ _ _ _ a q=>by
 have h1:(0:Int) < j:=a.1
 have h2:j < 1267650600228229401496703205376:=a.2
 refine PyProof.Rows.floordiv_int (by omega) (by rw [Int.fdiv_eq_ediv_of_nonneg i (by omega)];exact q) (.inl (PyProof.noPylong_of_log2 ?_))
 have h3:j.natAbs < 2 ^ 100:=by omega
 exact Nat.lt_trans ((Nat.log2_lt (by omega)).mpr h3) (by decide)
abbrev vw:=bL (fun _ j=>decide (0 < j/\j < 1267650600228229401496703205376)) fun i j=>.int (i / j)
theorem Ax:OpD K (rI zk fun i j=>.int (i / j)) vw:=jo (fun i j h=>by simpa [zk] using h) fun i j _=>.int _
end
end L3
end
section
namespace L3
open PySem L2
end L3
end
section
namespace L3
open PySem L2
end L3
end
section
namespace L3
open PySem L2
end L3
theorem L2.Room.hu {A:PySem.Around} {k:Nat} (a:L2.Room k A):A.units+1 < PySem.cLine:=L2.hu_of a
end
section
namespace L3
open PySem L2
section
variable {K:FG} {G G0:Gm} {W W0:D->Sto->Prop} {H H':Hp} {σ:St} {ρ ρ':Sto} {T T':List It3} {g:Nat->Option It3} {x y z:It3} {α β:Type} {X:Cx} {v:V} {d:D} {L:List Addr}
def rY (x:Int):List Int->List Int
 | []=>[x]
 | y :: ys=>if x<=y then x :: y :: ys else y :: rY x ys
def srt:List Int->List Int
 | []=>[]
 | x :: xs=>rY x (srt xs)
theorem jO (x:Int):∀ l:List Int,(rY x l).Perm (x :: l)
 | []=>.refl _
 | y :: ys=>by
  unfold rY
  split
  ·exact .refl _
  ·exact ((jO x ys).cons y).trans (.swap x y ys)
theorem dJ:∀ l:List Int,(srt l).Perm l
 | []=>.refl _
 | x :: xs=>(jO x (srt xs)).trans ((dJ xs).cons x)
theorem ko (x:Int):∀ {l:List Int},l.Pairwise (·<=·)->(rY x l).Pairwise (·<=·)
 | [],_=>by simp [rY]
 | y :: ys,h=>by
  unfold rY
  have h1:=List.pairwise_cons.mp h
  split
  ·rename_i a
   refine List.pairwise_cons.mpr ⟨fun z hz=>?_,h⟩
   rcases Ei.mp hz with rfl | hz
   ·exact a
   ·have:=h1.1 z hz
    omega
  ·rename_i a
   refine List.pairwise_cons.mpr ⟨fun z hz=>?_,ko x h1.2⟩
   rcases Ei.mp ((jO x ys).subset hz) with rfl | hz
   ·omega
   ·exact h1.1 z hz
theorem dI:∀ l:List Int,(srt l).Pairwise (·<=·)
 | []=>.nil
 | x :: xs=>ko x (dI xs)
theorem d9:∀ {l c:List Int},l.Perm c->l.Pairwise (·<=·)->c.Pairwise (·<=·)->l=c
 | [],c,p,_,_=>by rw [List.nil_perm.mp p]
 | a :: l,[],p,_,_=>by cases p.length_eq
 | a :: l,b :: c,p,h,h'=>by
  have h1:=List.pairwise_cons.mp h
  have h2:=List.pairwise_cons.mp h'
  have e:a=b:=by
   have d:=p.subset (Ec (a:=a) (l:=l))
   have f:=p.symm.subset (Ec (a:=b) (l:=c))
   rcases Ei.mp d with e | d
   ·exact e
   ·rcases Ei.mp f with e | f
    ·exact e.symm
    ·have:=h2.1 a d
     have:=h1.1 b f
     omega
  subst e
  rw [d9 (List.Perm.cons_inv p) h1.2 h2.2]
theorem j9:∀ ns:List Int,Reps (Rep K H) (ns.map D.int) (ns.map V.int) []
 | []=>.nil
 | n :: ns=>.cons (L:=[]) (.int n) (j9 ns)
end
end L3
end
section
namespace L3
open PySem L2
end L3
end
section
namespace L3
open PySem L2
section
variable {K:FG} {G G0:Gm} {W W0:D->Sto->Prop} {H H':Hp}
def ntD (n:List Int):D:=.tup (n.map D.int)
theorem rW:∀ n:List Int,bv (n.map D.int)=some n
 | []=>rfl
 | a :: n=>by
  show (bv (n.map D.int)).map _=_
  rw [rW n];rfl
theorem jc:∀ n:List Int,Reps (Rep K H) (n.map D.int) (n.map V.int) []
 | []=>.nil
 | a :: n=>.cons (L:=[]) (.int a) (jc n)
end
end L3
end
section
namespace L3
open PySem L2
section
variable {K:FG} {G G0:Gm} {W W0:D->Sto->Prop} {H H':Hp} {σ:St} {ρ ρ':Sto} {T T':List It3} {g:Nat->Option It3} {x y z:It3} {α β:Type} {X:Cx}
theorem Reps.rev:∀ {ds:List D} {b:List V} {L:List Addr},Reps (Rep K H) ds b L->∃ L',Reps (Rep K H) ds.reverse b.reverse L'/\∀ c ∈ L',c ∈ L
 | [],_,_,.nil=>⟨[],.nil,fun c a=>a⟩
 | d :: ds,_,_,.cons (v:=v) (L:=L1) r rs=>by
  obtain ⟨L',h1,h2⟩:=Reps.rev rs
  rw [List.reverse_cons,List.reverse_cons]
  refine ⟨L' ++ (L1 ++ []),h1.append (.cons r .nil),fun c a=>?_⟩
  rcases El.mp a with h | h
  ·exact Eh _ (h2 c h)
  ·rw [List.append_nil] at h;exact Eg _ h
def imRev (ms:M3 (List R3)):IM:=ae ms fun rs=>ae (cJ rs) fun ds=>aZ (match ds with
 | [.tup xs]=>some (rs,xs.reverse)
 | _=>none)
def p4 (ma:EM) (pp:M3 (Option Int)):EM:=ae ma fun ra=>ae pp fun o=>ae (der ra) fun d=>aZ (match d with
 | .tup xs=>if o=some (-1) then some (R3.val (.tup xs.reverse) .z) else none
 | _=>none)
theorem zx {ma:EM} {pp:M3 (Option Int)} {Q:VK} (h:tE K G0 W0 (p4 ma pp) σ H Q):Be K (tE K G0 W0 ma) (tP K G0 W0 pp) σ H Q:=by
 refine h.use fun G W le ρ T g o ρ' w e q=>?_
 refine tE.seq le w e q.err fun ra ρ1 e1 u H1 ⟨Ts,g1,A,a1⟩=>?_
 refine tP.seq le A e1 q.err fun lo ρ2 s H2 g2 j=>?_
 obtain ⟨d,d1,n⟩:=aS s
 obtain ⟨p,a,rfl,rfl⟩:=bP n
 obtain ⟨y,r,f1,f2⟩:=a1.item j (fun x b=>Eg _ b) d1
 subst f1 f2
 have k:=(j.itm r).arg
 have inv:∃ xs,y.d=.tup xs/\lo=some (-1)/\p=R3.val (.tup xs.reverse) .z:=by
  split at a
  ·rename_i xs b
   by_cases f:lo=some (-1)
   ·rw [if_pos f] at a
    exact ⟨xs,b,f,(EW a).symm⟩
   ·rw [if_neg f] at a;cases a
  ·cases a
 obtain ⟨xs,l,rfl,rfl⟩:=inv
 have C:=m4 j (ys:=[y]) (fun z hz=>by rw [EJ.mp hz];exact r) q
 clear e e1 s n a d1 q
 obtain ⟨da,u,t,v⟩:=y
 dsimp only at l
 subst l
 have i:=k
 obtain ⟨m,E⟩:=k
 dsimp only at m
 cases m with
 | @tup _ pa vs L ha rs =>
  obtain ⟨L',h1,h2⟩:=rs.rev
  exact ⟨pa,vs,rfl,rfl,SqT.of ha,fun p D=>C ⟨_,.ref p,L',.z⟩ _ (uW D h1 fun c B=>jl (y:=⟨.tup xs,.ref pa,t,v⟩) Ec i rfl c (h2 c B)) rfl rfl⟩
theorem z4 {e st:Expr} {p2 pos:Pos} {m:EM} {pp:M3 (Option Int)} (he:RE X G0 W0 e m) (a:RP X G0 W0 (some st) pp):RE X G0 W0 (.Subscript e (.Slice none none (some st) p2) pos) (p4 m pp):=⟨PE.imp (Aj he.h a.h) fun _ _ _ h=>zx h⟩
end
end L3
end
section
namespace L3
open PySem L2
end L3
end
section
namespace L3
open PySem L2
section
variable {K:FG} {H H':Hp}
theorem s9:∀ {ns:List (List Int)} {bs:List Addr},bs.length=ns.length->(∀ (i:Nat) (b:Addr) (n:List Int),bs[i]?=some b->ns[i]?=some n->H b=some (.tup (n.map V.int)))->Reps (Rep K H) (ns.map ntD) (bs.map V.ref) []
 | [],[],_,_=>.nil
 | [],_ :: _,h,_=>by cases h
 | _ :: _,[],h,_=>by cases h
 | n :: ns,b :: bs,h,q=>.cons (L:=[]) (.tup (q 0 b n rfl rfl) (jc n)) (s9 (by simpa using h) fun i b n e1 a=>q (i+1) b n (by simpa using e1) (by simpa using a))
end
end L3
end
section
namespace L3
open PySem L2
end L3
end
section
namespace L3
open PySem L2
section
variable {K:FG} {H H':Hp}
def j0:List D->Option (List (List Int))
 | []=>some []
 | .tup ys :: ds=>(bv ys).bind fun n=>(j0 ds).map (n :: ·)
 | _=>none
theorem oU:∀ {ds:List D} {ns:List (List Int)},j0 ds=some ns->ds=ns.map ntD
 | [],ns,h=>by cases h;rfl
 | d :: ds,ns,h=>by
  cases d with
  | tup ys =>
   obtain ⟨n,h1,h2⟩:=EI.mp (show ((bv ys).bind fun n=>(j0 ds).map (n :: ·))=some ns from h)
   obtain ⟨ms,h3,a⟩:=Ef.mp h2
   rw [oU h3,<- a,jM h1];rfl
  | _=>exact nsE h
def yo (ns:List (List Int)):Bool:=ns.all (fun n=>!n.isEmpty) || (match ns with | [] :: _=>true | _=>false)
theorem AM {ns:List (List Int)} (h:yo ns=true):kOk ns:=by
 rcases Bool.or_eq_true_iff.mp h with h | h
 ·refine .inl fun n a z=>?_
  have:=List.all_eq_true.mp h n a
  subst z;simp at this
 ·refine .inr ?_
  cases ns with
  | nil=>cases h
  | cons n ns=>cases n with
   | nil=>rfl
   | cons i n=>cases h
def B9:D->Option (D × Fl)
 | .lst ds=>(j0 ds).bind fun ns=>if (yo ns && decide (ns.length<=16777216))=true then (bA ns).bind fun is=>if (decide (is.length<=16777216) && is.all fun i=>decide (i < ns.length))=true then some (.lst (is.map fun i=>ntD (ns.getD i [])),.u) else none else none
 | _=>none
abbrev kW:=c1 B9
theorem mz:∀ {ns:List (List Int)} {c:List V} {L:List Addr},Reps (Rep K H) (ns.map ntD) c L->∃ bs:List Addr,c=bs.map V.ref/\ns.length=bs.length/\∀ (i:Nat) (b:Addr) (n:List Int),bs[i]?=some b->ns[i]?=some n->H b=some (.tup (n.map V.int))
 | [],_,_,.nil=>⟨[],rfl,rfl,fun i b n e=>by simp at e⟩
 | n :: ns,_,_,.cons r rs=>by
  obtain ⟨bs,e1,g,d⟩:=mz rs
  cases r with
  | @tup _ a c _ ha hr =>
   have f:c=n.map V.int:=Reps.ints hr
   subst f e1
   refine ⟨a :: bs,rfl,by simp [g],fun i b m h1 h2=>?_⟩
   cases i with
   | zero=>cases h1;cases h2;exact ha
   | succ i=>exact d i b m (by simpa using h1) (by simpa using h2)
theorem yT:eM K (xc K) kW:=fun ys H Q p ra e q=>by
 obtain ⟨y,rfl,d⟩:=io e
 clear e
 have e:=d
 clear d
 have l:=(ra y Ec).rep
 obtain ⟨da,B,A,C⟩:=y
 dsimp only at l e
 cases da with
 | lst ds =>
  obtain ⟨ns,h1,h2⟩:=EI.mp (show ((j0 ds).bind fun ns=>_)=some p from e)
  by_cases f:(yo ns && decide (ns.length<=16777216))=true
  ·rw [if_pos f] at h2
   obtain ⟨h3,s⟩:=Bool.and_eq_true_iff.mp f
   obtain ⟨is,o,g⟩:=EI.mp h2
   by_cases hd:(decide (is.length<=16777216) && is.all fun i=>decide (i < ns.length))=true
   ·rw [if_pos hd] at g
    cases g
    obtain ⟨r,m⟩:=Bool.and_eq_true_iff.mp hd
    cases oU h1
    obtain ⟨a,D,E,rfl,rfl,x,rs⟩:=l.view
    obtain ⟨bs,rfl,v,k⟩:=mz rs
    refine ⟨a,bs,ns,is,rfl,SqL.of x,v,k,AM h3,o,by rw [sizeLine_eq];exact of_decide_eq_true s,by rw [sizeLine_eq];exact of_decide_eq_true r,fun p w=>?_⟩
    have t:(is.map fun i=>V.ref (bs.getD i 0))=(is.map fun i=>bs.getD i 0).map V.ref:=by rw [EV];rfl
    have h:(is.map fun i=>ntD (ns.getD i []))=(is.map fun i=>ns.getD i []).map ntD:=by rw [EV];rfl
    rw [t]
    refine q ⟨.lst (is.map fun i=>ntD (ns.getD i [])),.ref p,[p],.u⟩ _ (rK w ?_ fun c f=>by cases f) rfl rfl
    rw [h]
    refine s9 (by simp) fun i b n e1 d=>?_
    rw [Et] at e1 d
    cases hi:is[i]? with
    | none=>rw [hi] at e1;cases e1
    | some j =>
     rw [hi] at e1 d
     have z:j < ns.length:=of_decide_eq_true (List.all_eq_true.mp m j (Ep hi))
     have g1:bs[j]?=some bs[j]:=Ej (by omega)
     have g2:ns[j]?=some ns[j]:=Ej z
     have e1:bs.getD j 0=b:=EW e1
     have d:ns.getD j []=n:=EW d
     rw [List.getD,g1] at e1
     rw [List.getD,g2] at d
     subst e1 d
     exact k j _ _ g1 g2
   ·rw [if_neg hd] at g;exact nsE g
  ·rw [if_neg f] at h2;exact nsE h2
 | _=>exact nsE e
end
end L3
end
section
namespace L3
open PySem L2
section
variable {K:FG} {G0:Gm} {W0:D->Sto->Prop} {X:Cx}
def ssQ:D->Option (D × Fl)
 | .tup xs=>(bv xs).bind fun ns=>if ns.length < 64 then some (.lst ((srt (ns.foldl met [])).map .int),.u) else none
 | _=>none
abbrev ssD:=c1 ssQ
def rSS (X:Cx):List V->Hp->VK->Prop:=fun xs H Q=>rSet X xs H fun v H1=>xb X [v] H1 Q
theorem cd_ss:eM X.K (rSS X) ssD:=fun ys H Q p ra e q=>by
 obtain ⟨y,rfl,i⟩:=io e
 clear e
 have k:=(ra y Ec).rep
 obtain ⟨da,x,n,o⟩:=y
 dsimp only at k i
 cases da <;> try (exact nsE i)
 rename_i xs
 obtain ⟨j,A,rfl,t,rs⟩:=k.view
 obtain ⟨ns,h1,h2⟩:=EI.mp i
 split at h2
 ·rename_i h
  cases h2
  have v:=jM h1
  subst v
  have r:=rs.ints
  subst r
  refine ⟨j,ns,rfl,SqT.of t,h,fun a l=>⟨a,ns.foldl met [],rfl,aJ,?_,fun b f m s p2=>?_⟩⟩
  ·have:=pN ns []
   simp at this
   omega
  ·rw [d9 (s.trans (dJ _).symm) p2 (dI _)]
   have d:H b=none:=by
    by_cases z:b=a
    ·rw [z];exact l
    ·rw [aw z] at f;exact f
   have w:=rK (K:=X.K) (Ks:=dm [⟨.tup (ns.map .int),.ref j,n,o⟩]) f (j9 (K:=X.K) (H:=upd H a (zI X a (ns.foldl met []))) (srt (ns.foldl met []))) (fun c g=>by cases g)
   refine q ⟨.lst ((srt (ns.foldl met [])).map .int),.ref b,[b],.u⟩ _ ⟨(bJ l).trans w.same,w.rep,fun c g=>?_,fun _=>⟨rfl,b,[],rfl,rfl,List.not_mem_nil,d⟩⟩ rfl rfl
   cases EJ.mp g
   exact .inl d
 ·exact nsE h2
theorem re_ss {e:Expr} {m:EM} {x y:Str} {p a pos pos':Pos} (i:X.calm=true) (j:Gl X x) (hm:X.mg x=none) (k:bootBuiltins x=some (.builtin "sorted")) (f:Gl X y) (d:X.mg y=none) (g:bootBuiltins y=some (.type "set")) (n:RE X G0 W0 e m)
  (l:x ≠ "__name__") (hd:(x == ("__debug__":Str))=false) (b:y ≠ "__name__") (c:(y == ("__debug__":Str))=false) (s1:starEach [e] X.env=(false,eval e X.env) :: starEach [] X.env)
  (s2:starEach [.Call (.Name y a) [e] [] pos'] X.env=(false,eval (.Call (.Name y a) [e] [] pos') X.env) :: starEach [] X.env) :
  RE X G0 W0 (.Call (.Name x p) [.Call (.Name y a) [e] [] pos'] [] pos) (au ssD (aa m af)) :=
 ⟨PE.imp (lg (sk i) j hm k (jf (mF (vD i) f d g (tj n xa s1).h b c s1 rfl) nO s2) l hd s2 rfl) fun σ H Q h=>(kU (r:=rSS X) cd_ss h:tCB (rSS X) (tA X.K G0 W0 (aa m af)) σ H Q)⟩
end
end L3
end
section
namespace L3
open PySem L2
section
variable {K:FG} {G0:Gm} {W0:D->Sto->Prop} {X:Cx}
def Dp (k:Key) (i:Int):EM:=aW (.val (.dk [(k,.int i)]) .u)
theorem CF {k v:Expr} {key:Key} {i:Int} {pos:Pos} (f:PE X k (tC (kV key))) (j:PE X v (tC (.int i))):RE X G0 W0 (.Dict [some k] [v] pos) (Dp key i):=⟨PE.imp (C0 f j) fun σ H Q h=>by
 refine h.use fun G W le ρ T g o ρ' w e q=>?_
 cases e
 intro p a
 have sm:Same H (upd (upd H p (.dK [])) p (.dK [(key,.int i)])):=fun b o d=>by
  have n:b ≠ p:=fun z=>by rw [z,a] at d;cases d
  rw [aw n,aw n];exact d
 refine q _ _ (Wf.done (Us:=[]) (ys:=[]) (x:=⟨.dk [(key,.int i)],.ref p,[p],.u⟩) w (fun _ h=>(by cases h)) ⟨sm,.dK (L:=[]) aJ rfl (.cons (L:=[]) (.int i) .nil),fun c l=>?_,fun _=>⟨rfl,p,[],rfl,rfl,(by simp),a⟩⟩)
 rw [EJ.mp l];exact .inl a⟩
def Do (ns:List Int) (i:Int):EM:=aW (.val (.dt [(ns.map Sum.inl,.int i)]) .u)
theorem CD {es:List Expr} {x1:Nat} {v:Expr} {ns:List Int} {i:Int} {pos pos':Pos} (hu:X.A.units+1 < cLine) (h0:ns ≠ []) (hz:ns.length<=100) (k:es.map vJ=ns.map some) (l:PE X v (tC (.int i))):RE X G0 W0 (.Dict [some (.Tuple es x1 pos')] [v] pos) (Do ns i):=⟨PE.imp (CZ hu h0 hz k l) fun σ H Q h=>by
 refine h.use fun G W le ρ T g o ρ' w e q=>?_
 cases e
 intro p f b d
 have nb:b ≠ p:=fun z=>by rw [z,aJ] at d;cases d
 have j:H b=none:=by rw [aw nb] at d;exact d
 have sm:Same H (upd (upd (upd H p (.dT [])) b (.tup (ns.map V.int))) p (.dT [(ns.map Sum.inl,.int i)])):=fun c o a=>by
  have n:c ≠ p:=fun z=>by rw [z,f] at a;cases a
  have m:c ≠ b:=fun z=>by rw [z,j] at a;cases a
  rw [aw n,aw m,aw n];exact a
 refine q _ _ (Wf.done (Us:=[]) (ys:=[]) (x:=⟨.dt [(ns.map Sum.inl,.int i)],.ref p,[p],.u⟩) w (fun _ h=>(by cases h)) ⟨sm,.dT (L:=[]) aJ rfl (.cons (L:=[]) (.int i) .nil),fun c a=>?_,fun _=>⟨rfl,p,[],rfl,rfl,(by simp),f⟩⟩)
 rw [EJ.mp a];exact .inl f⟩
end
end L3
end
section
namespace L3
open PySem L2
section
variable {K:FG} {X:Cx}
theorem p8:∀ {a b:List Int},a.map V.int=b.map V.int->a=b
 | [],[],_=>rfl
 | [],b :: bs,e=>by cases e
 | a :: as,[],e=>by cases e
 | a :: as,b :: bs,e=>by
  rw [Ey,Ey] at e
  injection e with e1 e2
  injection e1 with e1
  rw [e1,p8 e2]
abbrev ul (H:Hp) (b:Addr) (ns:List Int):Prop:=H b=some (.tup (ns.map V.int))
def xU (H:Hp) (ks:List Int) (w:Value):Bool:=@decide (∃ b,w=.ref b/\ul H b ks) (Classical.propDecidable _)
theorem xT {H:Hp} {ks ns:List Int} {b:Addr} (h:ul H b ns):xU H ks (.ref b)=decide (ns=ks):=by
 unfold xU
 by_cases e:ns=ks
 ·subst e
  rw [Ez rfl]
  exact @Ez _ (Classical.propDecidable _) ⟨b,rfl,h⟩
 ·rw [EA e]
  refine @EA _ (Classical.propDecidable _) ?_
  rintro ⟨c,e1,h2⟩
  injection e1 with e1
  subst e1
  unfold ul at h h2
  rw [h] at h2
  injection h2 with h2
  injection h2 with h2
  exact e (p8 h2)
inductive TupsAt (H:Hp):List V->List (List Int)->Prop
 | nil:TupsAt H [] []
 | cons {b:Addr} {ns:List Int} {vs:List V} {nss:List (List Int)}:ul H b ns->TupsAt H vs nss->TupsAt H (.ref b :: vs) (ns :: nss)
theorem TupsAt.any {H:Hp} {ks:List Int}:∀ {a:List V} {nss:List (List Int)} {us:List Value},TupsAt H a nss->Vals a us->us.any (xU H ks)=decide (ks ∈ nss)
 | _,_,_,.nil,.nil=>rfl
 | _,_,_,.cons (b:=b) (ns:=ns) (nss:=nss) h t,.cons r rs=>by
  have c:=TupsAt.any (ks:=ks) t rs
  cases r
  rw [List.any_cons,c,xT h,Bool.eq_iff_iff]
  simp only [Bool.or_eq_true,decide_eq_true_eq,Ei]
  constructor
  ·rintro (h | h)
   ·exact .inl h.symm
   ·exact .inr h
  ·rintro (h | h)
   ·exact .inl h.symm
   ·exact .inr h
end
end L3
end
section
namespace L2
open PySem PySem.Spec PyProof.Rows
variable {cmp:Nat->Nat->Option Bool} {α β:Type}
theorem ai {m:StateT SortSt Sem α} {f:α->StateT SortSt Sem β} {st st1:SortSt} {a:α} {r:Option ((β × SortSt) × Option Addr)} (h1:ev cmp (m.run st) none=some ((a,st1),none)) (h2:ev cmp ((f a).run st1) none=r):ev cmp ((m >>= f).run st) none=r:=by
 show ev cmp ((m.run st).bind fun x=>(f x.1).run x.2) none=r
 rw [t4,h1]
 exact h2
theorem cT {f:Nat->β->StateT SortSt Sem (ForInStep β)} {i:Nat} {l:List Nat} {b b1:β} {st st1:SortSt} {r:Option ((β × SortSt) × Option Addr)} (h:ev cmp ((f i b).run st) none=some ((.yield b1,st1),none)) (h2:ev cmp ((forIn l b1 f).run st1) none=r):ev cmp ((forIn (i :: l) b f).run st) none=r:=by
 rw [List.forIn_cons]
 exact ai h h2
theorem eJ {f:Nat->β->StateT SortSt Sem (ForInStep β)} {i:Nat} {l:List Nat} {b b1:β} {st st1:SortSt} (h:ev cmp ((f i b).run st) none=some ((.done b1,st1),none)):ev cmp ((forIn (i :: l) b f).run st) none=some ((b1,st1),none):=by
 rw [List.forIn_cons]
 exact ai h rfl
def am (l:List Nat) (p:List (Nat × Nat × Nat)) (g:Nat):SortSt:=SortSt.mk' (ba true) ((l.map fun i=>((Value.ref i,Value.ref i):Keyed)).toArray) p.toArray g none
theorem mI:∀ L:List Nat,(L.map fun i=>((Value.ref i,Value.ref i):Keyed)).mapM lh=some L
 | []=>rfl
 | x :: L=>by
  have a:=mI L
  rw [Ey,List.mapM_cons,a]
  rfl
theorem j5 {ns:List (List Int)} {n:Nat} {a:List Nat} {p:List (Nat × Nat × Nat)} {g:Nat} (h0:ns.length=n) (h:ev (bE ns) (sortRuns'.run (am (List.range n) [] 7)) none=some (((),am a p g),none)):bA ns=some a:=by
 unfold bA
 subst h0
 have e:SortSt.mk' (ba true) (mJ ns.length) #[] 7 none=am (List.range ns.length) [] 7:=rfl
 rw [e,h]
 show (arrOf (am a p g)).toList.mapM lh=some a
 show ((a.map fun i=>((Value.ref i,Value.ref i):Keyed)).toArray).toList.mapM lh=some a
 rw [List.toList_toArray]
 exact mI a
end L2
end
section
namespace L2
open PySem PySem.Spec PyProof.Rows
def U6:List (List Int):=[[],[0],[1],[0,1],[2],[0,2],[1,2],[0,1,2],[3],[0,3],[1,3],[0,1,3],[2,3],[0,2,3],[1,2,3],[0,1,2,3],[4],[0,4],[1,4],[0,1,4],[2,4],[0,2,4],[1,2,4],[0,1,2,4],[3,4],[0,3,4],[1,3,4],[0,1,3,4],[2,3,4],[0,2,3,4],[1,2,3,4],[0,1,2,3,4],[5],[0,5],[1,5],[0,1,5],[2,5],[0,2,5],[1,2,5],[0,1,2,5],[3,5],[0,3,5],[1,3,5],[0,1,3,5],[2,3,5],[0,2,3,5],[1,2,3,5],[0,1,2,3,5],[4,5],[0,4,5],[1,4,5],[0,1,4,5],[2,4,5],[0,2,4,5],[1,2,4,5],[0,1,2,4,5],[3,4,5],[0,3,4,5],[1,3,4,5],[0,1,3,4,5],[2,3,4,5],[0,2,3,4,5],[1,2,3,4,5],[0,1,2,3,4,5]]
def qK:List Nat:=List.range 64
def sP:List Nat:=[0,1,3,7,15,31,23,11,27,19,5,13,29,21,9,25,17,2,6,14,30,22,10,26,18,4,12,28,20,8,24,16,32,33,34,35,36,37,38,39,40,41,42,43,44,45,46,47,48,49,50,51,52,53,54,55,56,57,58,59,60,61,62,63]
def DY:List Nat:=[0,1,3,7,15,31,23,11,27,19,5,13,29,21,9,25,17,2,6,14,30,22,10,26,18,4,12,28,20,8,24,16,33,32,34,35,36,37,38,39,40,41,42,43,44,45,46,47,48,49,50,51,52,53,54,55,56,57,58,59,60,61,62,63]
def fV:List Nat:=[0,1,3,7,15,31,23,11,27,19,5,13,29,21,9,25,17,2,6,14,30,22,10,26,18,4,12,28,20,8,24,16,63,47,55,39,59,43,51,35,61,45,53,37,57,41,49,33,62,46,54,38,58,42,50,34,60,44,52,36,56,40,48,32]
def L6_4:List Nat:=[0,1,3,7,15,31,63,47,23,55,39,11,27,59,43,19,51,35,5,13,29,61,45,21,53,37,9,25,57,41,17,49,33,2,6,14,30,62,46,22,54,38,10,26,58,42,18,50,34,4,12,28,60,44,20,52,36,8,24,56,40,16,48,32]
theorem g6_0:ev (bE U6) ((countRun' 0 64).run (am qK [] 7)) none=some ((some 3,(am qK [] 7)),none):=by kernel_rfl
theorem g6_1:ev (bE U6) ((binarySort' 0 32 3).run (am qK [] 7)) none=some ((true,(am sP [] 7)),none):=by kernel_rfl
theorem g6_2:ev (bE U6) ((countRun' 32 32).run (am sP [(0,32,0)] 7)) none=some ((some 2,(am DY [(0,32,0)] 7)),none):=by kernel_rfl
theorem g6_3:ev (bE U6) ((binarySort' 32 32 2).run (am DY [(0,32,0)] 7)) none=some ((true,(am fV [(0,32,0)] 7)),none):=by kernel_rfl
theorem g6_4:ev (bE U6) ((mergeAt' 0).run (am fV [(0,32,1),(32,32,0)] 7)) none=some ((true,(am L6_4 [(0,64,1)] 7)),none):=by kernel_rfl
theorem runs6:ev (bE U6) (sortRuns'.run (am qK [] 7)) none=some (((),(am L6_4 [(0,64,1)] 7)),none):=by
 rw [sortRuns'_eq]
 refine ai (a:=(am qK [] 7)) (st1:=(am qK [] 7)) rfl ?_
 have b:(arrOf (am qK [] 7)).size=64:=by kernel_rfl
 have c:minRun' 64 64 0=32:=rfl
 rw [b]
 try dsimp only
 rw [c]
 rw [Std.Legacy.Range.forIn_eq_forIn_range']
 refine ai (a:=(none,64)) (st1:=(am fV [(0,32,1),(32,32,0)] 7)) (cT (b1:=(none,32)) (st1:=(am sP [(0,32,0)] 7)) ?_ (cT (b1:=(none,64)) (st1:=(am fV [(0,32,1),(32,32,0)] 7)) ?_ (eJ (b1:=(none,64)) (st1:=(am fV [(0,32,1),(32,32,0)] 7)) ?_))) ?_
 ·try dsimp only
  rw [if_neg (by decide)]
  refine ai g6_0 ?_
  try dsimp only
  rw [if_pos (by decide)]
  refine ai (a:=()) (st1:=(am qK [] 7)) rfl ?_
  refine ai g6_1 ?_
  rw [if_neg (by decide)]
  refine ai (a:=(am sP [] 7)) (st1:=(am sP [] 7)) rfl ?_
  rw [show (pendingOf (am sP [] 7)).back?=none from rfl]
  try dsimp only
  refine ai (a:=()) (st1:=(am sP [(0,32,0)] 7)) rfl ?_
  exact rfl
 ·try dsimp only
  rw [if_neg (by decide)]
  refine ai g6_2 ?_
  try dsimp only
  rw [if_pos (by decide)]
  refine ai (a:=()) (st1:=(am DY [(0,32,0)] 7)) rfl ?_
  refine ai g6_3 ?_
  rw [if_neg (by decide)]
  refine ai (a:=(am fV [(0,32,0)] 7)) (st1:=(am fV [(0,32,0)] 7)) rfl ?_
  rw [show (pendingOf (am fV [(0,32,0)] 7)).back?=some (0,32,0) from rfl]
  try dsimp only
  rw [Std.Legacy.Range.forIn_eq_forIn_range']
  refine ai (a:=(none,())) (st1:=(am fV [(0,32,0)] 7)) (eJ (b1:=(none,())) (st1:=(am fV [(0,32,0)] 7)) ?_) ?_
  ·try dsimp only
   refine ai (a:=(am fV [(0,32,0)] 7)) (st1:=(am fV [(0,32,0)] 7)) rfl ?_
   rw [show (if (pendingOf (am fV [(0,32,0)] 7)).size > 1 then (pendingOf (am fV [(0,32,0)] 7))[(pendingOf (am fV [(0,32,0)] 7)).size - 2]? else none)=none from rfl]
   exact rfl
  try dsimp only
  refine ai (a:=()) (st1:=(am fV [(0,32,1)] 7)) rfl ?_
  refine ai (a:=()) (st1:=(am fV [(0,32,1),(32,32,0)] 7)) rfl ?_
  exact rfl
 ·try dsimp only
  rw [if_pos (by decide)]
  exact rfl
 try dsimp only
 rw [Std.Legacy.Range.forIn_eq_forIn_range']
 refine ai (a:=(none,())) (st1:=(am L6_4 [(0,64,1)] 7)) (cT (b1:=(none,())) (st1:=(am L6_4 [(0,64,1)] 7)) ?_ (eJ (b1:=(none,())) (st1:=(am L6_4 [(0,64,1)] 7)) ?_)) ?_
 ·try dsimp only
  refine ai (a:=(am fV [(0,32,1),(32,32,0)] 7)) (st1:=(am fV [(0,32,1),(32,32,0)] 7)) rfl ?_
  rw [if_neg (by decide)]
  refine ai g6_4 ?_
  rw [if_neg (by decide)]
  exact rfl
 ·try dsimp only
  refine ai (a:=(am L6_4 [(0,64,1)] 7)) (st1:=(am L6_4 [(0,64,1)] 7)) rfl ?_
  rw [if_pos (by decide)]
  exact rfl
 exact rfl
theorem sort6:bA U6=some L6_4:=j5 (n:=64) rfl runs6
end L2
end
section
namespace L2
open PySem PySem.Spec PyProof.Rows
def U7:List (List Int):=[[],[0],[1],[0,1],[2],[0,2],[1,2],[0,1,2],[3],[0,3],[1,3],[0,1,3],[2,3],[0,2,3],[1,2,3],[0,1,2,3],[4],[0,4],[1,4],[0,1,4],[2,4],[0,2,4],[1,2,4],[0,1,2,4],[3,4],[0,3,4],[1,3,4],[0,1,3,4],[2,3,4],[0,2,3,4],[1,2,3,4],[0,1,2,3,4],[5],[0,5],[1,5],[0,1,5],[2,5],[0,2,5],[1,2,5],[0,1,2,5],[3,5],[0,3,5],[1,3,5],[0,1,3,5],[2,3,5],[0,2,3,5],[1,2,3,5],[0,1,2,3,5],[4,5],[0,4,5],[1,4,5],[0,1,4,5],[2,4,5],[0,2,4,5],[1,2,4,5],[0,1,2,4,5],[3,4,5],[0,3,4,5],[1,3,4,5],[0,1,3,4,5],[2,3,4,5],[0,2,3,4,5],[1,2,3,4,5],[0,1,2,3,4,5],[6],[0,6],[1,6],[0,1,6],[2,6],[0,2,6],[1,2,6],[0,1,2,6],[3,6],[0,3,6],[1,3,6],[0,1,3,6],[2,3,6],[0,2,3,6],[1,2,3,6],[0,1,2,3,6],[4,6],[0,4,6],[1,4,6],[0,1,4,6],[2,4,6],[0,2,4,6],[1,2,4,6],[0,1,2,4,6],[3,4,6],[0,3,4,6],[1,3,4,6],[0,1,3,4,6],[2,3,4,6],[0,2,3,4,6],[1,2,3,4,6],[0,1,2,3,4,6],[5,6],[0,5,6],[1,5,6],[0,1,5,6],[2,5,6],[0,2,5,6],[1,2,5,6],[0,1,2,5,6],[3,5,6],[0,3,5,6],[1,3,5,6],[0,1,3,5,6],[2,3,5,6],[0,2,3,5,6],[1,2,3,5,6],[0,1,2,3,5,6],[4,5,6],[0,4,5,6],[1,4,5,6],[0,1,4,5,6],[2,4,5,6],[0,2,4,5,6],[1,2,4,5,6],[0,1,2,4,5,6],[3,4,5,6],[0,3,4,5,6],[1,3,4,5,6],[0,1,3,4,5,6],[2,3,4,5,6],[0,2,3,4,5,6],[1,2,3,4,5,6],[0,1,2,3,4,5,6]]
def qJ:List Nat:=List.range 128
def sO:List Nat:=[0,1,3,7,15,31,23,11,27,19,5,13,29,21,9,25,17,2,6,14,30,22,10,26,18,4,12,28,20,8,24,16,32,33,34,35,36,37,38,39,40,41,42,43,44,45,46,47,48,49,50,51,52,53,54,55,56,57,58,59,60,61,62,63,64,65,66,67,68,69,70,71,72,73,74,75,76,77,78,79,80,81,82,83,84,85,86,87,88,89,90,91,92,93,94,95,96,97,98,99,100,101,102,103,104,105,106,107,108,109,110,111,112,113,114,115,116,117,118,119,120,121,122,123,124,125,126,127]
def DX:List Nat:=[0,1,3,7,15,31,23,11,27,19,5,13,29,21,9,25,17,2,6,14,30,22,10,26,18,4,12,28,20,8,24,16,33,32,34,35,36,37,38,39,40,41,42,43,44,45,46,47,48,49,50,51,52,53,54,55,56,57,58,59,60,61,62,63,64,65,66,67,68,69,70,71,72,73,74,75,76,77,78,79,80,81,82,83,84,85,86,87,88,89,90,91,92,93,94,95,96,97,98,99,100,101,102,103,104,105,106,107,108,109,110,111,112,113,114,115,116,117,118,119,120,121,122,123,124,125,126,127]
def iV:List Nat:=[0,1,3,7,15,31,23,11,27,19,5,13,29,21,9,25,17,2,6,14,30,22,10,26,18,4,12,28,20,8,24,16,63,47,55,39,59,43,51,35,61,45,53,37,57,41,49,33,62,46,54,38,58,42,50,34,60,44,52,36,56,40,48,32,64,65,66,67,68,69,70,71,72,73,74,75,76,77,78,79,80,81,82,83,84,85,86,87,88,89,90,91,92,93,94,95,96,97,98,99,100,101,102,103,104,105,106,107,108,109,110,111,112,113,114,115,116,117,118,119,120,121,122,123,124,125,126,127]
def DW:List Nat:=[0,1,3,7,15,31,23,11,27,19,5,13,29,21,9,25,17,2,6,14,30,22,10,26,18,4,12,28,20,8,24,16,63,47,55,39,59,43,51,35,61,45,53,37,57,41,49,33,62,46,54,38,58,42,50,34,60,44,52,36,56,40,48,32,65,64,66,67,68,69,70,71,72,73,74,75,76,77,78,79,80,81,82,83,84,85,86,87,88,89,90,91,92,93,94,95,96,97,98,99,100,101,102,103,104,105,106,107,108,109,110,111,112,113,114,115,116,117,118,119,120,121,122,123,124,125,126,127]
def l4:List Nat:=[0,1,3,7,15,31,23,11,27,19,5,13,29,21,9,25,17,2,6,14,30,22,10,26,18,4,12,28,20,8,24,16,63,47,55,39,59,43,51,35,61,45,53,37,57,41,49,33,62,46,54,38,58,42,50,34,60,44,52,36,56,40,48,32,95,79,87,71,91,75,83,67,93,77,85,69,89,73,81,65,94,78,86,70,90,74,82,66,92,76,84,68,88,72,80,64,96,97,98,99,100,101,102,103,104,105,106,107,108,109,110,111,112,113,114,115,116,117,118,119,120,121,122,123,124,125,126,127]
def jX:List Nat:=[0,1,3,7,15,31,63,47,23,55,39,11,27,59,43,19,51,35,5,13,29,61,45,21,53,37,9,25,57,41,17,49,33,2,6,14,30,62,46,22,54,38,10,26,58,42,18,50,34,4,12,28,60,44,20,52,36,8,24,56,40,16,48,32,95,79,87,71,91,75,83,67,93,77,85,69,89,73,81,65,94,78,86,70,90,74,82,66,92,76,84,68,88,72,80,64,96,97,98,99,100,101,102,103,104,105,106,107,108,109,110,111,112,113,114,115,116,117,118,119,120,121,122,123,124,125,126,127]
def DU:List Nat:=[0,1,3,7,15,31,63,47,23,55,39,11,27,59,43,19,51,35,5,13,29,61,45,21,53,37,9,25,57,41,17,49,33,2,6,14,30,62,46,22,54,38,10,26,58,42,18,50,34,4,12,28,60,44,20,52,36,8,24,56,40,16,48,32,95,79,87,71,91,75,83,67,93,77,85,69,89,73,81,65,94,78,86,70,90,74,82,66,92,76,84,68,88,72,80,64,97,96,98,99,100,101,102,103,104,105,106,107,108,109,110,111,112,113,114,115,116,117,118,119,120,121,122,123,124,125,126,127]
def fU:List Nat:=[0,1,3,7,15,31,63,47,23,55,39,11,27,59,43,19,51,35,5,13,29,61,45,21,53,37,9,25,57,41,17,49,33,2,6,14,30,62,46,22,54,38,10,26,58,42,18,50,34,4,12,28,60,44,20,52,36,8,24,56,40,16,48,32,95,79,87,71,91,75,83,67,93,77,85,69,89,73,81,65,94,78,86,70,90,74,82,66,92,76,84,68,88,72,80,64,127,111,119,103,123,107,115,99,125,109,117,101,121,105,113,97,126,110,118,102,122,106,114,98,124,108,116,100,120,104,112,96]
def zg:List Nat:=[0,1,3,7,15,31,63,47,23,55,39,11,27,59,43,19,51,35,5,13,29,61,45,21,53,37,9,25,57,41,17,49,33,2,6,14,30,62,46,22,54,38,10,26,58,42,18,50,34,4,12,28,60,44,20,52,36,8,24,56,40,16,48,32,127,95,111,79,119,87,103,71,123,91,107,75,115,83,99,67,125,93,109,77,117,85,101,69,121,89,105,73,113,81,97,65,126,94,110,78,118,86,102,70,122,90,106,74,114,82,98,66,124,92,108,76,116,84,100,68,120,88,104,72,112,80,96,64]
def L7_10:List Nat:=[0,1,3,7,15,31,63,127,95,47,111,79,23,55,119,87,39,103,71,11,27,59,123,91,43,107,75,19,51,115,83,35,99,67,5,13,29,61,125,93,45,109,77,21,53,117,85,37,101,69,9,25,57,121,89,41,105,73,17,49,113,81,33,97,65,2,6,14,30,62,126,94,46,110,78,22,54,118,86,38,102,70,10,26,58,122,90,42,106,74,18,50,114,82,34,98,66,4,12,28,60,124,92,44,108,76,20,52,116,84,36,100,68,8,24,56,120,88,40,104,72,16,48,112,80,32,96,64]
theorem g7_0:ev (bE U7) ((countRun' 0 128).run (am qJ [] 7)) none=some ((some 3,(am qJ [] 7)),none):=by kernel_rfl
theorem g7_1:ev (bE U7) ((binarySort' 0 32 3).run (am qJ [] 7)) none=some ((true,(am sO [] 7)),none):=by kernel_rfl
theorem g7_2:ev (bE U7) ((countRun' 32 96).run (am sO [(0,32,0)] 7)) none=some ((some 2,(am DX [(0,32,0)] 7)),none):=by kernel_rfl
theorem g7_3:ev (bE U7) ((binarySort' 32 32 2).run (am DX [(0,32,0)] 7)) none=some ((true,(am iV [(0,32,0)] 7)),none):=by kernel_rfl
theorem g7_4:ev (bE U7) ((countRun' 64 64).run (am iV [(0,32,2),(32,32,0)] 7)) none=some ((some 2,(am DW [(0,32,2),(32,32,0)] 7)),none):=by kernel_rfl
theorem g7_5:ev (bE U7) ((binarySort' 64 32 2).run (am DW [(0,32,2),(32,32,0)] 7)) none=some ((true,(am l4 [(0,32,2),(32,32,0)] 7)),none):=by kernel_rfl
theorem g7_6:ev (bE U7) ((mergeAt' 0).run (am l4 [(0,32,2),(32,32,0)] 7)) none=some ((true,(am jX [(0,64,2)] 7)),none):=by kernel_rfl
theorem g7_7:ev (bE U7) ((countRun' 96 32).run (am jX [(0,64,1),(64,32,0)] 7)) none=some ((some 2,(am DU [(0,64,1),(64,32,0)] 7)),none):=by kernel_rfl
theorem g7_8:ev (bE U7) ((binarySort' 96 32 2).run (am DU [(0,64,1),(64,32,0)] 7)) none=some ((true,(am fU [(0,64,1),(64,32,0)] 7)),none):=by kernel_rfl
theorem g7_9:ev (bE U7) ((mergeAt' 1).run (am fU [(0,64,1),(64,32,2),(96,32,0)] 7)) none=some ((true,(am zg [(0,64,1),(64,64,2)] 7)),none):=by kernel_rfl
theorem g7_10:ev (bE U7) ((mergeAt' 0).run (am zg [(0,64,1),(64,64,2)] 7)) none=some ((true,(am L7_10 [(0,128,1)] 7)),none):=by kernel_rfl
theorem runs7:ev (bE U7) (sortRuns'.run (am qJ [] 7)) none=some (((),(am L7_10 [(0,128,1)] 7)),none):=by
 rw [sortRuns'_eq]
 refine ai (a:=(am qJ [] 7)) (st1:=(am qJ [] 7)) rfl ?_
 have b:(arrOf (am qJ [] 7)).size=128:=by kernel_rfl
 have c:minRun' 128 128 0=32:=rfl
 rw [b]
 try dsimp only
 rw [c]
 rw [Std.Legacy.Range.forIn_eq_forIn_range']
 refine ai (a:=(none,128)) (st1:=(am fU [(0,64,1),(64,32,2),(96,32,0)] 7)) (cT (b1:=(none,32)) (st1:=(am sO [(0,32,0)] 7)) ?_ (cT (b1:=(none,64)) (st1:=(am iV [(0,32,2),(32,32,0)] 7)) ?_ (cT (b1:=(none,96)) (st1:=(am jX [(0,64,1),(64,32,0)] 7)) ?_ (cT (b1:=(none,128)) (st1:=(am fU [(0,64,1),(64,32,2),(96,32,0)] 7)) ?_ (eJ (b1:=(none,128)) (st1:=(am fU [(0,64,1),(64,32,2),(96,32,0)] 7)) ?_))))) ?_
 ·try dsimp only
  rw [if_neg (by decide)]
  refine ai g7_0 ?_
  try dsimp only
  rw [if_pos (by decide)]
  refine ai (a:=()) (st1:=(am qJ [] 7)) rfl ?_
  refine ai g7_1 ?_
  rw [if_neg (by decide)]
  refine ai (a:=(am sO [] 7)) (st1:=(am sO [] 7)) rfl ?_
  rw [show (pendingOf (am sO [] 7)).back?=none from rfl]
  try dsimp only
  refine ai (a:=()) (st1:=(am sO [(0,32,0)] 7)) rfl ?_
  exact rfl
 ·try dsimp only
  rw [if_neg (by decide)]
  refine ai g7_2 ?_
  try dsimp only
  rw [if_pos (by decide)]
  refine ai (a:=()) (st1:=(am DX [(0,32,0)] 7)) rfl ?_
  refine ai g7_3 ?_
  rw [if_neg (by decide)]
  refine ai (a:=(am iV [(0,32,0)] 7)) (st1:=(am iV [(0,32,0)] 7)) rfl ?_
  rw [show (pendingOf (am iV [(0,32,0)] 7)).back?=some (0,32,0) from rfl]
  try dsimp only
  rw [Std.Legacy.Range.forIn_eq_forIn_range']
  refine ai (a:=(none,())) (st1:=(am iV [(0,32,0)] 7)) (eJ (b1:=(none,())) (st1:=(am iV [(0,32,0)] 7)) ?_) ?_
  ·try dsimp only
   refine ai (a:=(am iV [(0,32,0)] 7)) (st1:=(am iV [(0,32,0)] 7)) rfl ?_
   rw [show (if (pendingOf (am iV [(0,32,0)] 7)).size > 1 then (pendingOf (am iV [(0,32,0)] 7))[(pendingOf (am iV [(0,32,0)] 7)).size - 2]? else none)=none from rfl]
   exact rfl
  try dsimp only
  refine ai (a:=()) (st1:=(am iV [(0,32,2)] 7)) rfl ?_
  refine ai (a:=()) (st1:=(am iV [(0,32,2),(32,32,0)] 7)) rfl ?_
  exact rfl
 ·try dsimp only
  rw [if_neg (by decide)]
  refine ai g7_4 ?_
  try dsimp only
  rw [if_pos (by decide)]
  refine ai (a:=()) (st1:=(am DW [(0,32,2),(32,32,0)] 7)) rfl ?_
  refine ai g7_5 ?_
  rw [if_neg (by decide)]
  refine ai (a:=(am l4 [(0,32,2),(32,32,0)] 7)) (st1:=(am l4 [(0,32,2),(32,32,0)] 7)) rfl ?_
  rw [show (pendingOf (am l4 [(0,32,2),(32,32,0)] 7)).back?=some (32,32,0) from rfl]
  try dsimp only
  rw [Std.Legacy.Range.forIn_eq_forIn_range']
  refine ai (a:=(none,())) (st1:=(am jX [(0,64,2)] 7)) (cT (b1:=(none,())) (st1:=(am jX [(0,64,2)] 7)) ?_ (eJ (b1:=(none,())) (st1:=(am jX [(0,64,2)] 7)) ?_)) ?_
  ·try dsimp only
   refine ai (a:=(am l4 [(0,32,2),(32,32,0)] 7)) (st1:=(am l4 [(0,32,2),(32,32,0)] 7)) rfl ?_
   rw [show (if (pendingOf (am l4 [(0,32,2),(32,32,0)] 7)).size > 1 then (pendingOf (am l4 [(0,32,2),(32,32,0)] 7))[(pendingOf (am l4 [(0,32,2),(32,32,0)] 7)).size - 2]? else none)=some (0,32,2) from rfl]
   try dsimp only
   rw [if_neg (by decide)]
   refine ai g7_6 ?_
   rw [if_neg (by decide)]
   exact rfl
  ·try dsimp only
   refine ai (a:=(am jX [(0,64,2)] 7)) (st1:=(am jX [(0,64,2)] 7)) rfl ?_
   rw [show (if (pendingOf (am jX [(0,64,2)] 7)).size > 1 then (pendingOf (am jX [(0,64,2)] 7))[(pendingOf (am jX [(0,64,2)] 7)).size - 2]? else none)=none from rfl]
   exact rfl
  try dsimp only
  refine ai (a:=()) (st1:=(am jX [(0,64,1)] 7)) rfl ?_
  refine ai (a:=()) (st1:=(am jX [(0,64,1),(64,32,0)] 7)) rfl ?_
  exact rfl
 ·try dsimp only
  rw [if_neg (by decide)]
  refine ai g7_7 ?_
  try dsimp only
  rw [if_pos (by decide)]
  refine ai (a:=()) (st1:=(am DU [(0,64,1),(64,32,0)] 7)) rfl ?_
  refine ai g7_8 ?_
  rw [if_neg (by decide)]
  refine ai (a:=(am fU [(0,64,1),(64,32,0)] 7)) (st1:=(am fU [(0,64,1),(64,32,0)] 7)) rfl ?_
  rw [show (pendingOf (am fU [(0,64,1),(64,32,0)] 7)).back?=some (64,32,0) from rfl]
  try dsimp only
  rw [Std.Legacy.Range.forIn_eq_forIn_range']
  refine ai (a:=(none,())) (st1:=(am fU [(0,64,1),(64,32,0)] 7)) (eJ (b1:=(none,())) (st1:=(am fU [(0,64,1),(64,32,0)] 7)) ?_) ?_
  ·try dsimp only
   refine ai (a:=(am fU [(0,64,1),(64,32,0)] 7)) (st1:=(am fU [(0,64,1),(64,32,0)] 7)) rfl ?_
   rw [show (if (pendingOf (am fU [(0,64,1),(64,32,0)] 7)).size > 1 then (pendingOf (am fU [(0,64,1),(64,32,0)] 7))[(pendingOf (am fU [(0,64,1),(64,32,0)] 7)).size - 2]? else none)=some (0,64,1) from rfl]
   try dsimp only
   rw [if_pos (by decide)]
   exact rfl
  try dsimp only
  refine ai (a:=()) (st1:=(am fU [(0,64,1),(64,32,2)] 7)) rfl ?_
  refine ai (a:=()) (st1:=(am fU [(0,64,1),(64,32,2),(96,32,0)] 7)) rfl ?_
  exact rfl
 ·try dsimp only
  rw [if_pos (by decide)]
  exact rfl
 try dsimp only
 rw [Std.Legacy.Range.forIn_eq_forIn_range']
 refine ai (a:=(none,())) (st1:=(am L7_10 [(0,128,1)] 7)) (cT (b1:=(none,())) (st1:=(am zg [(0,64,1),(64,64,2)] 7)) ?_ (cT (b1:=(none,())) (st1:=(am L7_10 [(0,128,1)] 7)) ?_ (eJ (b1:=(none,())) (st1:=(am L7_10 [(0,128,1)] 7)) ?_))) ?_
 ·try dsimp only
  refine ai (a:=(am fU [(0,64,1),(64,32,2),(96,32,0)] 7)) (st1:=(am fU [(0,64,1),(64,32,2),(96,32,0)] 7)) rfl ?_
  rw [if_neg (by decide)]
  refine ai g7_9 ?_
  rw [if_neg (by decide)]
  exact rfl
 ·try dsimp only
  refine ai (a:=(am zg [(0,64,1),(64,64,2)] 7)) (st1:=(am zg [(0,64,1),(64,64,2)] 7)) rfl ?_
  rw [if_neg (by decide)]
  refine ai g7_10 ?_
  rw [if_neg (by decide)]
  exact rfl
 ·try dsimp only
  refine ai (a:=(am L7_10 [(0,128,1)] 7)) (st1:=(am L7_10 [(0,128,1)] 7)) rfl ?_
  rw [if_pos (by decide)]
  exact rfl
 exact rfl
theorem sort7:bA U7=some L7_10:=j5 (n:=128) rfl runs7
end L2
end
section
namespace L3
open PySem L2
def kP:Key->PyData
 | .inl i=>.int i
 | .inr x=>.str x
def d1 {α:Type}:List (α × D)->Option (α × Int)
 | [(k,.int i)]=>some (k,i)
 | _=>none
theorem BH {α:Type} {l:List (α × D)} {k:α} {i:Int} (h:d1 l=some (k,i)):l=[(k,.int i)]:=by
 unfold d1 at h
 split at h
 ·cases h;rfl
 ·cases h
mutual
def pyN:D->Option PyData
 | .non=>some .none
 | .bl b=>some (.bool b)
 | .int i=>some (.int i)
 | .str x=>some (.str x)
 | .tup xs=>(pj xs).map .tuple
 | .dk kvs=>(d1 kvs).map fun p=>.dict [(kP p.1,.int p.2)]
 | .dt kvs=>(d1 kvs).map fun p=>.dict [(.tuple (p.1.map kP),.int p.2)]
 | _=>none
def pj:List D->Option (List PyData)
 | []=>some []
 | d :: ds=>match pyN d,pj ds with
  | some p,some ps=>some (p :: ps)
  | _,_=>none
end
def RdN (H:Hp) (v:V) (p:PyData):Prop:=∀ (X:Cx) (pins:List (Addr × Obj)) (σ:St) (s:Shared),Inv X pins σ H s->∀ u,RelV v u->∃ as,Reads s.heap u p as/\sysModules ∉ as
def RdNs (H:Hp) (a:List V) (ps:List PyData):Prop:=∀ (X:Cx) (pins:List (Addr × Obj)) (σ:St) (s:Shared),Inv X pins σ H s->∀ us,Vals a us->∃ as,ReadsAll s.heap us ps as/\sysModules ∉ as
theorem jK {h:Heap}:∀ {ks:List Key} {us:List Value},Vals (ks.map kV) us->ReadsAll h us (ks.map kP) []
 | [],_,.nil=>.nil
 | .inl i :: ks,_,.cons r rs=>by
  obtain ⟨t,rfl⟩:=r
  exact .cons (as:=[]) (bs:=[]) (.int i t) (jK rs)
 | .inr x :: ks,_,.cons r rs=>by
  obtain ⟨t,rfl⟩:=r
  exact .cons (as:=[]) (bs:=[]) (.str x t) (jK rs)
theorem tK {α:Type} {R:D->V->List Addr->Prop} {k:α} {i:Int} {ps:List (α × V)} {L:List Addr} (b:∀ v L,R (.int i) v L->v=.int i) (h1:[k]=ps.map (·.1)) (h2:Reps R [.int i] (ps.map (·.2)) L):ps=[(k,.int i)]:=by
 match ps,h1,h2 with
 | [(k',v)],h1,.cons a _ =>
  have:=b _ _ a
  subst this
  cases h1
  rfl
section
variable {K:FG} {H:Hp} {d:D} {v:V} {L:List Addr}
theorem Rep.rdN (r:Rep K H d v L):∀ p,pyN d=some p->RdN H v p:=by
 refine Rep.rec (motive_1:=fun d v _ _=>∀ p,pyN d=some p->RdN H v p) (motive_2:=fun ds l _ _=>∀ ps,pj ds=some ps->RdNs H l ps) ?_ ?_ ?_ ?_ ?_ ?_ ?_ ?_ ?_ ?_ ?_ ?_ r
 ·intro p e;unfold pyN at e;cases e;intro X pins σ s I u hu;cases (show u=Value.none from hu);exact ⟨[],.none,by simp⟩
 ·intro b p e;unfold pyN at e;cases e;intro X pins σ s I u hu;cases (show u=Value.bool b from hu);exact ⟨[],.bool b,by simp⟩
 ·intro i p e;unfold pyN at e;cases e;intro X pins σ s I u hu;obtain ⟨t,rfl⟩:=hu;exact ⟨[],.int i t,by simp⟩
 ·intro x p e;unfold pyN at e;cases e;intro X pins σ s I u hu;obtain ⟨t,rfl⟩:=hu;exact ⟨[],.str x t,by simp⟩
 ·intro xs a l L h _ D p e
  unfold pyN at e
  obtain ⟨ps,e1,rfl⟩:=Ef.mp e
  intro X pins σ s I u hu
  cases (show u=Value.ref a from hu)
  obtain ⟨its,B,⟨o,e,c,n,d⟩,_⟩:=I.tuple (SqT.of h)
  obtain ⟨as,q,nm⟩:=D ps e1 X pins σ s I _ B
  exact ⟨_,.tuple e c d (by simpa using q),nm⟩
 ·intro xs a l L h _ D p e;unfold pyN at e;exact nsE e
 ·intro xs a l L h _ D p e;unfold pyN at e;exact nsE e
 ·intro kvs a ps L h m rs _ p e
  unfold pyN at e
  obtain ⟨⟨k,i⟩,e1,rfl⟩:=Ef.mp e
  have y:=BH e1
  subst y
  clear e e1
  have:=tK (fun v L (q:Rep K H (.int i) v L)=>q.int_inv) m rs
  subst this
  intro X pins σ s I u hu
  cases (show u=Value.ref a from hu)
  obtain ⟨_,hm,l,A,o,es,P,g,xd,hd,_,pr,_,_⟩:=(show ObjOk X.prog X.w H s.heap a (.dK [(k,.int i)]) from I.hok a _ h)
  match l,A with
  | [(k',v')],.cons ⟨e1,e2⟩ .nil =>
   subst e1
   obtain ⟨t,rfl⟩:=e2
   generalize f:es.toList=el at pr
   cases pr with
   | cons q1 q2 q3 =>
    cases q3
    rename_i E
    refine ⟨_,.dict (as:=[]) (bs:=[]) g xd.1 hd ?_ ?_,?_⟩
    ·rw [f]
     show ReadsAll s.heap [E.key] [kP k] []
     rcases bg q1 with ⟨j,t',rfl,C⟩ | ⟨x,t',rfl,C⟩
     ·rw [C];exact .cons (as:=[]) (bs:=[]) (.int _ _) .nil
     ·rw [C];exact .cons (as:=[]) (bs:=[]) (.str _ _) .nil
    ·rw [f]
     show ReadsAll s.heap [E.val] [.int i] []
     rw [q2];exact .cons (as:=[]) (bs:=[]) (.int _ _) .nil
    ·simp only [List.append_nil,EJ]
     intro z
     rw [z] at hm
     simp at hm
 ·intro kvs a ps L h m rs _ p e
  unfold pyN at e
  obtain ⟨⟨k,i⟩,e1,rfl⟩:=Ef.mp e
  have y:=BH e1
  subst y
  clear e e1
  have:=tK (fun v L (q:Rep K H (.int i) v L)=>q.int_inv) m rs
  subst this
  intro X pins σ s I u hu
  cases (show u=Value.ref a from hu)
  obtain ⟨_,hm,xs,A,o,es,P,g,xd,hd,f,_⟩:=(show ObjOk X.prog X.w H s.heap a (.dT [(k,.int i)]) from I.hok a _ h)
  match xs,A with
  | [(k',b,v')],.cons ⟨e1,e3,e2⟩ .nil =>
   subst e1
   obtain ⟨t,rfl⟩:=e2
   obtain ⟨its,B,⟨o',J,F,S,d'⟩,_⟩:=I.tuple (SqT.of e3)
   refine ⟨_,.dict (as:=[]) (bs:=[]) g xd.1 hd ?_ ?_,?_⟩
   ·rw [f]
    show ReadsAll s.heap [.ref b] [.tuple (k.map kP)] []
    exact .cons (as:=[]) (bs:=[]) (.tuple J F d' (by simpa using jK B)) .nil
   ·rw [f]
    show ReadsAll s.heap [.int i t] [.int i] []
    exact .cons (as:=[]) (bs:=[]) (.int _ _) .nil
   ·simp only [List.append_nil,EJ]
    intro z
    rw [z] at hm
    simp at hm
 ·intros;rename_i e;unfold pyN at e;exact nsE e
 ·intro ps e;unfold pj at e;cases e;intro X pins σ s I us hu;cases hu;exact ⟨[],.nil,by simp⟩
 ·intro d v L ds l L' _ _ R N ps e
  unfold pj at e
  cases h1:pyN d with
  | none=>rw [h1] at e;exact nsE e
  | some p =>
   cases h2:pj ds with
   | none=>rw [h1,h2] at e;exact nsE e
   | some qs =>
    rw [h1,h2] at e
    cases e
    intro X pins σ s I us hu
    cases hu with
    | cons a b =>
     obtain ⟨as,M,G⟩:=R p h1 X pins σ s I _ a
     obtain ⟨bs,Q,O⟩:=N qs h2 X pins σ s I _ b
     exact ⟨_,.cons M Q,by simp [G,O]⟩
end
def kX (p:PyData):Bool:=p.showable && decide (p.depth<=16) && decide (p.shown.length<=16777216)
def pyA (d:D):Option PyData:=match pyD d with
 | some p=>if p.hasDict then none else some p
 | none=>pyN d
def rq (K:FG):List V->Hp->VK->Prop:=fun xs H Q=>(xs=[.non]/\Q (.str "None") H)\/(∃ b,xs=[.bl b]/\Q (.str (if b then "True" else "False")) H)\/(∃ i:Int,xs=[.int i]/\i.natAbs.log2 < 1920/\Q (.str (Az i)) H) \/
 (∃ t:Str,xs=[.str t]/\(reprText t).length<=sizeLine/\Q (.str (reprText t)) H) \/
 ∃ (a:Addr) (p:PyData),xs=[.ref a]/\(∀ (X:Cx) (pins:List (Addr × Obj)) (σ:St) (s:Shared),X.K=K->Inv X pins σ H s->∀ u,RelV (.ref a) u->∃ as,Reads s.heap u p as/\(p.hasDict=true->sysModules ∉ as))/\kX p=true/\Q (.str p.shown) H
theorem oA {X:Cx} (r:X.A.guards=some []) (hu:X.A.units+64 < cLine):cp X (.builtin "repr") (rq X.K):=by
 intro pins s σ H xs us Q I d h
 rcases h with ⟨rfl,q⟩ | ⟨b,rfl,q⟩ | ⟨i,rfl,hi,q⟩ | ⟨t,rfl,j,q⟩ | ⟨a,p,rfl,o,f,q⟩
 ·obtain ⟨u,rfl,c⟩:=d8 d
  cases (show u=Value.none from c)
  exact PySem.P.repr_of_none ⟨.str "None",H,I.tok _,⟨_,rfl⟩,q⟩
 ·obtain ⟨u,rfl,c⟩:=d8 d
  cases (show u=Value.bool b from c)
  exact PySem.P.repr_of_bool ⟨.str (if b then "True" else "False"),H,I.tok _,⟨_,rfl⟩,q⟩
 ·obtain ⟨u,rfl,c⟩:=d8 d
  obtain ⟨t,rfl⟩:=c
  exact PySem.P.repr_of_int hi ⟨.str (Az i),H,I.tok _,⟨_,rfl⟩,q⟩
 ·obtain ⟨u,rfl,c⟩:=d8 d
  obtain ⟨t',rfl⟩:=c
  exact PySem.P.repr_of_str ⟨.str _,H,I.tok _,⟨_,rfl⟩,q⟩ j
 ·obtain ⟨u,rfl,c⟩:=d8 d
  obtain ⟨as,k,nm⟩:=o X pins σ s rfl I u c
  cases (show u=Value.ref a from c)
  unfold kX at f
  obtain ⟨h3,n⟩:=Bool.and_eq_true_iff.mp f
  obtain ⟨m,g⟩:=Bool.and_eq_true_iff.mp h3
  have g:=of_decide_eq_true g
  exact repr_of_reads' k m nm r (by omega) (fun _ _ e=>e) (fun h' v tk l=>⟨.str p.shown,H,I.kept l,⟨_,rfl⟩,q⟩) (by rw [sizeLine_eq];exact of_decide_eq_true n)
def shA (d:D):Option (D × Fl):=(pyA d).bind fun p=>if kX p=true then some (.str p.shown,.z) else none
def jE:D->Option (D × Fl)
 | .non=>some (.str "None",.z)
 | .bl b=>some (.str (if b then "True" else "False"),.z)
 | .int i=>if i.natAbs.log2 < 1920 then some (.str (Az i),.z) else none
 | .str t=>if (reprText t).length<=16777216 then some (.str (reprText t),.z) else none
 | .exc _ _=>none
 | d=>shA d
abbrev nC:=c1 jE
theorem CH {K:FG} {H:Hp} {d:D} {v:V} {L:List Addr} {p:PyData} (r:Rep K H d v L) (e:pyA d=some p):∀ (X:Cx) (pins:List (Addr × Obj)) (σ:St) (s:Shared),X.K=K->Inv X pins σ H s->∀ u,RelV v u->∃ as,Reads s.heap u p as/\(p.hasDict=true->sysModules ∉ as):=by
 intro X pins σ s b I u hu
 unfold pyA at e
 cases h:pyD d with
 | none =>
  rw [h] at e
  obtain ⟨as,a,c⟩:=r.rdN p e X pins σ s I u hu
  exact ⟨as,a,fun _=>c⟩
 | some q =>
  rw [h] at e
  subst b
  obtain ⟨as,a⟩:=DV.reads I (r.dv q h) hu
  have e:(if q.hasDict then none else some q)=some p:=e
  cases hd:q.hasDict with
  | true=>rw [hd] at e;exact nsE e
  | false =>
   rw [hd] at e
   cases (EW e)
   exact ⟨as,a,fun z=>by rw [hd] at z;cases z⟩
theorem yU {K:FG}:eM K (rq K) nC:=fun ys H Q p ra e q=>by
 obtain ⟨y,rfl,f⟩:=io e
 have h:=(ra y Ec).rep
 obtain ⟨da,l,o,r⟩:=y
 dsimp only at h f
 have big:∀ a,l=.ref a->shA da=some p->rq K [l] H fun v H'=>Q v H':=fun a g f=>by
  obtain ⟨d,h1,h2⟩:=EI.mp f
  by_cases k:kX d=true
  ·rw [if_pos k] at h2
   have m:=EW h2
   refine .inr (.inr (.inr (.inr ⟨a,d,congrArg (fun x=>[x]) g,?_,k,q ⟨.str d.shown,_,[],.z⟩ H (d7 (.str _)) (congrArg Prod.fst m) (congrArg Prod.snd m)⟩)))
   rw [<- g]
   exact CH h h1
  ·rw [if_neg k] at h2;exact nsE h2
 cases da with
 | non =>
  obtain ⟨rfl,rfl⟩:=h.view
  cases f
  exact .inl ⟨rfl,q ⟨_,_,[],.z⟩ H (d7 (.str _)) rfl rfl⟩
 | bl b =>
  obtain ⟨rfl,rfl⟩:=h.view
  cases f
  exact .inr (.inl ⟨b,rfl,q ⟨_,_,[],.z⟩ H (d7 (.str _)) rfl rfl⟩)
 | int i =>
  obtain ⟨rfl,rfl⟩:=h.view
  have f:(if i.natAbs.log2 < 1920 then some ((.str (Az i),.z):D × Fl) else none)=some p:=f
  by_cases j:i.natAbs.log2 < 1920
  ·rw [if_pos j] at f
   cases f
   exact .inr (.inr (.inl ⟨i,rfl,j,q ⟨_,_,[],.z⟩ H (d7 (.str _)) rfl rfl⟩))
  ·rw [if_neg j] at f;exact nsE f
 | str t =>
  obtain ⟨rfl,rfl⟩:=h.view
  have f:(if (reprText t).length<=16777216 then some ((.str (reprText t),.z):D × Fl) else none)=some p:=f
  by_cases j:(reprText t).length<=16777216
  ·rw [if_pos j] at f
   cases f
   exact .inr (.inr (.inr (.inl ⟨t,rfl,by rw [sizeLine_eq];exact j,q ⟨_,_,[],.z⟩ H (d7 (.str _)) rfl rfl⟩)))
  ·rw [if_neg j] at f;exact nsE f
 | tup xs=>obtain ⟨a,n,g,_⟩:=h.view;exact big a g f
 | lst xs=>obtain ⟨a,n,L',g,_⟩:=h.view;exact big a g f
 | fls xs=>obtain ⟨a,n,g,_⟩:=h.view;exact big a g f
 | dk kvs=>obtain ⟨a,ps,L',g,_⟩:=h.view;exact big a g f
 | dt kvs=>obtain ⟨a,ps,L',g,_⟩:=h.view;exact big a g f
 | exc c fs=>exact nsE f
end L3
end
section
namespace Bn
open PySem L2 L3
abbrev Pd (p:Int × Int):L3.D:=.tup [.int p.1,.int p.2]
theorem cF {bnd:L3.D->Sto->Option Sto} {b:SM} (P:Nat->Sto->Prop):∀ {ds:List L3.D} {ρ:Sto} {k:Nat},P k ρ->(∀ i d ρ,ds[i]?=some d->P (k+i) ρ->∃ ρ1 ρ2,bnd d ρ=some ρ1/\(b ρ1=some (.ok .nx,ρ2)\/b ρ1=some (.ok .ct,ρ2))/\P (k+i+1) ρ2)->∃ ρ',cI bnd b ds ρ=some (.ok .nx,ρ')/\P (k+ds.length) ρ'
 | [],ρ,k,h0,_=>⟨ρ,rfl,h0⟩
 | d :: ds,ρ,k,h0,hs=>by
  obtain ⟨ρ1,ρ2,e1,a,h1⟩:=hs 0 d ρ rfl h0
  obtain ⟨ρ',c,h3⟩:=cF P (ds:=ds) (ρ:=ρ2) (k:=k+1) h1 fun i d ρ hd e=>by
   have:=hs (i+1) d ρ (by simpa using hd) (by rwa [show k+(i+1)=k+1+i by omega])
   rwa [show k+(i+1)+1=k+1+i+1 by omega] at this
  refine ⟨ρ',?_,by rw [EF,show k+(ds.length+1)=k+1+ds.length by omega];exact h3⟩
  unfold cI
  simp only [e1]
  rcases a with a | a <;> simp only [ae,a,c]
theorem oi {bnd:L3.D->Sto->Option Sto} {b:SM} (P:Nat->Sto->Prop) (E:Nat->L3.D->Fl->Sto->Prop):∀ {ds:List L3.D} {ρ:Sto} {k:Nat},P k ρ ->
  (∀ i d ρ,ds[i]?=some d->P (k+i) ρ->∃ ρ1 ρ2,bnd d ρ=some ρ1/\(((b ρ1=some (.ok .nx,ρ2)\/b ρ1=some (.ok .ct,ρ2))/\P (k+i+1) ρ2)\/∃ r f,b ρ1=some (.ok (.rt r f),ρ2)/\E (k+i) r f ρ2)) ->
  ∃ ρ',(cI bnd b ds ρ=some (.ok .nx,ρ')/\P (k+ds.length) ρ')\/∃ i r f,i < ds.length/\cI bnd b ds ρ=some (.ok (.rt r f),ρ')/\E (k+i) r f ρ'
 | [],ρ,k,h0,_=>⟨ρ,.inl ⟨rfl,h0⟩⟩
 | d :: ds,ρ,k,h0,hs=>by
  obtain ⟨ρ1,ρ2,e1,h1⟩:=hs 0 d ρ rfl h0
  rcases h1 with ⟨a,h1⟩ | ⟨r,f,a,h1⟩
  ·obtain ⟨ρ',h3⟩:=oi P E (ds:=ds) (ρ:=ρ2) (k:=k+1) h1 fun i d ρ hd g=>by
    have:=hs (i+1) d ρ (by simpa using hd) (by rwa [show k+(i+1)=k+1+i by omega])
    rwa [show k+(i+1)=k+1+i by omega] at this
   have e:cI bnd b (d :: ds) ρ=cI bnd b ds ρ2:=by
    conv=>lhs;unfold cI
    simp only [e1]
    rcases a with a | a <;> simp only [ae,a]
   rcases h3 with ⟨c,h3⟩ | ⟨i,r,f,hi,c,h3⟩
   ·exact ⟨ρ',.inl ⟨e.trans c,by rw [EF,show k+(ds.length+1)=k+1+ds.length by omega];exact h3⟩⟩
   ·exact ⟨ρ',.inr ⟨i+1,r,f,by simp;omega,e.trans c,by rw [show k+(i+1)=k+1+i by omega];exact h3⟩⟩
  ·refine ⟨ρ2,.inr ⟨0,r,f,by simp,?_,h1⟩⟩
   unfold cI
   simp only [e1,ae,a,aW]
theorem eX {lo:Int} {n i:Nat} {d:L3.D} (h:(bh lo n)[i]?=some d):i < n/\d=.int (lo+i):=by
 unfold bh at h
 rw [Et,Ef] at h
 obtain ⟨j,h1,rfl⟩:=h
 have h2:=Eo.mp h1
 obtain ⟨h3,a⟩:=h2
 simp at h3 a
 subst a
 exact ⟨h3,rfl⟩
theorem bK {lo:Int} {n:Nat}:(bh lo n).length=n:=by unfold bh;simp
theorem AX {xs:List L3.D} {m:Nat} (h:m<=xs.length):cK xs none (some (m:Int))=xs.take m:=by
 have e1:HT.sIx xs.length 0 none=0:=rfl
 have a:HT.sIx xs.length xs.length (some (m:Int))=m:=by
  simp only [HT.sIx]
  split <;> omega
 unfold cK
 rw [e1,a]
 simp
theorem Small.sub {p q:Pt} (a:Small p) (b:Small q):(-18446744073709551616 < q.1 - p.1/\q.1 - p.1 < 18446744073709551616)/\(-18446744073709551616 < q.2 - p.2/\q.2 - p.2 < 18446744073709551616):=by
 obtain ⟨a1,a2,c,f⟩:=a
 obtain ⟨b1,b2,e,d⟩:=b
 exact ⟨⟨by omega,by omega⟩,⟨by omega,by omega⟩⟩
theorem uo {c:M3 Bool} {b:SM} (P:Nat->Sto->Prop) (Q:Sto->Prop) {n:Nat} {ρ:Sto} (h0:P n ρ)
  (j:∀ n ρ,P n ρ->(∃ ρ1,c ρ=some (.ok false,ρ1)/\Q ρ1)\/∃ ρ1 ρ2 m,c ρ=some (.ok true,ρ1)/\(b ρ1=some (.ok .nx,ρ2)\/b ρ1=some (.ok .ct,ρ2))/\m < n/\P m ρ2):∃ ρ',gl c b ρ=some (.ok .nx,ρ')/\Q ρ':=by
 have main:∀ n ρ,P n ρ->∃ ρ',bX c b (n+1) ρ=some (.ok .nx,ρ')/\Q ρ':=by
  intro n
  induction n using Nat.strongRecOn with
  | _ n ih =>
   intro ρ k
   rcases j n ρ k with ⟨ρ1,e1,d⟩ | ⟨ρ1,ρ2,m,e1,a,hm,g⟩
   ·refine ⟨ρ1,?_,d⟩
    unfold bX
    simp [ae,e1,aW]
   ·obtain ⟨ρ',i,d⟩:=ih m hm ρ2 g
    refine ⟨ρ',?_,d⟩
    have f:=jz (show m+1<=n by omega) i
    unfold bX
    rcases a with a | a <;> simp [ae,e1,a,f]
 obtain ⟨ρ',e,d⟩:=main n ρ h0
 refine ⟨ρ',?_,d⟩
 unfold gl
 have h:∃ n r,bX c b n ρ=some r:=⟨_,_,e⟩
 rw [dif_pos h]
 have a:=Classical.choose_spec (Classical.choose_spec h)
 have i:=jz (Nat.le_max_left (n+1) (Classical.choose h)) e
 have f:=jz (Nat.le_max_right (n+1) (Classical.choose h)) a
 rw [i] at f
 exact f.symm
theorem ao {a b:SM} {ρ ρ1:Sto} {r:Option (Except L3.D Flw × Sto)} (h1:a ρ=some (.ok .nx,ρ1)) (h2:b ρ1=r):aE a b ρ=r:=by
 simp only [aE,ae,h1]
 exact h2
theorem ig {bnd:L3.D->Sto->Option Sto} {c:M3 Bool} {elt:EM} (P:Sto->Prop) (g:L3.D->Bool) (f:L3.D->L3.D):∀ {ds:List L3.D} {τ:Sto},P τ ->
  (∀ d ∈ ds,∀ τ,P τ->∃ τ1 τ2,bnd d τ=some τ1/\c τ1=some (.ok (g d),τ2)/\(g d=false->P τ2)/\(g d=true->∃ r τ3 p τ4,elt τ2=some (.ok r,τ3)/\cW r τ3=some (.ok p,τ4)/\p.1=f d/\P τ4)) ->
  ∃ τ',bQ bnd c elt ds τ=some (.ok ((ds.filter g).map f),τ')/\P τ'
 | [],τ,h0,_=>⟨τ,rfl,h0⟩
 | d :: ds,τ,h0,hs=>by
  obtain ⟨τ1,τ2,e1,b,hf,m⟩:=hs d Ec τ h0
  cases a:g d with
  | false =>
   obtain ⟨τ',e,i⟩:=ig P g f (ds:=ds) (τ:=τ2) (hf a) fun d hd=>hs d (Ed _ hd)
   refine ⟨τ',?_,i⟩
   unfold bQ
   rw [a] at b
   simp [e1,ae,b,e,List.filter_cons,a]
  | true =>
   obtain ⟨r,τ3,p,τ4,l,j,k,h⟩:=m a
   obtain ⟨τ',e,i⟩:=ig P g f (ds:=ds) (τ:=τ4) h fun d hd=>hs d (Ed _ hd)
   refine ⟨τ',?_,i⟩
   unfold bQ
   rw [a] at b
   simp [e1,ae,b,l,j,e,List.filter_cons,a,aW,k]
abbrev Tri:=Nat × Nat × Nat
def lS (i j m:Nat):List Tri:=(List.range m).map fun k=>(i,j,j+1+k)
def jD (n i m:Nat):List Tri:=(List.range m).flatMap fun j=>lS i (i+1+j) (n - (i+1+j+1))
def nB (n m:Nat):List Tri:=(List.range m).flatMap fun i=>jD n i (n - (i+1))
def iO (n:Nat):List Tri:=nB n n
theorem pe (i j m:Nat):(lS i j m).length=m:=by simp [lS]
theorem mx (n i m:Nat):jD n i (m+1)=jD n i m ++ lS i (i+1+m) (n - (i+1+m+1)):=by simp [jD,List.range_succ,List.flatMap_append]
theorem my (n m:Nat):nB n (m+1)=nB n m ++ jD n m (n - (m+1)):=by simp [nB,List.range_succ,List.flatMap_append]
theorem xS {i j m:Nat} {t:Tri} (h:t ∈ lS i j m):t.1=i/\t.2.1=j/\j < t.2.2/\t.2.2 < j+1+m:=by
 obtain ⟨k,a,rfl⟩:=Es.mp h
 rw [List.mem_range] at a
 exact ⟨rfl,rfl,by show j < j+1+k;omega,by show j+1+k < j+1+m;omega⟩
theorem pQ {n:Nat} {t:Tri} (h:t ∈ iO n):t.1 < t.2.1/\t.2.1 < t.2.2/\t.2.2 < n:=by
 obtain ⟨i,hi,h⟩:=EU.mp h
 obtain ⟨j,a,h⟩:=EU.mp h
 rw [List.mem_range] at hi a
 obtain ⟨h1,h2,h3,b⟩:=xS h
 exact ⟨by omega,by omega,by omega⟩
theorem sW (n i m:Nat):(jD n i m).length<=m * n:=by
 induction m with
 | zero=>simp [jD]
 | succ m ih=>rw [mx,EE,pe,Nat.succ_mul];omega
theorem zV (n m:Nat):(nB n m).length<=m * (n * n):=by
 induction m with
 | zero=>simp [nB]
 | succ m ih =>
  rw [my,EE,Nat.succ_mul]
  have:=sW n m (n - (m+1))
  have h2:(n - (m+1)) * n<=n * n:=Nat.mul_le_mul (by omega) (Eu _)
  omega
theorem rg {n m:Nat} (a:n<=25) (hm:m<=25):(nB n m).length<=15625:=by
 have h1:=zV n m
 have h2:n * n<=25 * 25:=Nat.mul_le_mul a a
 have h3:m * (n * n)<=25 * (25 * 25):=Nat.mul_le_mul hm h2
 omega
theorem rf {n i m:Nat} (a:n<=25) (hm:m<=25):(jD n i m).length<=625:=by
 have h1:=sW n i m
 have h2:m * n<=25 * 25:=Nat.mul_le_mul hm a
 omega
abbrev Td (t:Tri):L3.D:=.tup [.int t.1,.int t.2.1,.int t.2.2]
abbrev Shd (ps:List Pt):L3.D:=.tup (ps.map Pd)
theorem aM {im:IM} {bnd:L3.D->Sto->Option Sto} {c:M3 Bool} {elt:EM} {ix:List (Option Nat)} {ρ ρ1 ρ2 τ:Sto} {rs:List R3} {ds out:List L3.D} (h1:im ρ=some (.ok (rs,ds),ρ1)) (h2:bQ bnd c elt ds (sj ix (aH ci (us ρ1 (pls rs)) ρ1))=some (.ok out,τ)) (h3:ds.length < 16777216) (a:uncap ix τ (aH ci (us ρ1 (pls rs)) ρ1)=some ρ2) :
  bx im bnd c elt ix ρ=some (.ok (.val (.lst out) .u),aH fu (us ρ1 (pls rs)) ρ2):=by
 simp [bx,ae,h1,h2,h3,a]
theorem qH:∀ {ds:List L3.D},(∀ d ∈ ds,d=.bl true)->iM ds=some (List.replicate ds.length true)
 | [],_=>rfl
 | d :: ds,h=>by
  have h1:=h d Ec
  subst h1
  have h2:=qH fun d hd=>h d (Ed _ hd)
  simp [iM,h2,List.replicate_succ]
theorem nh {ds:List L3.D} (h:∀ d ∈ ds,d=.bl true):DS (.lst ds)=some (.bl true,.z):=by
 simp [DS,qH h]
theorem ui {xs:List L3.D} {i:Nat} {d:L3.D} (h:xs[i]?=some d):L2.atI xs (i:Int)=some d:=by
 obtain ⟨h1,h2⟩:=Eo.mp h
 simp [L2.atI,ixN,h1,h2]
theorem vK {ps:List Pt} {i:Nat} {p:Pt} (h:ps[i]?=some p):L2.atI (ps.map Pd) (i:Int)=some (Pd p):=ui (by simp [h])
theorem yq {f:List L3.D->Option (List L3.D)} {ms:M3 (List R3)} {ρ ρ1 ρ2:Sto} {rs:List R3} {ds xs:List L3.D} (h1:ms ρ=some (.ok rs,ρ1)) (h2:cJ rs ρ1=some (.ok ds,ρ2)) (h3:f ds=some xs):bD f ms ρ=some (.ok ([],xs),ρ2):=by
 simp [bD,ae,h1,h2,h3,aZ]
theorem sX {a b:Int} (e:-1000<=a/\a<=1000) (f:-1000<=b/\b<=1000) {n:Nat} (d:(b - a).toNat=n):k8 [.int a,.int b]=some (bh a n):=by
 have lm:gf a=true:=Ez (by omega)
 have c:gf b=true:=Ez (by omega)
 show (if (gf a && gf b)=true then some (bh a (b - a).toNat) else none)=_
 rw [lm,c,d]
 exact if_pos rfl
theorem cu {b:Int} (d:-1000<=b/\b<=1000) {n:Nat} (c:b.toNat=n):cH [.int b]=some (bh 0 n):=by
 have a:gf b=true:=Ez (by omega)
 show (if (gf b)=true then some (bh 0 b.toNat) else none)=_
 rw [a,c]
 exact if_pos rfl
end Bn
end
section
namespace Bn
open PySem L2 L3
section
variable {α:Type} {ρ ρ1 ρ2 ρ3:Sto} {ma mb mc m:EM} {ms:M3 (List R3)} {ra rb r:R3} {rs:List R3} {da db d:L3.D} {ds:List L3.D} {fl:Fl} {i n np:Nat} {sa sb:SM} {c cc:M3 Bool} {b b2:Bool} {x:Option (Except L3.D Flw × Sto)} {y:Option (Except L3.D R3 × Sto)}
theorem ay {p:L3.D × Fl} (h:(ρ[i]?).join=some p):ac i ρ=some (.ok (.pl i),ρ):=by simp [ac,h]
theorem i_c:mC d ρ=some (.ok (.val d .z),ρ):=rfl
theorem cE {f:L3.D->L3.D->Option (L3.D × Fl)} (h1:ma ρ=some (.ok ra,ρ1)) (h2:mb ρ1=some (.ok rb,ρ2)) (h3:der ra ρ2=some (.ok da,ρ2)) (b:der rb ρ2=some (.ok db,ρ2)) (a:f da db=some (d,fl)):ah f ma mb ρ=some (.ok (.val d fl),ρ2):=by
 simp only [ah,ae,h1,h2,h3,b,aZ,a,EH]
theorem r0 {f:L3.D->Option (L3.D × Fl)} (h1:ma ρ=some (.ok ra,ρ1)) (h3:der ra ρ1=some (.ok da,ρ1)) (a:f da=some (d,fl)):mUn f ma ρ=some (.ok (.val d fl),ρ1):=by
 simp only [mUn,ae,h1,h3,aZ,a,EH]
theorem aY {f:List L3.D->Option (L3.D × Fl)} (h1:ms ρ=some (.ok rs,ρ1)) (h3:cJ rs ρ1=some (.ok ds,ρ1)) (a:f ds=some (d,fl)):au f ms ρ=some (.ok (.val d fl),ρ1):=by
 simp only [au,ae,h1,h3,aZ,a,EH]
theorem aR:af ρ=some (.ok [],ρ):=rfl
theorem av (h1:m ρ=some (.ok r,ρ1)) (h2:ms ρ1=some (.ok rs,ρ2)):aa m ms ρ=some (.ok (r :: rs),ρ2):=by
 simp only [aa,ae,h1,h2,aW]
theorem r9 {mk:List L3.D->L3.D} {f:Fl} (h1:ms ρ=some (.ok rs,ρ1)) (h2:gives rs ρ1=some (.ok ds,ρ2)) (h3:ds.length<=16777216):pZ mk f ms ρ=some (.ok (.val (mk ds) f),ρ2):=by
 simp only [pZ,ae,h1,h2,aZ,h3,if_true,EH]
theorem ak {F:Fn} {ps qs:List (L3.D × Fl)} (b:F ps=some (.ok (d,fl),qs)) (h1:ms ρ=some (.ok rs,ρ1)) (h2:prs (frz (kD rs) ρ1) rs=some ps) (h3:qs.length=ps.length) (a:back rs ps qs (frz (kD rs) ρ1) = ρ2):aj F ms ρ=some (.ok (.val d fl),ρ2):=by
 simp only [aj,ae,h1,h2,b,h3,if_true,a]
theorem p9 {p:L3.D × Fl} (h1:m ρ=some (.ok r,ρ1)) (h2:cW r ρ1=some (.ok p,ρ2)) (h3:i < ρ2.length) (a:ρ2.set i (some p) = ρ3):aP i m ρ=some (.ok .nx,ρ3):=by
 simp only [aP,ae,h1,h2,h3,if_true,a]
theorem i_asg {bnd:L3.D->Sto->Option Sto} {p:L3.D × Fl} (h1:m ρ=some (.ok r,ρ1)) (h2:cW r ρ1=some (.ok p,ρ2)) (h3:bnd p.1 ρ2=some ρ3):lR bnd m ρ=some (.ok .nx,ρ3):=by
 simp only [lR,ae,h1,h2,h3,EH]
theorem yt (h1:m ρ=some (.ok r,ρ1)):fZ m ρ=some (.ok .nx,ρ1):=by
 simp only [fZ,ae,h1,aW]
def retF (np:Nat) (r:R3):SM:=aV np (aW r)
theorem a8 (h1:m ρ=some (.ok r,ρ1)) (h2:retF np r ρ1=x):aV np m ρ=x:=by
 rw [<- h2]
 unfold retF
 simp only [aV,ae,h1,aW]
theorem cO (h1:sa ρ=some (.ok (.rt d fl),ρ1)):aE sa sb ρ=some (.ok (.rt d fl),ρ1):=by
 simp only [aE,ae,h1,aW]
theorem cD (h1:m ρ=some (.ok r,ρ1)) (h2:der r ρ1=some (.ok (.bl b),ρ1)):cB m ρ=some (.ok b,ρ1):=by
 simp only [cB,ae,h1,h2,aZ,asB,EH]
theorem bj (h1:c ρ=some (.ok b,ρ1)):eU c ρ=some (.ok (!b),ρ1):=by
 simp only [eU,ae,h1,aW]
theorem dn (h1:c ρ=some (.ok b,ρ1)) (a:b=true) (h2:sa ρ1=x):sIf c sa sb ρ=x:=by
 subst a;simp only [sIf,ae,h1,if_true];exact h2
theorem cj (h1:c ρ=some (.ok b,ρ1)) (a:b=false) (h2:sb ρ1=x):sIf c sa sb ρ=x:=by
 subst a;simp only [sIf,ae,h1,EK,if_false];exact h2
theorem dW (h1:c ρ=some (.ok b,ρ1)) (a:b=false) (h2:cc ρ1=some (.ok b2,ρ2)):cOr c cc ρ=some (.ok b2,ρ2):=by
 subst a;simp only [cOr,ae,h1,EK,if_false];exact h2
theorem qa (h1:c ρ=some (.ok b,ρ1)) (a:b=true):cOr c cc ρ=some (.ok true,ρ1):=by
 subst a;simp only [cOr,ae,h1,if_true];rfl
theorem jp (h1:ma ρ=some (.ok r,ρ1)) (h2:der r ρ1=some (.ok (.bl b),ρ1)) (a:b=true) (h3:mb ρ1=y):fQ ma mb ρ=y:=by
 subst a;simp only [fQ,ae,h1,h2,aZ,asB,EH,if_true];exact h3
theorem AS (h1:ma ρ=some (.ok r,ρ1)) (h2:der r ρ1=some (.ok (.bl b),ρ1)) (a:b=false):fQ ma mb ρ=some (.ok (.val (.bl false) .z),ρ1):=by
 subst a;simp only [fQ,ae,h1,h2,aZ,asB,EH,EK,if_false];rfl
theorem Dx (h1:c ρ=some (.ok b,ρ1)) (a:b=true) (h2:ma ρ1=y):mIf c ma mb ρ=y:=by
 subst a;simp only [mIf,ae,h1,if_true];exact h2
theorem Dy (h1:c ρ=some (.ok b,ρ1)) (a:b=false) (h2:mb ρ1=y):mIf c ma mb ρ=y:=by
 subst a;simp only [mIf,ae,h1,EK,if_false];exact h2
theorem i_sl {f:L3.D->Option Int->Option Int->Option (L3.D × Fl)} {pl pu:M3 (Option Int)} {lo hi:Option Int} (h1:ma ρ=some (.ok ra,ρ1)) (h2:pl ρ1=some (.ok lo,ρ2)) (h3:pu ρ2=some (.ok hi,ρ3)) (b:der ra ρ3=some (.ok da,ρ3)) (a:f da lo hi=some (d,fl)):mSl f ma pl pu ρ=some (.ok (.val d fl),ρ3):=by
 simp only [mSl,ae,h1,h2,h3,b,aZ,a,EH]
theorem AR:eY ρ=some (.ok none,ρ):=rfl
theorem AQ {k:Int} (h1:m ρ=some (.ok r,ρ1)) (h2:der r ρ1=some (.ok (.int k),ρ1)):bR m ρ=some (.ok (some k),ρ1):=by
 simp only [bR,ae,h1,h2,aZ,asI,EH]
theorem i_mut {ok:L3.D->Bool} {f:L3.D->List L3.D->Option (L3.D × L3.D)} {a b c:L3.D} (h0:(ρ[i]?).join=some (d,fl)) (g:ok d=true) (h1:ms ρ=some (.ok rs,ρ1)) (h2:gives rs ρ1=some (.ok ds,ρ2)) (h3:(ρ2[i]?).join=some (a,.u)) (h:f a ds=some (b,c)) (e:ρ2.set i (some (b,.u)) = ρ3):rS ok f i ms ρ=some (.ok (.val c .z),ρ3):=by
 simp only [rS,ae,ay h0,chk,h0,g,if_true,h1,h2,h3,h,e]
theorem Bz {f:L3.D->List L3.D->Option (L3.D × L3.D)} {a b e:L3.D} (h1:mb ρ=some (.ok rb,ρ1)) (h0:(ρ1[i]?).join=some (d,fl)) (h2:ma ρ1=some (.ok ra,ρ2)) (h3:gives [ra,rb] ρ2=some (.ok ds,ρ3)) (g:(ρ3[i]?).join=some (a,.u)) (c:f a ds=some (b,e)):lQ f i ma mb ρ=some (.ok .nx,ρ3.set i (some (b,.u))):=by
 simp only [lQ,ae,h1,ay h0,h2,h3,g,c]
theorem aG {mask:List Bool} {ps qs:List (L3.D × Fl)} (h1:ps.length=mask.length) (h0:gg n (List.zipWith lU mask ps) = ρ) (h2:sa ρ=some (.ok (.rt d fl),ρ1)) (h3:fg ρ1 0 (List.zipWith lU mask ps)=some qs):fnM mask n sa ps=some (.ok (d,fl),qs):=by
 subst h0;simp only [fnM,h1,if_true,fn0,h2,h3,EH]
theorem F_nx {mask:List Bool} {ps qs:List (L3.D × Fl)} (h1:ps.length=mask.length) (h0:gg n (List.zipWith lU mask ps) = ρ) (h2:sa ρ=some (.ok .nx,ρ1)) (h3:fg ρ1 0 (List.zipWith lU mask ps)=some qs):fnM mask n sa ps=some (.ok (.non,.z),qs):=by
 subst h0;simp only [fnM,h1,if_true,fn0,h2,h3,EH]
theorem f9 {i j:Int} (h:-18446744073709551616 < i/\i < 18446744073709551616):eO (.int i) (.int j)=some (.int (i * j),.z):=by
 simp [bL,h]
theorem xP {i j:Int} (h:-18446744073709551616 < j/\j < 18446744073709551616):eO (.int i) (.int j)=some (.int (i * j),.z):=by
 simp [bL,h]
theorem jq {im:IM} {bnd:L3.D->Sto->Option Sto} {o:Except L3.D Flw} (h1:im ρ=some (.ok (rs,ds),ρ1)) (a:us ρ1 (pls rs)=[]) (h2:cI bnd sb ds ρ1=some (o,ρ2)):cP im bnd sb ρ=some (o,ρ2):=by
 have b:∀ f ρ,aH f [] ρ = ρ:=fun _ _=>rfl
 simp only [cP,ae,h1,a,b,h2,EH]
theorem yr {im:IM} {bnd:L3.D->Sto->Option Sto} {o:Except L3.D Flw} {is:List Nat} (h1:im ρ=some (.ok (rs,ds),ρ1)) (a:us ρ1 (pls rs)=is) (h2:cI bnd sb ds (aH ci is ρ1)=some (o,ρ2)):cP im bnd sb ρ=some (o,aH fu is ρ2):=by
 simp only [cP,ae,h1,a,h2,EH]
theorem oe (h1:m ρ=some (.ok r,ρ1)) (h2:der r ρ1=some (.ok d,ρ1)) (h3:sT d=some ds):bW m ρ=some (.ok ([r],ds),ρ1):=by
 simp only [bW,ae,h1,h2,aZ,h3,EH]
theorem dU {f:List L3.D->Option (List L3.D)} {xs:List L3.D} (h1:ms ρ=some (.ok rs,ρ1)) (h2:cJ rs ρ1=some (.ok ds,ρ1)) (h3:f ds=some xs):bD f ms ρ=some (.ok ([],xs),ρ1):=yq h1 h2 h3
end
theorem a7 {α:Type} {bnd:L3.D->Sto->Option Sto} {c:M3 Bool} {elt:EM} (P:Sto->Prop) (D:α->L3.D) (g:α->Bool) (f:α->L3.D):∀ {xs:List α} {τ:Sto},P τ ->
  (∀ x ∈ xs,∀ τ,P τ->∃ τ1 τ2,bnd (D x) τ=some τ1/\c τ1=some (.ok (g x),τ2)/\(g x=false->P τ2)/\(g x=true->∃ r τ3 p τ4,elt τ2=some (.ok r,τ3)/\cW r τ3=some (.ok p,τ4)/\p.1=f x/\P τ4)) ->
  ∃ τ',bQ bnd c elt (xs.map D) τ=some (.ok ((xs.filter g).map f),τ')/\P τ'
 | [],τ,h0,_=>⟨τ,rfl,h0⟩
 | x :: xs,τ,h0,hs=>by
  obtain ⟨τ1,τ2,e1,b,hf,l⟩:=hs x Ec τ h0
  cases a:g x with
  | false =>
   obtain ⟨τ',e,i⟩:=a7 P D g f (xs:=xs) (τ:=τ2) (hf a) fun d hd=>hs d (Ed _ hd)
   refine ⟨τ',?_,i⟩
   rw [Ey]
   unfold bQ
   rw [a] at b
   simp [e1,ae,b,e,List.filter_cons,a]
  | true =>
   obtain ⟨r,τ3,p,τ4,m,j,k,h⟩:=l a
   obtain ⟨τ',e,i⟩:=a7 P D g f (xs:=xs) (τ:=τ4) h fun d hd=>hs d (Ed _ hd)
   refine ⟨τ',?_,i⟩
   rw [Ey]
   unfold bQ
   rw [a] at b
   simp [e1,ae,b,m,j,e,List.filter_cons,a,aW,k]
section
variable {α:Type} {P:List α->Prop} {us:List α}
theorem bnd0 (h:us.length=0) (f:P []):P us:=by
 cases us with
 | nil=>exact f
 | cons a us=>cases h
theorem A9 {n:Nat} (h:us.length=n+1) (f:∀ a r,r.length=n->P (a :: r)):P us:=by
 cases us with
 | nil=>cases h
 | cons a us=>exact f a us (Nat.succ.inj h)
theorem bnd1 (h:us.length=1) (f:∀ a,P [a]):P us:=A9 h fun a _ h=>bnd0 (P:=fun r=>P (a :: r)) h (f a)
theorem bnd2 (h:us.length=2) (f:∀ a b,P [a,b]):P us:=A9 h fun a _ h=>bnd1 (P:=fun r=>P (a :: r)) h (f a)
theorem bnd3 (h:us.length=3) (f:∀ a b c,P [a,b,c]):P us:=A9 h fun a _ h=>bnd2 (P:=fun r=>P (a :: r)) h (f a)
theorem bnd4 (h:us.length=4) (f:∀ a b c d,P [a,b,c,d]):P us:=A9 h fun a _ h=>bnd3 (P:=fun r=>P (a :: r)) h (f a)
end
theorem hb1 {x:Str} {st:Stmt} {b:Str} (f:∀ (kV doc pm:Value) (an:Option Addr) (a ct c:Value),bindArgs (PySem.W.fnOf x x (bb st) (aU st) (ag st) .none kV doc pm an a ct) ⟨[c],[]⟩=pure ([b].zip [c])) (kV doc pm:Value) (an:Option Addr) (a ct:Value) (us:List Value) (d:us.length=[b].length):bindArgs (PySem.W.fnOf x x (bb st) (aU st) (ag st) .none kV doc pm an a ct) ⟨us,[]⟩=pure ([b].zip us) :=
 bnd1 (P:=fun us=>bindArgs (PySem.W.fnOf x x (bb st) (aU st) (ag st) .none kV doc pm an a ct) ⟨us,[]⟩=pure ([b].zip us)) d (f kV doc pm an a ct)
theorem hb2 {x:Str} {st:Stmt} {c b:Str} (f:∀ (kV doc pm:Value) (an:Option Addr) (a ct d a1:Value),bindArgs (PySem.W.fnOf x x (bb st) (aU st) (ag st) .none kV doc pm an a ct) ⟨[d,a1],[]⟩=pure ([c,b].zip [d,a1])) (kV doc pm:Value) (an:Option Addr) (a ct:Value) (us:List Value) (e:us.length=[c,b].length):bindArgs (PySem.W.fnOf x x (bb st) (aU st) (ag st) .none kV doc pm an a ct) ⟨us,[]⟩=pure ([c,b].zip us) :=
 bnd2 (P:=fun us=>bindArgs (PySem.W.fnOf x x (bb st) (aU st) (ag st) .none kV doc pm an a ct) ⟨us,[]⟩=pure ([c,b].zip us)) e (f kV doc pm an a ct)
theorem hb3 {x:Str} {st:Stmt} {c b p2:Str} (f:∀ (kV doc pm:Value) (an:Option Addr) (a ct d a1 a2:Value),bindArgs (PySem.W.fnOf x x (bb st) (aU st) (ag st) .none kV doc pm an a ct) ⟨[d,a1,a2],[]⟩=pure ([c,b,p2].zip [d,a1,a2])) (kV doc pm:Value) (an:Option Addr) (a ct:Value) (us:List Value) (e:us.length=[c,b,p2].length):bindArgs (PySem.W.fnOf x x (bb st) (aU st) (ag st) .none kV doc pm an a ct) ⟨us,[]⟩=pure ([c,b,p2].zip us) :=
 bnd3 (P:=fun us=>bindArgs (PySem.W.fnOf x x (bb st) (aU st) (ag st) .none kV doc pm an a ct) ⟨us,[]⟩=pure ([c,b,p2].zip us)) e (f kV doc pm an a ct)
theorem hb4 {x:Str} {st:Stmt} {d b p2 c:Str} (f:∀ (kV doc pm:Value) (an:Option Addr) (a ct e a1 a2 g:Value),bindArgs (PySem.W.fnOf x x (bb st) (aU st) (ag st) .none kV doc pm an a ct) ⟨[e,a1,a2,g],[]⟩=pure ([d,b,p2,c].zip [e,a1,a2,g])) (kV doc pm:Value) (an:Option Addr) (a ct:Value) (us:List Value) (h:us.length=[d,b,p2,c].length):bindArgs (PySem.W.fnOf x x (bb st) (aU st) (ag st) .none kV doc pm an a ct) ⟨us,[]⟩=pure ([d,b,p2,c].zip us) :=
 bnd4 (P:=fun us=>bindArgs (PySem.W.fnOf x x (bb st) (aU st) (ag st) .none kV doc pm an a ct) ⟨us,[]⟩=pure ([d,b,p2,c].zip us)) h (f kV doc pm an a ct)
end Bn
end
section
namespace L3
open PySem L2
def tgN:Expr->List Str
 | .Name x _=>[x]
 | .Tuple [.Name x _,.Name y _] _ _=>[x,y]
 | .Tuple [.Name x _,.Name y _,.Name z _] _ _=>[x,y,z]
 | _=>[]
def pG (tg:Expr) (N:List Str) (ix:List (Option Nat)):List Str:=tgN tg ++ ix.filterMap fun o=>o.bind fun i=>N[i]?
def ndB:List Str->Bool
 | []=>true
 | x :: xs=>!(xs.any fun y=>decide (y=x)) && ndB xs
theorem pK:∀ {xs:List Str},ndB xs=true->xs.Nodup
 | [],_=>.nil
 | x :: xs,h=>by
  simp only [ndB,Bool.and_eq_true,Bool.not_eq_true',List.any_eq_false,decide_eq_true_eq] at h
  exact List.nodup_cons.mpr ⟨fun m=>h.1 x m rfl,pK h.2⟩
section
variable {X:Cx} {G0:Gm} {W0:D->Sto->Prop} {pos:Pos}
theorem wZ {elt tg iter:Expr} {ifs:List Expr} {scope:Scope} {im:IM} {bnd:D->Sto->Option Sto} {d:M3 Bool} {em:EM} {ix:List (Option Nat)} (h:X.calm=true) (hi:RI X G0 W0 tg iter im)
  (g:∀ s H C fp,PTs (aN X (pG tg X.N ix) scope s H C fp) ifs (tT X.K (bo ix) noX d)) (he:∀ s H C fp,RE (aN X (pG tg X.N ix) scope s H C fp) (bo ix) noX elt em)
  (e:ie scope X.N X.env.scope (pG tg X.N ix) ix=true) (c:Inj ix) (f:∀ x,foldedSetIterable iter X.env x=pure x) (b:∃ a,Bnd X.K (bo ix).pr a bnd/\∀ s H C fp,PG (aN X (pG tg X.N ix) scope s H C fp) tg a):RE X G0 W0 (.ListComp elt [⟨tg,iter,ifs,0⟩] scope pos) (bx im bnd d em ix) :=
 z5 _ ix h hi g he e c f b
theorem j7 {i:Nat} {y:Str} {py a:Pos} {elt tg iter:Expr} {ifs:List Expr} {scope:Scope} {im:IM} {bnd:D->Sto->Option Sto} {f:M3 Bool} {em:EM} {ix:List (Option Nat)} (n:X.N.Nodup) (l:X.N[i]?=some y) (g:Loc X.env.scope y) (j:X.calm=true) (hi:RI X G0 W0 tg iter im)
  (o:∀ s H C fp,PTs (aN X (pG tg X.N ix) scope s H C fp) ifs (tT X.K (bo ix) noX f)) (he:∀ s H C fp,RE (aN X (pG tg X.N ix) scope s H C fp) (bo ix) noX elt em)
  (k:ie scope X.N X.env.scope (pG tg X.N ix) ix=true) (e:Inj ix) (d:swapsWith (.ListComp elt [⟨tg,iter,ifs,0⟩] scope pos) (some (.Name y py)) a.line X.env=pure true) (hf:X.fn y=true\/X.env.scope.names.lookup y=some .local)
  (h:∀ x,foldedSetIterable iter X.env x=pure x) (m:G0.pr i=false) (c:∃ b,Bnd X.K (bo ix).pr b bnd/\∀ s H C fp,PG (aN X (pG tg X.N ix) scope s H C fp) tg b):RS X G0 W0 (.Assign [.Name y py] (.ListComp elt [⟨tg,iter,ifs,0⟩] scope pos) a) (aP i (bx im bnd f em ix)) :=
 re n l g _ ix j hi o he k e d hf h m c
end
section
variable {X:Cx} {G0:Gm} {W0:D->Sto->Prop} {p q r:Pos} {m:EM} {e e1:Expr} {es:List Expr} {t:M3 Bool} {sm:SM}
theorem gN {x:Str} {i:Nat} (h:RE X G0 W0 (.Name x p) (ac i)):RE X G0 W0 (.Name x p) (ac i):=h
theorem gG {x:Str} {d:D} (h:RE X G0 W0 (.Name x p) (mC d)):RE X G0 W0 (.Name x p) (mC d):=h
theorem gH {x:Str} (h:RE X G0 W0 (.Name x p) m):RE X G0 W0 (.Name x p) m:=h
theorem gK {c:Const} {k:Nat} (h:RE X G0 W0 (.Constant c k p) m):RE X G0 W0 (.Constant c k p) m:=h
theorem gB (op:Operator) (h:RE X G0 W0 (.BinOp e op e1 p) m):RE X G0 W0 (.BinOp e op e1 p) m:=h
theorem gU (op:UnaryOp) (h:RE X G0 W0 (.UnaryOp op e p) m):RE X G0 W0 (.UnaryOp op e p) m:=h
theorem gP (os:List CmpOp) (h:RE X G0 W0 (.Compare e os es p) m):RE X G0 W0 (.Compare e os es p) m:=h
theorem gO {op:BoolOp} (h:RE X G0 W0 (.BoolOp op es p) m):RE X G0 W0 (.BoolOp op es p) m:=h
theorem gS (h:RE X G0 W0 (.Subscript e e1 p) m):RE X G0 W0 (.Subscript e e1 p) m:=h
theorem gL {a b c:Option Expr} (h:RE X G0 W0 (.Subscript e (.Slice a b c p) q) m):RE X G0 W0 (.Subscript e (.Slice a b c p) q) m:=h
theorem gI (x:Str) {s:Str} (h:RE X G0 W0 (.Call (.Name s p) [e,.Name x q] [] r) m):RE X G0 W0 (.Call (.Name s p) [e,.Name x q] [] r) m:=h
theorem gC (x:Str) {ks:List Keyword} (h:RE X G0 W0 (.Call (.Name x p) es ks q) m):RE X G0 W0 (.Call (.Name x p) es ks q) m:=h
theorem gD {x:Str} {ks:List Keyword} (h:RE X G0 W0 (.Call (.Name x p) es ks q) m):RE X G0 W0 (.Call (.Name x p) es ks q) m:=h
theorem gM (x:Str) {ks:List Keyword} (h:RE X G0 W0 (.Call (.Attribute e x p) es ks q) m):RE X G0 W0 (.Call (.Attribute e x p) es ks q) m:=h
theorem gE (h:RE X G0 W0 e m):RE X G0 W0 e m:=h
theorem gA {ms:M3 (List R3)} (h:RA X G0 W0 es ms):RA X G0 W0 es ms:=h
theorem gQ (os:List CmpOp) (h:RT X G0 W0 (.Compare e os es p) t):RT X G0 W0 (.Compare e os es p) t:=h
theorem gW {op:BoolOp} (h:RT X G0 W0 (.BoolOp op es p) t):RT X G0 W0 (.BoolOp op es p) t:=h
theorem gV (h:RT X G0 W0 (.UnaryOp .Not e p) t):RT X G0 W0 (.UnaryOp .Not e p) t:=h
theorem gT (h:RT X G0 W0 e t):RT X G0 W0 e t:=h
theorem gR {o:Option Expr} (h:RS X G0 W0 (.Return o p) sm):RS X G0 W0 (.Return o p) sm:=h
theorem gF {ss tt:List Stmt} (h:RS X G0 W0 (.If e ss tt p) sm):RS X G0 W0 (.If e ss tt p) sm:=h
theorem gX {x:Str} (h:RS X G0 W0 (.Assign [.Name x p] e q) sm):RS X G0 W0 (.Assign [.Name x p] e q) sm:=h
theorem gZ {st:Stmt} (h:RS X G0 W0 st sm):RS X G0 W0 st sm:=h
theorem gY {ss:List Stmt} (h:RSs X G0 W0 ss sm):RSs X G0 W0 ss sm:=h
end
end L3
end
section
namespace Bn
open PySem L2 L3
local macro_rules | `(tactic| infer_instance)=>`(tactic| first | with_reducible apply ay | with_reducible exact i_c | with_reducible apply cE | with_reducible apply r0 | with_reducible apply aY | with_reducible exact aR | with_reducible apply av | with_reducible apply r9 | with_reducible apply p9 | with_reducible apply i_asg | with_reducible apply yt | with_reducible apply a8 | with_reducible exact i_nilS | with_reducible apply cD | with_reducible apply bj | with_reducible apply i_mNot | with_reducible apply i_sl | with_reducible exact AR | with_reducible apply AQ | with_reducible apply i_mut | with_reducible apply Bz | with_reducible apply oe | with_reducible apply dU | with_reducible apply jp | with_reducible apply dW)
local macro_rules | `(tactic| eq_refl)=>`(tactic| first | exact rfl | exact Nat.le_of_ble_eq_true rfl)
local macro_rules | `(tactic| nofun) => `(tactic| repeat' (first | infer_instance | eq_refl))
local macro_rules | `(tactic| exists $es,*) => `(tactic| repeat' (first | infer_instance | (first $[| exact $es]*) | eq_refl))
local macro_rules | `(tactic| nomatch [$fs,*]) => `(tactic| repeat' (first | infer_instance | (first $[| with_reducible apply ak $fs]*) | eq_refl))
local macro_rules | `(tactic| nomatch [$fs,*], [$es,*]) => `(tactic| repeat' (first | infer_instance | (first $[| with_reducible apply ak $fs]*) | (first $[| exact $es]*) | eq_refl))
section
variable {X:Cx} {G0:Gm} {W0:L3.D->Sto->Prop} {pos:Pos}
end
section
variable {P:Program} {w:World} {K:FG} {mg:Str->Option Value} {base:Heap}
set_option hygiene false
local macro_rules | `(tactic| and_intros)=>`(tactic| repeat' (first
 | ((with_reducible apply gA);first | refine tj ?_ ?_ rfl | refine xa)
 | ((with_reducible apply gN);first | refine nD _ rfl (Or.inl rfl) (by decide) (by decide) | refine nD _ rfl (Or.inr (Or.inl rfl)) (by decide) (by decide))
 | ((with_reducible apply gG);refine pg rfl (by assumption) (by decide))
 | ((with_reducible apply gK);first | refine CC | refine re_bl | refine CA | refine Cw)
 | ((with_reducible apply gL);first | refine wX ?_ ?_ ?_ | refine z4 ?_ ?_)
 | ((with_reducible apply gS);refine re_ix (Dv hr.hu) Dc ?_ ?_ (fun _ _=>rfl))
 | ((with_reducible apply gB .Add);refine jF Ao Df ?_ ?_)
 | ((with_reducible apply gB .Sub);refine jF C5 As ?_ ?_)
 | ((with_reducible apply gB .Mult);refine jF C8 Au ?_ ?_)
 | ((with_reducible apply gB .Mod);refine jF C9 Av ?_ ?_)
 | ((with_reducible apply gB .FloorDiv);refine jF xG Ax ?_ ?_)
 | ((with_reducible apply gB .Pow);refine jF C6 At ?_ ?_)
 | ((with_reducible apply gQ [.Eq]);refine k7 (xH hr.units) xL ?_ ?_ (fK _))
 | ((with_reducible apply gQ [.Lt]);refine k7 tJ xJ ?_ ?_ (fK _))
 | ((with_reducible apply gQ [.NotEq]);refine k7 (C7 hr.units) Dd ?_ ?_ (fK _))
 | ((with_reducible apply gQ [.Gt]);refine k7 Bu Bv ?_ ?_ (fK _))
 | ((with_reducible apply gQ [.GtE]);refine k7 op_ge od_ge ?_ ?_ (fK _))
 | ((with_reducible apply gW);refine rt_w ?_)
 | ((with_reducible apply gV);refine Cn ?_)
 | ((with_reducible apply gT);refine Cm ?_ (fun _=>rfl))
 | ((with_reducible apply gP [.Eq]);refine nF (xH hr.units) xL ?_ ?_ (fK _))
 | ((with_reducible apply gP [.Lt]);refine nF tJ xJ ?_ ?_ (fK _))
 | ((with_reducible apply gP [.LtE,.Lt]);refine ph mH xK tJ xJ ?_ ?_ ?_ (fun h1 h2 h3=>pD mH tJ h1 h2 h3))
 | ((with_reducible apply gP [.LtE,.LtE]);refine ph mH xK mH xK ?_ ?_ ?_ (fun h1 h2 h3=>pD mH mH h1 h2 h3))
 | ((with_reducible apply gP [.Is]);refine nF Da De ?_ ?_ (fK _))
 | ((with_reducible apply gP [.Gt]);refine nF Bu Bv ?_ ?_ (fK _))
 | ((with_reducible apply gO);first | refine CG ?_ ?_ | refine Cy ?_)
 | ((with_reducible apply gU .USub);refine re_un BK BL ?_)
 | ((with_reducible apply gU .Not);refine Cz ?_)
 | ((with_reducible apply gI "tuple");refine rh lJ rfl B.isinstance (nM (v:=V.ty "tuple") rfl B.tuple uh rfl (by decide) (by decide)) ?_ rfl rfl rfl)
 | ((with_reducible apply gI "bool");refine rh lW rfl B.isinstance (nM (v:=V.ty "bool") rfl B.bool DQ rfl (by decide) (by decide)) ?_ rfl rfl rfl)
 | ((with_reducible apply gI "int");refine rh oD rfl B.isinstance (nM (v:=V.ty "int") rfl B.int b_int rfl (by decide) (by decide)) ?_ rfl rfl rfl)
 | ((with_reducible apply gC "len");refine cZ oC DK rfl B.len b_len ?_ (by decide) (by decide) rfl rfl)
 | ((with_reducible apply gC "all");refine cZ (yW rfl) DL rfl B.all b_all ?_ (by decide) (by decide) rfl rfl)
 | ((with_reducible apply gC "tuple");refine mD lV DI rfl B.tuple uh ?_ (by decide) (by decide) rfl rfl)
 | ((with_reducible apply gC "list");refine mD oB DJ rfl B.list DP ?_ (by decide) (by decide) rfl rfl)
 | ((with_reducible apply gC "sorted");first | refine re_ss rfl rfl B.sorted qG rfl B.set b_set ?_ (by decide) (by decide) (by decide) (by decide) rfl rfl | refine cZ (so (Nat.lt_of_le_of_lt (Nat.add_le_add_left (by decide:2<=64) _) hr.units)) yT rfl B.sorted qG ?_ (by decide) (by decide) rfl rfl)
 | ((with_reducible apply gC "repr");refine cZ (oA hr.gd hr.units) yU rfl B.repr DO ?_ (by decide) (by decide) rfl rfl)
 | ((with_reducible apply gC "abs");refine cZ yX DM rfl B.abs b_abs ?_ (by decide) (by decide) rfl rfl)
 | ((with_reducible apply gC "divmod");refine cZ qu vC rfl B.divmod y7 ?_ (by decide) (by decide) rfl rfl)
 | ((with_reducible apply gC "min");refine cZ (vE rfl) AY rfl B.min b_min ?_ (by decide) (by decide) rfl rfl)
 | ((with_reducible apply gC "max");refine cZ (vF rfl) AZ rfl B.max b_max ?_ (by decide) (by decide) rfl rfl)
 | ((with_reducible apply gD);refine z6 (by assumption) (hr.mono (by first | decide | omega)) ?_ rfl (by decide) rfl rfl)
 | ((with_reducible apply gM "append");refine tf (ok:=isL) PySem.F.plainAttrs_list PySem.F.slot_list_append PySem.F.type_list_append uY Dl yp (nJ rfl (Or.inl rfl) (by decide) (by decide)) ?_ rfl rfl rfl rfl rfl)
 | ((with_reducible apply gM "extend");refine tf (ok:=isL) PySem.F.plainAttrs_list PySem.F.slot_list_extend PySem.F.type_list_extend uX Dk yp (nJ rfl (Or.inl rfl) (by decide) (by decide)) ?_ rfl rfl rfl rfl rfl)
 | ((with_reducible apply gH);first | refine nD _ rfl (Or.inl rfl) (by decide) (by decide) | refine nD _ rfl (Or.inr (Or.inl rfl)) (by decide) (by decide) | refine pg rfl (by assumption) (by decide))
 | ((with_reducible apply gE);first | refine Cv ?_ | refine CB ?_ | refine wZ rfl ?_ (fun s H C fp=>?_) (fun s H C fp=>?_) (by rfl) (rZ (by decide)) (fun _=>rfl) ⟨_,ip rfl,fun s H C fp=>je (pK rfl) rfl (Or.inl rfl) (Or.inr rfl)⟩ | refine re_if ?_ ?_ ?_ | refine wY | refine CF (key:=.inr "a") xy nK | refine CD (ns:=[0,1]) hr.hu (by decide) (by decide) rfl nK)
 | ((with_reducible apply gY);first | refine zQ ?_ | refine wO ?_ ?_ | refine zR)
 | ((with_reducible apply gR);refine Cp _ (fun i hi=>by rw [hp] ;exact Ae (by simpa using hi)) ?_)
 | ((with_reducible apply gF);refine rs_if ?_ ?_ ?_)
 | ((with_reducible apply gX);first | refine j7 nd rfl (Or.inl rfl) rfl ?_ (fun s H C fp=>?_) (fun s H C fp=>?_) (by rfl) (rZ (by decide)) rfl (Or.inl rfl) (fun _=>rfl) (by rw [hp] ;rfl) ⟨_,ue (jW (ip rfl) (jW (ip rfl) qD)),fun s H C fp=>xw (n:=2) rfl (lf (je (pK rfl) rfl (Or.inl rfl) (Or.inr rfl)) (lf (je (pK rfl) rfl (Or.inl rfl) (Or.inr rfl)) tG rfl) rfl) rfl rfl⟩ | refine j7 nd rfl (Or.inl rfl) rfl ?_ (fun s H C fp=>?_) (fun s H C fp=>?_) (by rfl) (rZ (by decide)) rfl (Or.inl rfl) (fun _=>rfl) (by rw [hp] ;rfl) ⟨_,ip rfl,fun s H C fp=>je (pK rfl) rfl (Or.inl rfl) (Or.inr rfl)⟩ | refine wQ _ nd rfl (Or.inl rfl) ?_ rfl (Or.inl rfl) (by rw [hp] ;rfl) | refine wQ _ nd rfl (Or.inr rfl) ?_ rfl (Or.inl rfl) (by rw [hp] ;rfl))
 | ((with_reducible apply gZ);first | refine Cq PassesOwn.never rfl ?_ ?_ ?_ (fun _=>rfl) | refine zS ?_ rfl | refine Co (zH hr.hu) Dj (nJ rfl (Or.inl rfl) (by decide) (by decide)) ?_ ?_ (fun _=>rfl) rfl rfl rfl | refine Cr ?_ ?_ rfl rfl rfl | refine wR | refine wP PassesOwn.never ?_ ?_)
 | refine Ct ?_
 | refine sZ _ nd rfl (Or.inl rfl) (Or.inl rfl) (by rw [hp] ;rfl)
 | refine zT ?_
 | refine wT
 | refine zX rfl B.range ?_ rfl
 | refine Ch ?_
 | refine rw_or ?_ ?_
 | refine zU
 | refine wW ?_ ?_ rfl
 | refine wS ?_
 | refine sZ _ nd rfl (Or.inr rfl) (Or.inl rfl) (by rw [hp] ;rfl)
 | refine zZ
 | refine Cu rfl ?_ rfl rfl
 | refine zW rfl B.range ?_ rfl rfl
 | refine zY rfl B.enumerate ?_ rfl))
set_option hygiene true
def rO:SM:=(aV 1 (fQ (mUn (fR "int") (ac 0)) (p5 (mUn (fR "bool") (ac 0)))))
def bT:Fn:=fnM [false] 1 rO
theorem sc_is_whole:FnScope ["thing"] ["thing"] (ag fE):=⟨rfl,rfl,rfl,by decide +kernel,rfl,by decide +kernel,by decide +kernel⟩
theorem oG (B:Bl mg) (D:Def K mg "is_whole" fE):aD P w K mg base "is_whole" 1 ["thing"] bT :=
 aK (k:=0) D sc_is_whole rfl rfl (hb1 fun _ _ _ _ _ _ _=>rfl) fun a A outer s H E f G hr hp =>
  have nd:=sc_is_whole.nd;by and_intros
def rQ:SM:=(aV 1 (fQ (mUn (fR "tuple") (ac 0)) (fQ (ah eqX (au bZ (aa (ac 0) af)) (mC (.int 2))) (fQ (aj bT (aa (ah aA (ac 0) (mC (.int 0))) af)) (aj bT (aa (ah aA (ac 0) (mC (.int 1))) af))))))
def fY:Fn:=fnM [false] 1 rQ
theorem sc_is_point:FnScope ["thing"] ["thing"] (ag fG):=⟨rfl,rfl,rfl,by decide +kernel,rfl,by decide +kernel,by decide +kernel⟩
theorem oI (B:Bl mg) (D:Def K mg "is_point" fG) (a:aD P w K mg base "is_whole" 1 ["thing"] bT):aD P w K mg base "is_point" 2 ["thing"] fY :=
 aK (k:=1) D sc_is_point rfl rfl (hb1 fun _ _ _ _ _ _ _=>rfl) fun b A outer s H E f G hr hp =>
  have nd:=sc_is_point.nd;by and_intros
def rR:SM:=(aV 2 (fQ (aj bT (aa (ac 0) af)) (di leI ltI (mC (.int 0)) (ac 0) (ac 1))))
def dZ:Fn:=fnM [false,false] 2 rR
theorem sc_is_place:FnScope ["thing","many"] ["thing","many"] (ag fH):=⟨rfl,rfl,rfl,by decide +kernel,rfl,by decide +kernel,by decide +kernel⟩
theorem oJ (B:Bl mg) (D:Def K mg "is_place" fH) (a:aD P w K mg base "is_whole" 1 ["thing"] bT):aD P w K mg base "is_place" 2 ["thing","many"] dZ :=
 aK (k:=1) D sc_is_place rfl rfl (hb2 fun _ _ _ _ _ _ _ _=>rfl) fun b A outer s H E f G hr hp =>
  have nd:=sc_is_place.nd;by and_intros
def aF:EM:=(aj dZ (aa (ac 0) (aa (ac 1) af)))
def bf:EM:=(bx (bW (ac 0)) (aq 0) b7 aF [none,some 1])
def bI:EM:=(ah ltI (ah aA (ac 1) (ac 0)) (ah aA (ac 1) (ah aO (ac 0) (mC (.int 1)))))
def bH:EM:=(bx (bD cH (aa (ah fv (au bZ (aa (ac 0) af)) (mC (.int 1))) af)) (aq 0) b7 bI [none,some 0])
def bY:SM:=(aE (sIf (cOr (eU (cB (mUn (fR "tuple") (ac 0)))) (eU (cB (au oM (aa bf af))))) (aV 2 (mC (.bl false))) dy) (aV 2 (au oM (aa bH af))))
def aC:Fn:=fnM [false,false] 2 bY
theorem sc_are_rising_places:FnScope ["thing","many"] ["thing","many"] (ag bz):=⟨rfl,rfl,rfl,by decide +kernel,rfl,by decide +kernel,by decide +kernel⟩
theorem gh (B:Bl mg) (D:Def K mg "are_rising_places" bz) (a:aD P w K mg base "is_place" 2 ["thing","many"] dZ):aD P w K mg base "are_rising_places" 3 ["thing","many"] aC :=
 aK (k:=2) D sc_are_rising_places rfl rfl (hb2 fun _ _ _ _ _ _ _ _=>rfl) fun b A outer s H E f G hr hp =>
  have nd:=sc_are_rising_places.nd;by and_intros
def dh:EM:=(aj fY (aa (ac 0) af))
def gc:EM:=(bx (bW (ac 0)) (aq 0) b7 dh [none])
def nU:SM:=(aV 1 (fQ (di leI leI (mC (.int 1)) (au bZ (aa (ac 0) af)) (mC (.int (24)))) (au oM (aa gc af))))
def dE:Fn:=fnM [false] 1 nU
theorem sc_are_points:FnScope ["things"] ["things"] (ag dw):=⟨rfl,rfl,rfl,by decide +kernel,rfl,by decide +kernel,by decide +kernel⟩
theorem lL (B:Bl mg) (D:Def K mg "are_points" dw) (c:aD P w K mg base "is_point" 2 ["thing"] fY) {a:Tok} (b:mg "MOST_POINTS"=some (.int (24) a)):aD P w K mg base "are_points" 3 ["things"] dE :=
 aK (k:=2) D sc_are_points rfl rfl (hb1 fun _ _ _ _ _ _ _=>rfl) fun d A outer s H E f G hr hp =>
  have nd:=sc_are_points.nd;by and_intros
def cy:EM:=(ah ltI (ah aA (ah aA (ac 1) (ac 0)) (mC (.int 0))) (ah aA (ah aA (ac 1) (ah aO (ac 0) (mC (.int 1)))) (mC (.int 0))))
def eI:EM:=(bx (bD cH (aa (ah fv (au bZ (aa (ac 0) af)) (mC (.int 1))) af)) (aq 0) b7 cy [none,some 0])
def gJ:SM:=(aV 1 (au oM (aa eI af)))
def cG:Fn:=fnM [false] 1 gJ
theorem sc_has_rising_x:FnScope ["points"] ["points"] (ag cr):=⟨rfl,rfl,rfl,by decide +kernel,rfl,by decide +kernel,by decide +kernel⟩
theorem jV (B:Bl mg) (D:Def K mg "has_rising_x" cr):aD P w K mg base "has_rising_x" 1 ["points"] cG :=
 aK (k:=0) D sc_has_rising_x rfl rfl (hb1 fun _ _ _ _ _ _ _=>rfl) fun a A outer s H E f G hr hp =>
  have nd:=sc_has_rising_x.nd;by and_intros
def Dn:SM:=(aE (aP 3 (ah eO (ah fv (ah aA (ac 1) (mC (.int 0))) (ah aA (ac 0) (mC (.int 0)))) (ah fv (ah aA (ac 2) (mC (.int 1))) (ah aA (ac 0) (mC (.int 1)))))) (aV 3 (ah fv (ac 3) (ah eO (ah fv (ah aA (ac 1) (mC (.int 1))) (ah aA (ac 0) (mC (.int 1)))) (ah fv (ah aA (ac 2) (mC (.int 0))) (ah aA (ac 0) (mC (.int 0))))))))
def jZ:Fn:=fnM [false,false,false] 4 Dn
theorem sc_bend:FnScope ["first","second","third","run"] ["first","second","third"] (ag nz):=⟨rfl,rfl,rfl,by decide +kernel,rfl,by decide +kernel,by decide +kernel⟩
theorem yZ (B:Bl mg) (D:Def K mg "bend" nz):aD P w K mg base "bend" 1 ["first","second","third"] jZ :=
 aK (k:=0) D sc_bend rfl rfl (hb3 fun _ _ _ _ _ _ _ _ _=>rfl) fun a A outer s H E f G hr hp =>
  have nd:=sc_bend.nd;by and_intros
def gr:EM:=(bp (aa (ac 1) (aa (ac 2) (aa (ac 0) af))))
def ke:EM:=(bx (bD k8 (aa (ah aO (ac 3) (mC (.int 1))) (aa (ac 0) af))) (aq 0) b7 gr [none,some 2,some 3])
def gu:SM:=(fZ (rS isL yF 1 (aa ke af)))
def kg:SM:=(cP (bD k8 (aa (ah aO (ac 2) (mC (.int 1))) (aa (ac 0) af))) (aq 3) gu)
def xV:SM:=(aE (aP 1 (cA af)) (aE (cP (bD cH (aa (ac 0) af)) (aq 2) kg) (aV 1 (ac 1))))
def fh:Fn:=fnM [false] 4 xV
theorem sc_threes:FnScope ["many","found","i","j"] ["many"] (ag i5):=⟨rfl,rfl,rfl,by decide +kernel,rfl,by decide +kernel,by decide +kernel⟩
theorem su (B:Bl mg) (D:Def K mg "threes" i5):aD P w K mg base "threes" 1 ["many"] fh :=
 aK (k:=0) D sc_threes rfl rfl (hb1 fun _ _ _ _ _ _ _=>rfl) fun a A outer s H E f G hr hp =>
  have nd:=sc_threes.nd;by and_intros
def cf:EM:=(ah aA (ac 1) (ac 0))
def dP:EM:=(bx (bW (ac 1)) (aq 0) b7 cf [none,some 0])
def bG:SM:=(aE (aP 2 (au lN (aa dP af))) (sIf (cB (ah eqX (aj jZ (aa (ah aA (ac 2) (mC (.int 0))) (aa (ah aA (ac 2) (mC (.int 1))) (aa (ah aA (ac 2) (mC (.int 2))) af)))) (mC (.int 0)))) (aV 1 (ac 2)) dy))
def kz:SM:=(aE (cP (bW (aj fh (aa (au bZ (aa (ac 0) af)) af))) (aq 1) bG) (aV 1 (mC .non)))
def ce:Fn:=fnM [false] 3 kz
theorem sc_first_on_line:FnScope ["points","three","found"] ["points"] (ag b9):=⟨rfl,rfl,rfl,by decide +kernel,rfl,by decide +kernel,by decide +kernel⟩
theorem js (B:Bl mg) (D:Def K mg "first_on_line" b9) (b:aD P w K mg base "bend" 1 ["first","second","third"] jZ) (a:aD P w K mg base "threes" 1 ["many"] fh):aD P w K mg base "first_on_line" 2 ["points"] ce :=
 aK (k:=1) D sc_first_on_line rfl rfl (hb1 fun _ _ _ _ _ _ _=>rfl) fun c A outer s H E f G hr hp =>
  have nd:=sc_first_on_line.nd;by and_intros
def rP:SM:=(aE (sIf (cOr (eU (cB (mUn (fR "tuple") (ac 0)))) (eU (cB (aj dE (aa (ac 0) af))))) (aV 1 (mC (.bl false))) dy) (aV 1 (fQ (aj cG (aa (ac 0) af)) (ah isN (aj ce (aa (ac 0) af)) (mC .non)))))
def fX:Fn:=fnM [false] 1 rP
theorem sc_is_sheet:FnScope ["thing"] ["thing"] (ag fF):=⟨rfl,rfl,rfl,by decide +kernel,rfl,by decide +kernel,by decide +kernel⟩
theorem oH (B:Bl mg) (D:Def K mg "is_sheet" fF) (c:aD P w K mg base "are_points" 3 ["things"] dE) (a:aD P w K mg base "first_on_line" 2 ["points"] ce) (b:aD P w K mg base "has_rising_x" 1 ["points"] cG):aD P w K mg base "is_sheet" 4 ["thing"] fX :=
 aK (k:=3) D sc_is_sheet rfl rfl (hb1 fun _ _ _ _ _ _ _=>rfl) fun d A outer s H E f G hr hp =>
  have nd:=sc_is_sheet.nd;by and_intros
def lT:SM:=(sIf (eU (cB (aj fX (aa (ac 0) af)))) wB dy)
def cV:Fn:=fnM [false] 1 lT
theorem sc_check_sheet:FnScope ["thing"] ["thing"] (ag cQ):=⟨rfl,rfl,rfl,by decide +kernel,rfl,by decide +kernel,by decide +kernel⟩
theorem kF (B:Bl mg) (D:Def K mg "check_sheet" cQ) (a:aD P w K mg base "is_sheet" 4 ["thing"] fX):aD P w K mg base "check_sheet" 5 ["thing"] cV :=
 aK (k:=4) D sc_check_sheet rfl rfl (hb1 fun _ _ _ _ _ _ _=>rfl) fun b A outer s H E f G hr hp =>
  have nd:=sc_check_sheet.nd;by and_intros
def u5:SM:=(aV 2 (mIf (cB (ah gtI (aj jZ (aa (ah aA (ac 0) (ah aA (ac 1) (mC (.int 0)))) (aa (ah aA (ac 0) (ah aA (ac 1) (mC (.int 1)))) (aa (ah aA (ac 0) (ah aA (ac 1) (mC (.int 2)))) af)))) (mC (.int 0)))) (mC (.int 1)) (mUn eZ (mC (.int 1)))))
def dG:Fn:=fnM [false,false] 2 u5
theorem sc_turn_at:FnScope ["sheet","three"] ["sheet","three"] (ag iw):=⟨rfl,rfl,rfl,by decide +kernel,rfl,by decide +kernel,by decide +kernel⟩
theorem qv (B:Bl mg) (D:Def K mg "turn_at" iw) (a:aD P w K mg base "bend" 1 ["first","second","third"] jZ):aD P w K mg base "turn_at" 2 ["sheet","three"] dG :=
 aK (k:=1) D sc_turn_at rfl rfl (hb2 fun _ _ _ _ _ _ _ _=>rfl) fun b A outer s H E f G hr hp =>
  have nd:=sc_turn_at.nd;by and_intros
def cz:SM:=(lQ zJ 1 (ac 2) (aj dG (aa (ac 0) (aa (ac 2) af))))
def pY:SM:=(aE (fZ (aj cV (aa (ac 0) af))) (aE (aP 1 xZ) (aE (cP (bW (aj fh (aa (au bZ (aa (ac 0) af)) af))) (aq 2) cz) (aV 1 (ac 1)))))
def eL:Fn:=fnM [false] 3 pY
theorem sc_all_turns:FnScope ["sheet","turns","three"] ["sheet"] (ag eh):=⟨rfl,rfl,rfl,by decide +kernel,rfl,by decide +kernel,by decide +kernel⟩
theorem lZ (B:Bl mg) (D:Def K mg "all_turns" eh) (a:aD P w K mg base "check_sheet" 5 ["thing"] cV) (c:aD P w K mg base "threes" 1 ["many"] fh) (b:aD P w K mg base "turn_at" 2 ["sheet","three"] dG):aD P w K mg base "all_turns" 6 ["sheet"] eL :=
 aK (k:=5) D sc_all_turns rfl rfl (hb1 fun _ _ _ _ _ _ _=>rfl) fun d A outer s H E f G hr hp =>
  have nd:=sc_all_turns.nd;by and_intros
def dN:EM:=(ah eqX (ah aA (ac 2) (mSl slD (ac 3) (bR (ac 0)) (bR (ah aO (ac 0) (mC (.int 3)))))) (ac 1))
def gv:EM:=(bx (bD cH (aa (ah fv (au bZ (aa (ac 1) af)) (mC (.int 2))) af)) (aq 0) b7 dN [none,some 2,some 0,some 1])
def pU:SM:=(aV 3 (au oM (aa gv af)))
def eK:Fn:=fnM [false,false,false] 3 pU
theorem sc_row_bends:FnScope ["turns","row","way"] ["turns","row","way"] (ag ee):=⟨rfl,rfl,rfl,by decide +kernel,rfl,by decide +kernel,by decide +kernel⟩
theorem lX (B:Bl mg) (D:Def K mg "row_bends" ee):aD P w K mg base "row_bends" 1 ["turns","row","way"] eK :=
 aK (k:=0) D sc_row_bends rfl rfl (hb3 fun _ _ _ _ _ _ _ _ _=>rfl) fun a A outer s H E f G hr hp =>
  have nd:=sc_row_bends.nd;by and_intros
def cR:M3 Bool:=(cB (ah eqX (ah aA (ac 2) (bp (aa (ac 3) (aa (ac 0) (aa (ac 4) af))))) (ac 1)))
def eP:EM:=(ac 0)
def iK:EM:=(bx (bW (mSl slD (ac 1) (bR (mC (.int 1))) (bR (mUn eZ (mC (.int 1)))))) (aq 0) cR eP [none,some 2,some 0,some 3,some 4])
def ll:SM:=(aE (aP 3 (ah aA (ac 1) (mC (.int 0)))) (aE (aP 4 (ah aA (ac 1) (mUn eZ (mC (.int 1))))) (aV 3 (ah aO (ah aO (bp (aa (ac 3) af)) (au lN (aa iK af))) (bp (aa (ac 4) af))))))
def fW:Fn:=fnM [false,false,false] 5 ll
theorem sc_side_row:FnScope ["turns","ring","way","first","last"] ["turns","ring","way"] (ag fB):=⟨rfl,rfl,rfl,by decide +kernel,rfl,by decide +kernel,by decide +kernel⟩
theorem oE (B:Bl mg) (D:Def K mg "side_row" fB):aD P w K mg base "side_row" 1 ["turns","ring","way"] fW :=
 aK (k:=0) D sc_side_row rfl rfl (hb3 fun _ _ _ _ _ _ _ _ _=>rfl) fun a A outer s H E f G hr hp =>
  have nd:=sc_side_row.nd;by and_intros
def cb:EM:=(aj eK (aa (ac 1) (aa (aj fW (aa (ac 1) (aa (ac 2) (aa (ac 0) af)))) (aa (ac 0) af))))
def gb:EM:=(bx (bW (bp (aa (mC (.int (1))) (aa (mC (.int (-1))) af)))) (aq 0) b7 cb [none,some 0,some 1])
def fP:SM:=(aE (sIf (cOr (eU (cB (aj aC (aa (ac 1) (aa (ac 2) af))))) (cB (ah ltI (au bZ (aa (ac 1) af)) (mC (.int (3)))))) (aV 3 (mC (.bl false))) dy) (aV 3 (au oM (aa gb af))))
def bV:Fn:=fnM [false,false,false] 3 fP
theorem sc_is_ring_by:FnScope ["turns","thing","many"] ["turns","thing","many"] (ag du):=⟨rfl,rfl,rfl,by decide +kernel,rfl,by decide +kernel,by decide +kernel⟩
theorem lK (B:Bl mg) (D:Def K mg "is_ring_by" du) (b:aD P w K mg base "are_rising_places" 3 ["thing","many"] aC) (e:aD P w K mg base "row_bends" 1 ["turns","row","way"] eK) (g:aD P w K mg base "side_row" 1 ["turns","ring","way"] fW) {d:Tok} (i:mg "DOWN"=some (.int (-1) d)) {a:Tok} (c:mg "LEAST_CORNERS"=some (.int (3) a)) {h:Tok} (j:mg "UP"=some (.int (1) h)):aD P w K mg base "is_ring_by" 4 ["turns","thing","many"] bV :=
 aK (k:=3) D sc_is_ring_by rfl rfl (hb3 fun _ _ _ _ _ _ _ _ _=>rfl) fun l A outer s H E f G hr hp =>
  have nd:=sc_is_ring_by.nd;by and_intros
def mO:SM:=(aV 2 (aj bV (aa (aj eL (aa (ac 1) af)) (aa (ac 0) (aa (au bZ (aa (ac 1) af)) af)))))
def dH:Fn:=fnM [false,false] 2 mO
theorem sc_is_ring:FnScope ["thing","sheet"] ["thing","sheet"] (ag iF):=⟨rfl,rfl,rfl,by decide +kernel,rfl,by decide +kernel,by decide +kernel⟩
theorem qC (B:Bl mg) (D:Def K mg "is_ring" iF) (b:aD P w K mg base "all_turns" 6 ["sheet"] eL) (a:aD P w K mg base "is_ring_by" 4 ["turns","thing","many"] bV):aD P w K mg base "is_ring" 7 ["thing","sheet"] dH :=
 aK (k:=6) D sc_is_ring rfl rfl (hb2 fun _ _ _ _ _ _ _ _=>rfl) fun c A outer s H E f G hr hp =>
  have nd:=sc_is_ring.nd;by and_intros
def xX:SM:=(aE (sIf (cB (ah ltI (ac 1) (au bZ (aa (ac 0) af)))) (aV 2 (ah aA (ac 0) (ac 1))) dy) (aV 2 (mC (.int 0))))
def jw:Fn:=fnM [false,false] 2 xX
theorem sc_l_cell:FnScope ["_law_script","_law_k"] ["_law_script","_law_k"] (ag i9):=⟨rfl,rfl,rfl,by decide +kernel,rfl,by decide +kernel,by decide +kernel⟩
theorem sC (B:Bl mg) (D:Def K mg "_law_cell" i9):aD P w K mg base "_law_cell" 1 ["_law_script","_law_k"] jw :=
 aK (k:=0) D sc_l_cell rfl rfl (hb2 fun _ _ _ _ _ _ _ _=>rfl) fun a A outer s H E f G hr hp =>
  have nd:=sc_l_cell.nd;by and_intros
def AG:SM:=(aE (aP 2 (cA (aa (mC (.int 48271)) (aa (mC (.int 69621)) (aa (mC (.int 16807)) (aa (mC (.int 39373)) (aa (mC (.int 30269)) (aa (mC (.int 40014)) (aa (mC (.int 40692)) (aa (mC (.int 50021)) (aa (mC (.int 61687)) (aa (mC (.int 71993)) (aa (mC (.int 83869)) (aa (mC (.int 95561)) (aa (mC (.int 30307)) af))))))))))))))) (aE (aP 3 (ah aO (ah aO (ah eO (ah aO (ah rL (ac 0) (mC (.int 2147483647))) (mC (.int 12345))) (ah aA (ac 2) (ah rL (ac 1) (mC (.int 13))))) (ah eO (mC (.int 977)) (ac 1))) (ah eO (mC (.int 7919)) (ah vw (ac 1) (mC (.int 13)))))) (aE (aP 3 (ah rL (ac 3) (mC (.int 1000000007)))) (aV 2 (ah vw (ah rL (ah aO (ah eO (ac 3) (ac 3)) (ah eO (mC (.int 48271)) (ac 1))) (mC (.int 1000000007))) (mC (.int 7)))))))
def kS:Fn:=fnM [false,false] 4 AG
theorem sc_l_mix:FnScope ["_law_cell_here","_law_k","_law_some","_law_stir"] ["_law_cell_here","_law_k"] (ag kH):=⟨rfl,rfl,rfl,by decide +kernel,rfl,by decide +kernel,by decide +kernel⟩
theorem vH (B:Bl mg) (D:Def K mg "_law_mix" kH):aD P w K mg base "_law_mix" 1 ["_law_cell_here","_law_k"] kS :=
 aK (k:=0) D sc_l_mix rfl rfl (hb2 fun _ _ _ _ _ _ _ _=>rfl) fun a A outer s H E f G hr hp =>
  have nd:=sc_l_mix.nd;by and_intros
def iR:SM:=(aP 3 (ah aO (ah eO (ac 3) (mC (.int 142857143))) (aj kS (aa (ac 2) (aa (ac 4) af)))))
def AH:SM:=(aE (aP 2 (aj jw (aa (ac 0) (aa (ac 1) af)))) (aE (sIf (cB (ah eqX (ah rL (ac 2) (mC (.int 2))) (mC (.int 0)))) (aV 2 (cA (aa (ah vw (au absD (aa (ac 2) af)) (mC (.int 2))) af))) dy) (aE (aP 3 (mC (.int 0))) (aE (cP (bD cH (aa (mC (.int 40)) af)) (aq 4) iR) (aV 2 (cA (aa (ac 3) af)))))))
def jx:Fn:=fnM [false,false] 5 AH
theorem sc_l_box:FnScope ["_law_script","_law_k","_law_cell_here","_law_number","_law_j"] ["_law_script","_law_k"] (ag kI):=⟨rfl,rfl,rfl,by decide +kernel,rfl,by decide +kernel,by decide +kernel⟩
theorem vI (B:Bl mg) (D:Def K mg "_law_box" kI) (a:aD P w K mg base "_law_cell" 1 ["_law_script","_law_k"] jw) (b:aD P w K mg base "_law_mix" 1 ["_law_cell_here","_law_k"] kS):aD P w K mg base "_law_box" 2 ["_law_script","_law_k"] jx :=
 aK (k:=1) D sc_l_box rfl rfl (hb2 fun _ _ _ _ _ _ _ _=>rfl) fun c A outer s H E f G hr hp =>
  have nd:=sc_l_box.nd;by and_intros
def xW:SM:=(aE (lR (jt 2 (cn (aq 2) (cn (aq 3) ju))) (au yM (aa (ah aA (ac 0) (mC (.int 0))) (aa (ac 1) af)))) (aE (lQ zJ 0 (mC (.int 0)) (ac 2)) (aV 2 (ac 3))))
def aT:Fn:=fnM [false,false] 4 xW
theorem sc_l_take:FnScope ["_law_box_here","_law_many","_law_left","_law_digit"] ["_law_box_here","_law_many"] (ag i6):=⟨rfl,rfl,rfl,by decide +kernel,rfl,by decide +kernel,by decide +kernel⟩
theorem sy (B:Bl mg) (D:Def K mg "_law_take" i6):aD P w K mg base "_law_take" 1 ["_law_box_here","_law_many"] aT :=
 aK (k:=0) D sc_l_take rfl rfl (hb2 fun _ _ _ _ _ _ _ _=>rfl) fun a A outer s H E f G hr hp =>
  have nd:=sc_l_take.nd;by and_intros
def u6:SM:=(aV 1 (fQ (mUn (fR "int") (ac 0)) (p5 (mUn (fR "bool") (ac 0)))))
def fj:Fn:=fnM [false] 1 u6
theorem sc_l_whole:FnScope ["_law_thing"] ["_law_thing"] (ag iy):=⟨rfl,rfl,rfl,by decide +kernel,rfl,by decide +kernel,by decide +kernel⟩
theorem qw (B:Bl mg) (D:Def K mg "_law_whole" iy):aD P w K mg base "_law_whole" 1 ["_law_thing"] fj :=
 aK (k:=0) D sc_l_whole rfl rfl (hb1 fun _ _ _ _ _ _ _=>rfl) fun a A outer s H E f G hr hp =>
  have nd:=sc_l_whole.nd;by and_intros
def u7:SM:=(aV 2 (fQ (mUn (fR "bool") (ac 0)) (ah eqX (ac 0) (ac 1))))
def iI:Fn:=fnM [false,false] 2 u7
theorem sc_l_truth:FnScope ["_law_found","_law_due"] ["_law_found","_law_due"] (ag iz):=⟨rfl,rfl,rfl,by decide +kernel,rfl,by decide +kernel,by decide +kernel⟩
theorem qx (B:Bl mg) (D:Def K mg "_law_truth" iz):aD P w K mg base "_law_truth" 1 ["_law_found","_law_due"] iI :=
 aK (k:=0) D sc_l_truth rfl rfl (hb2 fun _ _ _ _ _ _ _ _=>rfl) fun a A outer s H E f G hr hp =>
  have nd:=sc_l_truth.nd;by and_intros
def xY:SM:=(aE (lR (jt 2 (cn (aq 3) (cn (aq 4) ju))) (ac 0)) (aE (aP 5 (ah eO (ah fv (ah aA (ac 1) (mC (.int 0))) (ac 3)) (ah fv (ah aA (ac 2) (mC (.int 1))) (ac 4)))) (aV 3 (ah fv (ac 5) (ah eO (ah fv (ah aA (ac 1) (mC (.int 1))) (ac 4)) (ah fv (ah aA (ac 2) (mC (.int 0))) (ac 3)))))))
def dY:Fn:=fnM [false,false,false] 6 xY
theorem sc_l_bend:FnScope ["_law_one","_law_two","_law_three","_law_x","_law_y","_law_wide"] ["_law_one","_law_two","_law_three"] (ag jb):=⟨rfl,rfl,rfl,by decide +kernel,rfl,by decide +kernel,by decide +kernel⟩
theorem sE (B:Bl mg) (D:Def K mg "_law_bend" jb):aD P w K mg base "_law_bend" 1 ["_law_one","_law_two","_law_three"] dY :=
 aK (k:=0) D sc_l_bend rfl rfl (hb3 fun _ _ _ _ _ _ _ _ _=>rfl) fun a A outer s H E f G hr hp =>
  have nd:=sc_l_bend.nd;by and_intros
def de:SM:=(sIf (cB (ah eqX (aj dY (aa (ac 4) (aa (ac 3) (aa (ac 1) af)))) (mC (.int 0)))) (aV 2 (mC (.bl false))) dy)
def eG:SM:=(cP (bW (mSl slD (ac 0) eY (bR (ac 2)))) (aq 4) de)
def lw:SM:=(aE (cP (lz (aa (ac 0) af)) (jt 2 (cn (aq 2) (cn (aq 3) ju))) eG) (aV 2 (mC (.bl true))))
def fq:Fn:=fnM [false,false] 5 lw
theorem sc_l_free:FnScope ["_law_found","_law_point","_law_at","_law_one","_law_two"] ["_law_found","_law_point"] (ag i8):=⟨rfl,rfl,rfl,by decide +kernel,rfl,by decide +kernel,by decide +kernel⟩
theorem sB (B:Bl mg) (D:Def K mg "_law_free" i8) (a:aD P w K mg base "_law_bend" 1 ["_law_one","_law_two","_law_three"] dY):aD P w K mg base "_law_free" 2 ["_law_found","_law_point"] fq :=
 aK (k:=1) D sc_l_free rfl rfl (hb2 fun _ _ _ _ _ _ _ _=>rfl) fun b A outer s H E f G hr hp =>
  have nd:=sc_l_free.nd;by and_intros
def cv:M3 Bool:=(eU (cB (aj fq (aa (ac 5) (aa (bp (aa (ac 4) (aa (ac 9) af))) af)))))
def dA:SM:=(aP 9 (ah aO (ac 9) (mC (.int 1))))
def cw:SM:=(aE (aP 4 (ah aO (ah aO (ac 4) (mC (.int 1))) (aj aT (aa (ac 0) (aa (mC (.int 3)) af))))) (aE (aP 7 (ah fv (aj aT (aa (ac 0) (aa (mC (.int 31)) af))) (mC (.int 15)))) (aE (aP 8 (cA (aa (ac 7) (aa (ac 7) (aa (ah aO (ah eO (ac 6) (ac 6)) (ah vw (ac 7) (mC (.int 9)))) (aa (ah fv (ah vw (ac 7) (mC (.int 9))) (ah eO (ac 6) (ac 6))) af)))))) (aE (aP 8 (ah aO (ac 8) (cA (aa (ah eO (ah aO (ah eO (ac 6) (ac 6)) (mC (.int 30))) (ah fv (mC (.int 1)) (ah eO (mC (.int 2)) (ah rL (ac 6) (mC (.int 2)))))) (aa (ah eO (ac 7) (mC (.int 1000))) af))))) (aE (aP 9 (ah aA (ac 8) (ac 3))) (aE (gl cv dA) (fZ (rS isL vL 5 (aa (bp (aa (ac 4) (aa (ac 9) af))) af)))))))))
def fM:EM:=(bp (aa (ah aO (ah eO (ah rB (mC (.int 10)) (mC (.int 12))) (ac 0)) (mC (.int 7))) (aa (ah eO (ah rB (mC (.int 10)) (mC (.int 9))) (ac 1)) af)))
def dz:EM:=(bx (bW (ac 5)) (jt 2 (cn (aq 0) (cn (aq 1) ju))) b7 fM [none,none])
def mM:SM:=(aE (aP 2 (ah aO (mC (.int 1)) (aj aT (aa (ac 0) (aa (ac 1) af))))) (aE (aP 3 (aj aT (aa (ac 0) (aa (mC (.int 6)) af)))) (aE (aP 4 (ah fv (aj aT (aa (ac 0) (aa (mC (.int 9)) af))) (mC (.int 4)))) (aE (aP 5 (cA af)) (aE (cP (bD cH (aa (ac 2) af)) (aq 6) cw) (aE (sIf (cB (ah eqX (aj aT (aa (ac 0) (aa (mC (.int 6)) af))) (mC (.int 5)))) (aP 5 dz) dy) (aV 2 (au lN (aa (ac 5) af)))))))))
def fk:Fn:=fnM [false,false] 10 mM
theorem sc_l_sheet:FnScope ["_law_box_here","_law_most","_law_many","_law_kind","_law_x","_law_found","_law_k","_law_given","_law_some","_law_y"] ["_law_box_here","_law_most"] (ag iA):=⟨rfl,rfl,rfl,by decide +kernel,rfl,by decide +kernel,by decide +kernel⟩
theorem qy (B:Bl mg) (D:Def K mg "_law_sheet" iA) (b:aD P w K mg base "_law_free" 2 ["_law_found","_law_point"] fq) (a:aD P w K mg base "_law_take" 1 ["_law_box_here","_law_many"] aT):aD P w K mg base "_law_sheet" 3 ["_law_box_here","_law_most"] fk :=
 aK (k:=2) D sc_l_sheet rfl rfl (hb2 fun _ _ _ _ _ _ _ _=>rfl) fun c A outer s H E f G hr hp =>
  have nd:=sc_l_sheet.nd;by and_intros
def tL:SM:=(aE (aP 1 (cA (aa (mC .non) (aa (mC (.bl true)) (aa (mC (.bl false)) (aa (mC (.int 0)) (aa (mUn eZ (mC (.int 1))) (aa (mC (.int 1)) (aa (mC (.str "")) (aa (mC (.str "1")) (aa (bp af) (aa (cA af) (aa (bp (aa (mC (.int 0)) af)) (aa (bp (aa (mC (.int 0)) (aa (mC (.int 1)) af))) (aa (cA (aa (mC (.int 0)) af)) (aa (Dp (.inr "a") 1) af)))))))))))))))) (aE (aP 1 (ah aO (ac 1) (cA (aa (ah rB (mC (.int 10)) (mC (.int 29))) (aa (bp (aa (bp (aa (mC (.int 0)) (aa (mC (.int 0)) af))) af)) (aa (bp (aa (bp (aa (mC (.int 0)) (aa (mC (.int 1)) af))) (aa (bp (aa (mC (.int 1)) (aa (mC (.int 2)) af))) af))) (aa (mC (.str "0,0")) (aa (bp (aa (mC (.int 0)) (aa (mC (.int 1)) (aa (mC (.int 2)) af)))) (aa (Do [0,1] 2) af))))))))) (aV 1 (ah aA (ac 1) (aj aT (aa (ac 0) (aa (mC (.int 20)) af)))))))
def jv:Fn:=fnM [false] 2 tL
theorem sc_l_odd:FnScope ["_law_box_here","_law_some"] ["_law_box_here"] (ag kG):=⟨rfl,rfl,rfl,by decide +kernel,rfl,by decide +kernel,by decide +kernel⟩
theorem vG (B:Bl mg) (D:Def K mg "_law_odd" kG) (a:aD P w K mg base "_law_take" 1 ["_law_box_here","_law_many"] aT):aD P w K mg base "_law_odd" 2 ["_law_box_here"] jv :=
 aK (k:=1) D sc_l_odd rfl rfl (hb1 fun _ _ _ _ _ _ _=>rfl) fun b A outer s H E f G hr hp =>
  have nd:=sc_l_odd.nd;by and_intros
def Dm:SM:=(aV 4 (ah gtI (aj dY (aa (ah aA (ac 0) (ac 1)) (aa (ah aA (ac 0) (ac 2)) (aa (ah aA (ac 0) (ac 3)) af)))) (mC (.int 0))))
def jY:Fn:=fnM [false,false,false,false] 4 Dm
theorem sc_l_up:FnScope ["_law_sheet_here","_law_i","_law_j","_law_k"] ["_law_sheet_here","_law_i","_law_j","_law_k"] (ag nw):=⟨rfl,rfl,rfl,by decide +kernel,rfl,by decide +kernel,by decide +kernel⟩
theorem yY (B:Bl mg) (D:Def K mg "_law_up" nw) (a:aD P w K mg base "_law_bend" 1 ["_law_one","_law_two","_law_three"] dY):aD P w K mg base "_law_up" 2 ["_law_sheet_here","_law_i","_law_j","_law_k"] jY :=
 aK (k:=1) D sc_l_up rfl rfl (hb4 fun _ _ _ _ _ _ _ _ _ _=>rfl) fun b A outer s H E f G hr hp =>
  have nd:=sc_l_up.nd;by and_intros
def bu:EM:=(aj fj (aa (ac 0) af))
def cS:EM:=(bx (bW (ac 0)) (aq 0) b7 bu [none])
def b8:M3 Bool:=(cOr (cB (ah ltI (ac 0) (mC (.int 0)))) (cB (ah geI (ac 0) (ac 1))))
def eR:EM:=(ac 0)
def eQ:EM:=(bx (bW (ac 0)) (aq 0) b8 eR [none,some 1])
def dO:SM:=(aE (sIf (cOr (eU (cB (mUn (fR "tuple") (ac 0)))) (eU (cB (au oM (aa cS af))))) (aV 2 (mC (.bl false))) dy) (aE (sIf (cB (ah neX eQ (cA af))) (aV 2 (mC (.bl false))) dy) (aV 2 (ah eqX (au u9 (aa (ac 0) af)) (au ssD (aa (ac 0) af))))))
def bm:Fn:=fnM [false,false] 2 dO
theorem sc_l_rising:FnScope ["_law_thing","_law_many"] ["_law_thing","_law_many"] (ag fD):=⟨rfl,rfl,rfl,by decide +kernel,rfl,by decide +kernel,by decide +kernel⟩
theorem oF (B:Bl mg) (D:Def K mg "_law_rising" fD) (a:aD P w K mg base "_law_whole" 1 ["_law_thing"] fj):aD P w K mg base "_law_rising" 2 ["_law_thing","_law_many"] bm :=
 aK (k:=1) D sc_l_rising rfl rfl (hb2 fun _ _ _ _ _ _ _ _=>rfl) fun b A outer s H E f G hr hp =>
  have nd:=sc_l_rising.nd;by and_intros
def cx:SM:=(sIf (cB (ah neX (aj jY (aa (ac 0) (aa (ah aA (ac 1) (ac 3)) (aa (ah aA (ac 1) (ah aO (ac 3) (mC (.int 1)))) (aa (ah aA (ac 1) (ah aO (ac 3) (mC (.int 2)))) af))))) (ac 2))) (aV 3 (mC (.bl false))) dy)
def mN:SM:=(aE (sIf (cOr (eU (cB (aj bm (aa (ac 1) (aa (au bZ (aa (ac 0) af)) af))))) (cB (ah ltI (au bZ (aa (ac 1) af)) (mC (.int 2))))) (aV 3 (mC (.bl false))) dy) (aE (cP (bD cH (aa (ah fv (au bZ (aa (ac 1) af)) (mC (.int 2))) af)) (aq 3) cx) (aV 3 (mC (.bl true)))))
def ft:Fn:=fnM [false,false,false] 4 mN
theorem sc_l_bends:FnScope ["_law_sheet_here","_law_thing","_law_up_here","_law_at"] ["_law_sheet_here","_law_thing","_law_up_here"] (ag iD):=⟨rfl,rfl,rfl,by decide +kernel,rfl,by decide +kernel,by decide +kernel⟩
theorem qB (B:Bl mg) (D:Def K mg "_law_bends" iD) (a:aD P w K mg base "_law_rising" 2 ["_law_thing","_law_many"] bm) (b:aD P w K mg base "_law_up" 2 ["_law_sheet_here","_law_i","_law_j","_law_k"] jY):aD P w K mg base "_law_bends" 3 ["_law_sheet_here","_law_thing","_law_up_here"] ft :=
 aK (k:=2) D sc_l_bends rfl rfl (hb3 fun _ _ _ _ _ _ _ _ _=>rfl) fun c A outer s H E f G hr hp =>
  have nd:=sc_l_bends.nd;by and_intros
def nR:EM:=(ah aO (ac 0) (bp (aa (ac 1) af)))
def nQ:EM:=(bx (bW (ac 1)) (aq 0) b7 nR [none,some 2])
def fO:SM:=(aP 1 (ah aO (ac 1) nQ))
def jG:SM:=(aE (aP 1 (cA (aa (bp af) af))) (aE (cP (bD cH (aa (ac 0) af)) (aq 2) fO) (aV 1 (au kW (aa (ac 1) af)))))
def bd:Fn:=fnM [false] 3 jG
theorem sc_l_parts:FnScope ["_law_many","_law_found","_law_place"] ["_law_many"] (ag iC):=⟨rfl,rfl,rfl,by decide +kernel,rfl,by decide +kernel,by decide +kernel⟩
theorem qA (B:Bl mg) (D:Def K mg "_law_parts" iC):aD P w K mg base "_law_parts" 1 ["_law_many"] bd :=
 aK (k:=0) D sc_l_parts rfl rfl (hb1 fun _ _ _ _ _ _ _=>rfl) fun a A outer s H E f G hr hp =>
  have nd:=sc_l_parts.nd;by and_intros
def eE:M3 Bool:=(cB (ah eqX (aj jY (aa (ac 2) (aa (ah aA (ac 3) (mC (.int 0))) (aa (ac 0) (aa (ah aA (ac 3) (mUn eZ (mC (.int 1)))) af))))) (ac 1)))
def gz:EM:=(ac 0)
def kh:EM:=(bx (bW (mSl slD (ac 1) (bR (mC (.int 1))) (bR (mUn eZ (mC (.int 1)))))) (aq 0) eE gz [none,some 2,some 0,some 1])
def pW:SM:=(aE (aP 3 kh) (aV 3 (au lN (aa (ah aO (ah aO (cA (aa (ah aA (ac 1) (mC (.int 0))) af)) (ac 3)) (cA (aa (ah aA (ac 1) (mUn eZ (mC (.int 1)))) af))) af))))
def dX:Fn:=fnM [false,false,false] 4 pW
theorem sc_l_side:FnScope ["_law_sheet_here","_law_some","_law_low","_law_inner"] ["_law_sheet_here","_law_some","_law_low"] (ag i7):=⟨rfl,rfl,rfl,by decide +kernel,rfl,by decide +kernel,by decide +kernel⟩
theorem sA (B:Bl mg) (D:Def K mg "_law_side" i7) (a:aD P w K mg base "_law_up" 2 ["_law_sheet_here","_law_i","_law_j","_law_k"] jY):aD P w K mg base "_law_side" 3 ["_law_sheet_here","_law_some","_law_low"] dX :=
 aK (k:=2) D sc_l_side rfl rfl (hb3 fun _ _ _ _ _ _ _ _ _=>rfl) fun b A outer s H E f G hr hp =>
  have nd:=sc_l_side.nd;by and_intros
def eF:SM:=(aE (sIf (cOr (eU (cB (aj bm (aa (ac 1) (aa (au bZ (aa (ac 0) af)) af))))) (cB (ah ltI (au bZ (aa (ac 1) af)) (mC (.int 3))))) (aV 2 (mC (.bl false))) dy) (aE (sIf (eU (cB (aj ft (aa (ac 0) (aa (aj dX (aa (ac 0) (aa (ac 1) (aa (mC (.bl true)) af)))) (aa (mC (.bl true)) af)))))) (aV 2 (mC (.bl false))) dy) (aV 2 (aj ft (aa (ac 0) (aa (aj dX (aa (ac 0) (aa (ac 1) (aa (mC (.bl false)) af)))) (aa (mC (.bl false)) af)))))))
def bc:Fn:=fnM [false,false] 2 eF
theorem sc_l_is_ring:FnScope ["_law_sheet_here","_law_thing"] ["_law_sheet_here","_law_thing"] (ag eg):=⟨rfl,rfl,rfl,by decide +kernel,rfl,by decide +kernel,by decide +kernel⟩
theorem lY (B:Bl mg) (D:Def K mg "_law_is_ring" eg) (b:aD P w K mg base "_law_bends" 3 ["_law_sheet_here","_law_thing","_law_up_here"] ft) (a:aD P w K mg base "_law_rising" 2 ["_law_thing","_law_many"] bm) (c:aD P w K mg base "_law_side" 3 ["_law_sheet_here","_law_some","_law_low"] dX):aD P w K mg base "_law_is_ring" 4 ["_law_sheet_here","_law_thing"] bc :=
 aK (k:=3) D sc_l_is_ring rfl rfl (hb2 fun _ _ _ _ _ _ _ _=>rfl) fun d A outer s H E f G hr hp =>
  have nd:=sc_l_is_ring.nd;by and_intros
def fN:M3 Bool:=(cB (aj bc (aa (ac 1) (aa (ac 0) af))))
def jj:EM:=(ac 0)
def ji:EM:=(bx (bW (aj bd (aa (au bZ (aa (ac 0) af)) af))) (aq 0) fN jj [none,some 0])
def u8:SM:=(aV 1 ji)
def fm:Fn:=fnM [false] 1 u8
theorem sc_l_rings:FnScope ["_law_sheet_here"] ["_law_sheet_here"] (ag iB):=⟨rfl,rfl,rfl,by decide +kernel,rfl,by decide +kernel,by decide +kernel⟩
theorem qz (B:Bl mg) (D:Def K mg "_law_rings" iB) (a:aD P w K mg base "_law_is_ring" 4 ["_law_sheet_here","_law_thing"] bc) (b:aD P w K mg base "_law_parts" 1 ["_law_many"] bd):aD P w K mg base "_law_rings" 5 ["_law_sheet_here"] fm :=
 aK (k:=4) D sc_l_rings rfl rfl (hb1 fun _ _ _ _ _ _ _=>rfl) fun c A outer s H E f G hr hp =>
  have nd:=sc_l_rings.nd;by and_intros
def pX:SM:=(aE (aP 4 (aj aT (aa (ac 0) (aa (au bZ (aa (ac 1) af)) af)))) (aE (aP 5 (cA (aa (ah aO (mSl slD (ac 1) eY (bR (ac 4))) (mSl slD (ac 1) (bR (ah aO (ac 4) (mC (.int 1)))) eY)) (aa (ah aO (ah aO (mSl slD (ac 1) eY (bR (ac 4))) (bp (aa (ah aA (ac 1) (ac 4)) af))) (mSl slD (ac 1) (bR (ac 4)) eY)) (aa (ah aO (ac 1) (bp (aa (ac 2) af))) (aa (au u9 (aa (ac 1) af)) af)))))) (aE (aP 5 (ah aO (ac 5) (cA (aa (p4 (ac 1) (bR (mUn eZ (mC (.int 1))))) (aa (ah aO (bp (aa (ac 3) af)) (ac 1)) (aa (ah aO (ah aO (mSl slD (ac 1) eY (bR (ac 4))) (bp (aa (ah eqX (ah aA (ac 1) (ac 4)) (mC (.int 1))) af))) (mSl slD (ac 1) (bR (ah aO (ac 4) (mC (.int 1)))) eY)) (aa (bp (aa (ac 1) af)) af))))))) (aE (fZ (rS isL vL 5 (aa (au lN (aa (au ssD (aa (ah aO (ac 1) (bp (aa (aj aT (aa (ac 0) (aa (ac 2) af))) af))) af)) af)) af))) (aV 4 (ah aA (ac 5) (aj aT (aa (ac 0) (aa (mC (.int 9)) af)))))))))
def jy:Fn:=fnM [false,false,false,false] 6 pX
theorem sc_l_bent:FnScope ["_law_box_here","_law_row","_law_many","_law_odd_here","_law_at","_law_some"] ["_law_box_here","_law_row","_law_many","_law_odd_here"] (ag ja):=⟨rfl,rfl,rfl,by decide +kernel,rfl,by decide +kernel,by decide +kernel⟩
theorem sD (B:Bl mg) (D:Def K mg "_law_bent" ja) (a:aD P w K mg base "_law_take" 1 ["_law_box_here","_law_many"] aT):aD P w K mg base "_law_bent" 2 ["_law_box_here","_law_row","_law_many","_law_odd_here"] jy :=
 aK (k:=1) D sc_l_bent rfl rfl (hb4 fun _ _ _ _ _ _ _ _ _ _=>rfl) fun b A outer s H E f G hr hp =>
  have nd:=sc_l_bent.nd;by and_intros
def lu:EM:=(ah aA (ac 1) (aj aT (aa (ac 2) (aa (au bZ (aa (ac 1) af)) af))))
def lp:EM:=(bx (bD cH (aa (mC (.int 8)) af)) (aq 0) b7 lu [none,some 5,some 2])
def lq:EM:=(aj jy (aa (ac 1) (aa (ac 2) (aa (au bZ (aa (ac 4) af)) (aa (ac 3) af)))))
def pV:EM:=(bx (bD cH (aa (mC (.int 3)) af)) (aq 0) b7 lq [none,some 2,some 9,some 4,some 3])
def gx:SM:=(aE (aP 10 (au nC (aa (ac 8) af))) (sIf (cOr (eU (cB (aj iI (aa (aj dH (aa (ac 8) (aa (ac 3) af))) (aa (aj bc (aa (ac 3) (aa (ac 8) af))) af))))) (cB (ah neX (au nC (aa (ac 8) af)) (ac 10)))) (aV 1 (mC (.bl false))) dy))
def gw:SM:=(aE (aP 2 (aj jx (aa (ac 0) (aa (ac 1) af)))) (aE (aP 3 (aj fk (aa (ac 2) (aa (mC (.int 7)) af)))) (aE (aP 4 (aj jv (aa (ac 2) af))) (aE (aP 5 (aj bd (aa (au bZ (aa (ac 3) af)) af))) (aE (aP 6 (ah aO lp (cA (aa (ac 4) (aa (bp af) (aa (bp (aa (mC (.int 0)) af)) (aa (bp (aa (mC (.int 0)) (aa (mC (.int 1)) af))) (aa (ah aA (ac 5) (mUn eZ (mC (.int 1)))) af)))))))) (aE (aP 7 (aj fm (aa (ac 3) af))) (aE (sIf (cB (ah neX (ac 7) (cA af))) (aE (aP 9 (ah aA (ac 7) (aj aT (aa (ac 2) (aa (au bZ (aa (ac 7) af)) af))))) (aP 6 (ah aO (ah aO (ac 6) (cA (aa (ac 9) (aa (ah aA (ac 7) (mUn eZ (mC (.int 1)))) af)))) pV))) dy) (cP (bW (ac 6)) (aq 8) gx))))))))
def m_law:SM:=(aE (cP (bD cH (aa (au By (aa (mC (.int 1)) (aa (au Bx (aa (au bZ (aa (ac 0) af)) (aa (mC (.int 4)) af))) af))) af)) (aq 1) gw) (aV 1 (mC (.bl true))))
def BI:Fn:=fnM [false] 11 m_law
theorem sc_law:FnScope ["_law_script","_law_k","_law_box_here","_law_sheet_here","_law_odd_here","_law_parts_here","_law_things","_law_rings_here","_law_thing","_law_ring","_law_kept"] ["_law_script"] (ag gk):=⟨rfl,rfl,rfl,by decide +kernel,rfl,by decide +kernel,by decide +kernel⟩
theorem AU {f:Addr} {fd:FuncData} (B:Bl mg) (D:Fun K "law" "law" gk f fd) (h:aD P w K mg base "_law_bent" 2 ["_law_box_here","_law_row","_law_many","_law_odd_here"] jy) (i:aD P w K mg base "_law_box" 2 ["_law_script","_law_k"] jx) (a:aD P w K mg base "_law_is_ring" 4 ["_law_sheet_here","_law_thing"] bc) (j:aD P w K mg base "_law_odd" 2 ["_law_box_here"] jv) (e:aD P w K mg base "_law_parts" 1 ["_law_many"] bd) (d:aD P w K mg base "_law_rings" 5 ["_law_sheet_here"] fm) (c:aD P w K mg base "_law_sheet" 3 ["_law_box_here","_law_most"] fk) (g:aD P w K mg base "_law_take" 1 ["_law_box_here","_law_many"] aT) (b:aD P w K mg base "_law_truth" 1 ["_law_found","_law_due"] iI) (l:aD P w K mg base "is_ring" 7 ["thing","sheet"] dH):FnOk P w K mg base CX0 8 f fd ["_law_script"] (uz K BI) :=
 DD (k:=7) D sc_law rfl rfl fun m A outer s H E f G hr hp =>
  have nd:=sc_law.nd;by and_intros
end
theorem mn (i:Int):bT [(.int i,.z)]=some (.ok (.bl true,.z),[(.int i,.z)]):=by
 apply aG (ρ:=[some (.int i,.z)]) rfl rfl
 ·nofun
 ·rfl
theorem uK (p:Pt):fY [(Pd p,.z)]=some (.ok (.bl true,.z),[(Pd p,.z)]):=by
 apply aG (ρ:=[some (Pd p,.z)]) rfl rfl
 ·nomatch [(mn _)]
 ·rfl
theorem og {f c:L3.D->L3.D->Option (L3.D × Fl)} {ma mb mc:EM} {ra rb rc:R3} {ρ ρ1 ρ2 ρ3:Sto} {da db a e d:L3.D} {fl b:Fl} (h1:ma ρ=some (.ok ra,ρ1)) (h2:mb ρ1=some (.ok rb,ρ2)) (h3:der ra ρ2=some (.ok da,ρ2)) (l:der rb ρ2=some (.ok db,ρ2)) (i:f da db=some (.bl true,fl)) (g:mc ρ2=some (.ok rc,ρ3)) (j:der rb ρ3=some (.ok a,ρ3)) (h:der rc ρ3=some (.ok e,ρ3)) (k:c a e=some (d,b)):di f c ma mb mc ρ=some (.ok (.val d b),ρ3):=by
 simp only [di,ae,h1,h2,h3,l,i,aZ,Option.bind_some,asB,EH,if_true,g,j,h,k]
theorem wM (ps:List Pt) (h0:0 < ps.length) (h1:ps.length<=24):dE [(Shd ps,.z)]=some (.ok (.bl true,.z),[(Shd ps,.z)]):=by
 obtain ⟨τ',e,a,rfl⟩:=ig (bnd:=aq 0) (c:=b7) (elt:=dh) (fun τ=>∃ a,τ=[a]) (fun _=>true) (fun _=>.bl true) (ds:=ps.map Pd) (τ:=[none]) ⟨none,rfl⟩ (by
  rintro d hd τ ⟨a,rfl⟩
  obtain ⟨p,j,rfl⟩:=Es.mp hd
  exact ⟨[some (Pd p,.z)],_,rfl,rfl,(fun h=>by cases h),fun _=>⟨.val (.bl true) .z,[some (Pd p,.z)],(.bl true,.z),[some (Pd p,.z)],by unfold dh;(nomatch [(uK _)]),rfl,rfl,_,rfl⟩⟩)
 have f:=nh (ds:=((ps.map Pd).filter fun _=>true).map fun _=>.bl true) (fun d hd=>by obtain ⟨_,_,rfl⟩:=Es.mp hd;rfl)
 generalize ((ps.map Pd).filter fun _=>true).map (fun _=>L3.D.bl true)=out at *
 have i:gc [some (Shd ps,.z)]=some (.ok (.val (.lst out) .u),[some (Shd ps,.z)]):=aM (im:=bW (ac 0)) (ix:=[none]) (ρ1:=[some (Shd ps,.z)]) (ρ2:=[some (Shd ps,.z)]) (ds:=ps.map Pd) (rs:=[.pl 0]) rfl e (by simp;omega) rfl
 have g:leI (.int 1) (.int ((ps.map Pd).length:Int))=some (.bl true,.z):=by simp [bL];omega
 have b:leI (.int ((ps.map Pd).length:Int)) (.int 24)=some (.bl true,.z):=by simp [bL];omega
 apply aG (ρ:=[some (Shd ps,.z)]) rfl rfl
 ·apply a8
  ·apply jp
   ·apply og
    ·exact i_c
    ·nofun
    ·rfl
    ·rfl
    ·exact g
    ·exact i_c
    ·rfl
    ·rfl
    ·exact b
   ·rfl
   ·rfl
   ·(repeat' (first | with_reducible exact i | infer_instance | exact f | eq_refl))
  ·rfl
 ·rfl
theorem dg {xs:List L3.D} {k:Int} {d:L3.D} (h:L2.atI xs k=some d):aA (.tup xs) (.int k)=some (d,.z):=by
 show orD ixD kr (.tup xs) (.int k)=_
 simp [orD,ixD,h]
theorem iq {xs:List L3.D} {k:Int} {d:L3.D} (h:L2.atI xs k=some d):aA (.lst xs) (.int k)=some (d,.z):=by
 show orD ixD kr (.lst xs) (.int k)=_
 simp [orD,ixD,h]
theorem wF (ps:List Pt) (h0:0 < ps.length) (h1:ps.length<=24) (R:Rising ps):cG [(Shd ps,.z)]=some (.ok (.bl true,.z),[(Shd ps,.z)]):=by
 obtain ⟨τ',e,a,rfl⟩:=ig (bnd:=aq 0) (c:=b7) (elt:=cy) (fun τ=>∃ a,τ=[a,some (Shd ps,.z)]) (fun _=>true) (fun _=>.bl true) (ds:=bh 0 (ps.length - 1)) (τ:=[none,some (Shd ps,.z)]) ⟨none,rfl⟩ (by
  rintro d hd τ ⟨a,rfl⟩
  obtain ⟨i,hi⟩:=List.getElem?_of_mem hd
  obtain ⟨hi,rfl⟩:=eX hi
  have f:ps[i]?=some ps[i]:=Ej _
  have g:ps[i+1]?=some ps[i+1]:=Ej _
  have b:=R i (i+1) _ _ (by omega) f g
  have a1:aA (Shd ps) (.int (0+(i:Int)))=some (Pd ps[i],.z):=dg (by rw [Int.zero_add];exact vK f)
  have a2:aA (Shd ps) (.int (0+(i:Int)+1))=some (Pd ps[i+1],.z):=dg (by rw [Int.zero_add];exact vK g)
  have k:ltI (.int ps[i].1) (.int ps[i+1].1)=some (.bl true,.z):=by simp [bL,b]
  generalize (0+(i:Int))=j at *
  refine ⟨[some (.int j,.z),some (Shd ps,.z)],_,rfl,rfl,(fun h=>by cases h),fun _=>⟨.val (.bl true) .z,[some (.int j,.z),some (Shd ps,.z)],(.bl true,.z),[some (.int j,.z),some (Shd ps,.z)],?_,rfl,rfl,_,rfl⟩⟩
  unfold cy
  (exists a1,a2,k))
 have o:((ps.length:Int) - 1).toNat=ps.length - 1:=by omega
 have l:cH [.int (((ps.map Pd).length:Int) - 1)]=some (bh 0 (ps.length - 1)):=cu (by simp;omega) (by simp)
 have m:=nh (ds:=((bh 0 (ps.length - 1)).filter fun _=>true).map fun _=>.bl true) (fun d hd=>by obtain ⟨_,_,rfl⟩:=Es.mp hd;rfl)
 generalize ((bh 0 (ps.length - 1)).filter fun _=>true).map (fun _=>L3.D.bl true)=out at *
 have n:eI [some (Shd ps,.z)]=some (.ok (.val (.lst out) .u),[some (Shd ps,.z)]):=aM (ρ1:=[some (Shd ps,.z)]) (rs:=[]) (by (repeat' (first | with_reducible apply dU (h3:=l) | infer_instance | eq_refl))) e (by rw [bK];omega) rfl
 apply aG (ρ:=[some (Shd ps,.z)]) rfl rfl
 ·unfold gJ;(repeat' (first | with_reducible exact n | infer_instance | exact m | eq_refl))
 ·rfl
theorem mw (p q r:Int × Int) (h1:-18446744073709551616 < q.1 - p.1/\q.1 - p.1 < 18446744073709551616) (h2:-18446744073709551616 < q.2 - p.2/\q.2 - p.2 < 18446744073709551616):jZ [(Pd p,.z),(Pd q,.z),(Pd r,.z)]=some (.ok (.int (a9 p q r),.z),[(Pd p,.z),(Pd q,.z),(Pd r,.z)]):=by
 apply aG (ρ:=[some (Pd p,.z),some (Pd q,.z),some (Pd r,.z),none]) rfl rfl
 ·apply ao
  ·exists f9 h1
  ·exists f9 h2
 ·rfl
theorem vX {n i j:Nat} (xs:List L3.D) (k:n<=25) (l:j < n) (elt:EM) (he:∀ (a b c:L3.D),elt [some (c,.z),some (a,.z),some (b,.z)]=some (.ok (.val (.tup [a,b,c]) .z),[some (c,.z),some (a,.z),some (b,.z)])) :
  bx (bD k8 (aa (ah aO (ac 3) (mC (.int 1))) (aa (ac 0) af))) (aq 0) b7 elt [none,some 2,some 3] [some (.int n,.z),some (.lst xs,.u),some (.int i,.z),some (.int j,.z)]=some (.ok (.val (.lst ((lS i j (n - (j+1))).map Td)) .u),[some (.int n,.z),some (.lst xs,.u),some (.int i,.z),some (.int j,.z)]):=by
 obtain ⟨τ',e,a,rfl⟩:=ig (bnd:=aq 0) (c:=b7) (elt:=elt) (fun τ=>∃ a,τ=[a,some (.int i,.z),some (.int j,.z)]) (fun _=>true) (fun d=>.tup [.int i,.int j,d]) (ds:=bh ((j:Int)+1) (n - (j+1))) (τ:=[none,some (.int i,.z),some (.int j,.z)]) ⟨none,rfl⟩ (by
  rintro d hd τ ⟨a,rfl⟩
  exact ⟨[some (d,.z),some (.int i,.z),some (.int j,.z)],_,rfl,rfl,(fun h=>by cases h),fun _=>⟨_,_,(.tup [.int i,.int j,d],.z),_,he _ _ _,rfl,rfl,_,rfl⟩⟩)
 have f:((bh ((j:Int)+1) (n - (j+1))).filter fun _=>true).map (fun d=>L3.D.tup [.int i,.int j,d])=(lS i j (n - (j+1))).map Td:=by
  rw [ET.mpr (fun _ _=>rfl)]
  simp [bh,lS,Function.comp_def]
 rw [f] at e
 have g:k8 [.int ((j:Int)+1),.int n]=some (bh ((j:Int)+1) (n - (j+1))):=sX (by omega) (by omega) (by omega)
 exact aM (rs:=[]) (by (repeat' (first | with_reducible apply dU (h3:=g) | infer_instance | eq_refl))) e (by rw [bK];omega) rfl
theorem DG {A B:List L3.D} (h:A.length+B.length<=16777216):yF (.lst A) [.lst B]=some (.lst (A ++ B),.non):=by simp [yF,h]
theorem y9 {A:List L3.D} {d:L3.D} (h:A.length < 16777216):vL (.lst A) [d]=some (.lst (A ++ [d]),.non):=by simp [vL,h]
theorem iH {A B:List L3.D} (h:A.length+B.length<=16777216):aO (.lst A) (.lst B)=some (.lst (A ++ B),.u):=by simp [orD,bL,qr,qp,qt,h]
theorem cU {A B:List L3.D} (h:A.length+B.length<=16777216):aO (.tup A) (.tup B)=some (.tup (A ++ B),.z):=by simp [orD,bL,qr,qp,qt,h]
theorem uw {n:Nat} (h:n<=25) {b1 b2:SM} (h2:b2=cP (bD k8 (aa (ah aO (ac 2) (mC (.int 1))) (aa (ac 0) af))) (aq 3) b1)
  (h1:∀ (i j:Nat) (xs:List L3.D),j < n->xs.length<=20000->b1 [some (.int n,.z),some (.lst xs,.u),some (.int i,.z),some (.int j,.z)]=some (.ok .nx,[some (.int n,.z),some (.lst (xs ++ (lS i j (n - (j+1))).map Td),.u),some (.int i,.z),some (.int j,.z)])) :
  ∃ v2 v3,cP (bD cH (aa (ac 0) af)) (aq 2) b2 [some (.int n,.z),some (.lst [],.u),none,none]=some (.ok .nx,[some (.int n,.z),some (.lst ((iO n).map Td),.u),v2,v3]):=by
 have inner:∀ (i:Nat) (xs:List Tri) (v3:Option (L3.D × Fl)),i < n->xs.length<=15625->∃ a,b2 [some (.int n,.z),some (.lst (xs.map Td),.u),some (.int i,.z),v3]=some (.ok .nx,[some (.int n,.z),some (.lst ((xs ++ jD n i (n - (i+1))).map Td),.u),some (.int i,.z),a]):=by
  intro i xs v3 hi l
  obtain ⟨ρ',e,a,rfl⟩:=cF (bnd:=aq 3) (b:=b1) (fun m ρ=>∃ v3,ρ=[some (.int n,.z),some (.lst ((xs ++ jD n i m).map Td),.u),some (.int i,.z),v3]) (ds:=bh ((i:Int)+1) (n - (i+1))) (ρ:=[some (.int n,.z),some (.lst (xs.map Td),.u),some (.int i,.z),v3]) (k:=0) ⟨v3,by simp [jD]⟩ (by
   rintro m d ρ hd ⟨v3,rfl⟩
   obtain ⟨hm,rfl⟩:=eX hd
   have g:((xs ++ jD n i m).map Td).length<=20000:=by
    have:=rf (n:=n) (i:=i) (m:=m) h (by omega)
    simp only [En,EE]
    omega
   have c:=h1 i (i+1+m) ((xs ++ jD n i m).map Td) (by omega) g
   rw [show ((i+1+m:Nat):Int)=(i:Int)+1+m by omega,<- List.map_append,List.append_assoc,<- mx] at c
   exact ⟨_,_,by rw [EC];rfl,.inl c,_,by rw [EC]⟩)
  refine ⟨a,?_⟩
  rw [bK,EC] at e
  have f:k8 [.int ((i:Int)+1),.int n]=some (bh ((i:Int)+1) (n - (i+1))):=sX (by omega) (by omega) (by omega)
  rw [h2]
  apply jq
  ·(repeat' (first | with_reducible apply dU (h3:=f) | infer_instance | eq_refl))
  ·rfl
  ·exact e
 obtain ⟨ρ',e,v2,v3,rfl⟩:=cF (bnd:=aq 2) (b:=b2) (fun m ρ=>∃ v2 v3,ρ=[some (.int n,.z),some (.lst ((nB n m).map Td),.u),v2,v3]) (ds:=bh 0 n) (ρ:=[some (.int n,.z),some (.lst [],.u),none,none]) (k:=0) ⟨none,none,rfl⟩ (by
  rintro m d ρ hd ⟨v2,v3,rfl⟩
  obtain ⟨hm,rfl⟩:=eX hd
  rw [EC,Int.zero_add]
  obtain ⟨a,e⟩:=inner m (nB n m) v3 hm (rg h (by omega))
  rw [<- my] at e
  exact ⟨_,_,rfl,.inl e,_,_,rfl⟩)
 rw [bK,EC] at e
 have f:cH [.int (n:Int)]=some (bh 0 n):=cu (by omega) (by omega)
 refine ⟨v2,v3,?_⟩
 apply jq
 ·(repeat' (first | with_reducible apply dU (h3:=f) | infer_instance | eq_refl))
 ·rfl
 ·exact e
theorem kZ (n:Nat) (d:n<=25):fh [(.int n,.z)]=some (.ok (.lst ((iO n).map Td),.u),[(.int n,.z)]):=by
 obtain ⟨v2,v3,e⟩:=uw (n:=n) d (b1:=gu) (b2:=kg) rfl (by
  intro i j xs g h
  have c:=vX (n:=n) (i:=i) (j:=j) xs d g gr (fun a b c=>by unfold gr;(nofun))
  have f:xs.length+((lS i j (n - (j+1))).map Td).length<=16777216:=by
   rw [En,pe];omega
  unfold gu ke
  (repeat' (first | with_reducible exact c | infer_instance | exact DG f | eq_refl)))
 apply aG (ρ:=[some (.int n,.z),none,none,none]) rfl rfl
 ·apply ao
  ·nofun
  ·apply ao
   ·exact e
   ·nofun
 ·rfl
theorem yD {S:List L3.D} {i j k:Int} {p q r:Pt} {v2:Option (L3.D × Fl)} (a1:aA (.tup S) (.int i)=some (Pd p,.z)) (a2:aA (.tup S) (.int j)=some (Pd q,.z)) (l:aA (.tup S) (.int k)=some (Pd r,.z)) (e:Small p) (f:Small q) (h0:a9 p q r ≠ 0):bG [some (.tup S,.z),some (.tup [.int i,.int j,.int k],.z),v2]=some (.ok .nx,[some (.tup S,.z),some (.tup [.int i,.int j,.int k],.z),some (.tup [Pd p,Pd q,Pd r],.z)]):=by
 have b:=mw p q r (Small.sub e f).1 (Small.sub e f).2
 have one:∀ (x d:L3.D) (a:Option (L3.D × Fl)),aA (.tup S) x=some (d,.z)->cf [some (x,.z),some (.tup S,.z)]=some (.ok (.val d .z),[some (x,.z),some (.tup S,.z)]):=fun x d a h=>by unfold cf;(exists h)
 have c:dP [some (.tup S,.z),some (.tup [.int i,.int j,.int k],.z),v2]=some (.ok (.val (.lst [Pd p,Pd q,Pd r]) .u),[some (.tup S,.z),some (.tup [.int i,.int j,.int k],.z),v2]):=by
  refine aM (ρ1:=[some (.tup S,.z),some (.tup [.int i,.int j,.int k],.z),v2]) (ρ2:=[some (.tup S,.z),some (.tup [.int i,.int j,.int k],.z),v2]) (ds:=[.int i,.int j,.int k]) (rs:=[.pl 1]) (τ:=[some (.int k,.z),some (.tup S,.z)]) rfl ?_ (by simp) rfl
  have e1:=one (.int i) _ none a1
  have n:=one (.int j) _ none a2
  have m:=one (.int k) _ none l
  have g:∀ d a,aq 0 d [a,some (L3.D.tup S,.z)]=some [some (d,.z),some (.tup S,.z)]:=fun _ _=>rfl
  have cs:sj [none,some 0] (aH ci (us [some (L3.D.tup S,.z),some (.tup [.int i,.int j,.int k],.z),v2] (pls [R3.pl 1])) [some (.tup S,.z),some (.tup [.int i,.int j,.int k],.z),v2])=[none,some (.tup S,.z)]:=rfl
  rw [cs]
  simp only [bQ,g,b7,ae,aW,if_true,e1,n,m,cW,nol]
 unfold bG
 apply ao
 ·(repeat' (first | with_reducible exact c | infer_instance | eq_refl))
 ·apply cj
  ·nomatch [b]
  ·exact EA h0
  ·rfl
theorem zO (ps:List Pt) (n:ps.length<=24) (g:∀ p ∈ ps,Small p) (j:NoLine ps):ce [(Shd ps,.z)]=some (.ok (.non,.z),[(Shd ps,.z)]):=by
 have a:=kZ ps.length (by omega)
 rw [show (ps.length:Int)=((ps.map Pd).length:Int) by rw [En]] at a
 obtain ⟨ρ',e,v1,v2,rfl⟩:=cF (bnd:=aq 1) (b:=bG) (fun _ ρ=>∃ v1 v2,ρ=[some (Shd ps,.z),v1,v2]) (ds:=(iO ps.length).map Td) (ρ:=[some (Shd ps,.z),none,none]) (k:=0) ⟨none,none,rfl⟩ (by
  rintro m d ρ hd ⟨v1,v2,rfl⟩
  rw [Et,Ef] at hd
  obtain ⟨t,a,rfl⟩:=hd
  obtain ⟨i,l,o⟩:=pQ (Ep a)
  have c:ps[t.1]?=some (ps[t.1]'(by omega)):=Ej _
  have f:ps[t.2.1]?=some (ps[t.2.1]'(by omega)):=Ej _
  have h:ps[t.2.2]?=some (ps[t.2.2]'(by omega)):=Ej _
  have b:=yD (v2:=v2) (dg (vK c)) (dg (vK f)) (dg (vK h)) (g _ (Ep c)) (g _ (Ep f)) (j _ _ _ _ _ _ i l c f h)
  exact ⟨[some (Shd ps,.z),some (Td t,.z),v2],_,rfl,.inl b,_,_,rfl⟩)
 apply aG (ρ:=[some (Shd ps,.z),none,none]) rfl rfl
 ·apply ao
  ·apply jq
   ·nomatch [a]
   ·rfl
   ·exact e
  ·nofun
 ·rfl
theorem o9 {ps:List Pt} (g:GoodSh ps):fX [(Shd ps,.z)]=some (.ok (.bl true,.z),[(Shd ps,.z)]):=by
 have h1:=wM ps g.pos g.most
 have h2:=wF ps g.pos g.most g.rising
 have h3:=zO ps g.most g.small g.noline
 apply aG (ρ:=[some (Shd ps,.z)]) rfl rfl
 ·apply ao
  ·apply cj
   ·nomatch [h1]
   ·rfl
   ·rfl
  ·nomatch [h2,h3]
 ·rfl
theorem uM {ps:List Pt} (g:GoodSh ps):cV [(Shd ps,.z)]=some (.ok (.non,.z),[(Shd ps,.z)]):=by
 have h1:=o9 g
 apply F_nx (ρ:=[some (Shd ps,.z)]) rfl rfl
 ·apply cj
  ·nomatch [h1]
  ·rfl
  ·rfl
 ·rfl
def oT (p q r:Pt):Int:=if 0 < a9 p q r then 1 else -1
theorem q5 {S:List L3.D} {i j k:Int} {p q r:Pt} (a1:aA (.tup S) (.int i)=some (Pd p,.z)) (a2:aA (.tup S) (.int j)=some (Pd q,.z)) (a:aA (.tup S) (.int k)=some (Pd r,.z)) (c:Small p) (d:Small q):dG [(.tup S,.z),(.tup [.int i,.int j,.int k],.z)]=some (.ok (.int (oT p q r),.z),[(.tup S,.z),(.tup [.int i,.int j,.int k],.z)]):=by
 have b:=mw p q r (Small.sub c d).1 (Small.sub c d).2
 by_cases h:0 < a9 p q r
 ·rw [show oT p q r=1 from if_pos h]
  apply aG (ρ:=[some (.tup S,.z),some (.tup [.int i,.int j,.int k],.z)]) rfl rfl
  ·apply a8
   ·apply Dx
    ·nomatch [b],[a1,a2,a]
    ·exact Ez h
    ·exact i_c
   ·rfl
  ·rfl
 ·rw [show oT p q r = -1 from if_neg h]
  apply aG (ρ:=[some (.tup S,.z),some (.tup [.int i,.int j,.int k],.z)]) rfl rfl
  ·apply a8
   ·apply Dy
    ·nomatch [b],[a1,a2,a]
    ·exact EA h
    ·nofun
   ·rfl
  ·rfl
theorem dC (c:Int) (m:Int) (h:0 < m):0<=c % m/\c % m < m:=⟨Int.emod_nonneg _ (by omega),Int.emod_lt_of_pos _ h⟩
theorem cX (n m:Int) (h:0 < m/\m < 1073741824):aT [(.lst [.int n],.u),(.int m,.z)]=some (.ok (.int (n % m),.z),[(.lst [.int (n / m)],.u),(.int m,.z)]):=by
 have hd:yM [.int n,.int m]=some (.tup [.int (n / m),.int (n % m)],.z):=by simp [c2,jn,h]
 apply aG (ρ:=[some (.lst [.int n],.u),some (.int m,.z),none,none]) rfl rfl
 ·apply ao
  ·exists hd
  ·apply ao
   ·nofun
   ·nofun
 ·rfl
theorem pc (p q r:Int × Int) (h1:-18446744073709551616 < q.1 - p.1/\q.1 - p.1 < 18446744073709551616) (h2:-18446744073709551616 < q.2 - p.2/\q.2 - p.2 < 18446744073709551616):dY [(Pd p,.z),(Pd q,.z),(Pd r,.z)]=some (.ok (.int (a9 p q r),.z),[(Pd p,.z),(Pd q,.z),(Pd r,.z)]):=by
 apply aG (ρ:=[some (Pd p,.z),some (Pd q,.z),some (Pd r,.z),none,none,none]) rfl rfl
 ·apply ao
  ·nofun
  apply ao
  ·exists f9 h1
  ·exists f9 h2
 ·rfl
theorem wK (ns:List Int) (k:Nat):∃ n:Int,jw [(.fls (ns.map .int),.z),(.int k,.z)]=some (.ok (.int n,.z),[(.fls (ns.map .int),.z),(.int k,.z)]):=by
 by_cases h:k < ns.length
 ·refine ⟨ns[k],?_⟩
  have a:aA (.fls (ns.map .int)) (.int (k:Int))=some (.int ns[k],.z):=by
   have:L2.atI (ns.map L3.D.int) (k:Int)=some (.int ns[k]):=ui (by simp [h])
   simp [orD,ixD,this]
  have b:(k:Int) < ((ns.map L3.D.int).length:Int):=by simp;omega
  generalize (k:Int)=kk at *
  apply aG (ρ:=[some (.fls (ns.map .int),.z),some (.int kk,.z)]) rfl rfl
  ·apply cO
   apply dn
   ·nofun
   ·exact Ez b
   ·exists a
  ·rfl
 ·refine ⟨0,?_⟩
  have b:¬ (k:Int) < ((ns.map L3.D.int).length:Int):=by simp;omega
  generalize (k:Int)=kk at *
  apply aG (ρ:=[some (.fls (ns.map .int),.z),some (.int kk,.z)]) rfl rfl
  ·apply ao
   ·apply cj
    ·nofun
    ·exact EA b
    ·rfl
   ·nofun
  ·rfl
theorem zM (c j:Int):∃ n:Int,kS [(.int c,.z),(.int j,.z)]=some (.ok (.int n,.z),[(.int c,.z),(.int j,.z)]):=by
 have a:=dC c 2147483647 (by decide)
 have b:=dC j 13 (by decide)
 obtain ⟨m,hm⟩:∃ m:Nat,j % 13=m:=⟨(j % 13).toNat,by omega⟩
 have e:m < 13:=by omega
 have d:∃ v:Int,aA (.lst [.int 48271,.int 69621,.int 16807,.int 39373,.int 30269,.int 40014,.int 40692,.int 50021,.int 61687,.int 71993,.int 83869,.int 95561,.int 30307]) (.int (j % 13))=some (.int v,.z):=by
  rw [hm]
  clear hm
  match m,e with
  | 0,_=>exact ⟨_,rfl⟩
  | 1,_=>exact ⟨_,rfl⟩
  | 2,_=>exact ⟨_,rfl⟩
  | 3,_=>exact ⟨_,rfl⟩
  | 4,_=>exact ⟨_,rfl⟩
  | 5,_=>exact ⟨_,rfl⟩
  | 6,_=>exact ⟨_,rfl⟩
  | 7,_=>exact ⟨_,rfl⟩
  | 8,_=>exact ⟨_,rfl⟩
  | 9,_=>exact ⟨_,rfl⟩
  | 10,_=>exact ⟨_,rfl⟩
  | 11,_=>exact ⟨_,rfl⟩
  | 12,_=>exact ⟨_,rfl⟩
 obtain ⟨v,f⟩:=d
 have c1:-18446744073709551616 < c % 2147483647+12345/\c % 2147483647+12345 < 18446744073709551616:=by omega
 have c2:∀ z:Int,-18446744073709551616 < z % 1000000007/\z % 1000000007 < 18446744073709551616:=fun z=>by
  have:=dC z 1000000007 (by decide)
  omega
 apply Exists.intro
 apply aG (ρ:=[some (.int c,.z),some (.int j,.z),none,none]) rfl rfl
 ·apply ao
  ·nofun
  apply ao
  ·exists f,f9 (by decide),f9 c1
  apply ao
  ·nofun
  ·exists f9 (by decide),f9 (c2 _)
 ·rfl
theorem zP (ns:List Int) (k:Nat):∃ n:Int,jx [(.fls (ns.map .int),.z),(.int k,.z)]=some (.ok (.lst [.int n],.u),[(.fls (ns.map .int),.z),(.int k,.z)]):=by
 obtain ⟨c,a⟩:=wK ns k
 generalize L3.D.fls (ns.map .int)=S at *
 generalize L3.D.int (k:Int)=kk at *
 by_cases h:c % 2=0
 ·apply Exists.intro
  apply aG (ρ:=[some (S,.z),some (kk,.z),none,none,none]) rfl rfl
  ·apply ao
   ·nomatch [a]
   apply cO
   apply dn
   ·nofun
   ·exact Ez h
   ·nofun
  ·rfl
 ·obtain ⟨ρ',e,n,v4,rfl⟩:=cF (bnd:=aq 4) (b:=iR) (fun _ ρ=>∃ (n:Int) (v4:Option (L3.D × Fl)),ρ=[some (S,.z),some (kk,.z),some (.int c,.z),some (.int n,.z),v4]) (ds:=bh 0 40) (ρ:=[some (S,.z),some (kk,.z),some (.int c,.z),some (.int 0,.z),none]) (k:=0) ⟨0,none,rfl⟩ (by
   rintro i d ρ hd ⟨n,v4,rfl⟩
   obtain ⟨hi,rfl⟩:=eX hd
   obtain ⟨m,hm⟩:=zM c (0+(i:Int))
   generalize (0+(i:Int))=j at *
   exact ⟨_,[some (S,.z),some (kk,.z),some (.int c,.z),some (.int (n * 142857143+m),.z),some (.int j,.z)],rfl,.inl (by unfold iR;(nomatch [hm],[xP (by decide)])),_,_,rfl⟩)
  refine ⟨n,?_⟩
  apply aG (ρ:=[some (S,.z),some (kk,.z),none,none,none]) rfl rfl
  ·apply ao
   ·nomatch [a]
   apply ao
   ·apply cj
    ·nofun
    ·exact EA h
    ·rfl
   apply ao
   ·nofun
   apply ao
   ·apply jq
    ·exact dU (by (nofun)) rfl (cu (n:=40) (by decide) (by decide))
    ·rfl
    ·exact e
   ·nofun
  ·rfl
theorem yB {X Z:L3.D} {f:Fl} {k:L3.D} {p q:L3.D} {b:Int} (a:dY [(p,.z),(q,.z),(Z,.z)]=some (.ok (.int b,.z),[(p,.z),(q,.z),(Z,.z)])) :
  de [some (X,f),some (Z,.z),some (k,.z),some (q,.z),some (p,.z)]=some (.ok (if b=0 then .rt (.bl false) .z else .nx),[some (X,f),some (Z,.z),some (k,.z),some (q,.z),some (p,.z)]):=by
 by_cases h:b=0
 ·rw [if_pos h]
  apply dn
  ·nomatch [a]
  ·exact Ez h
  ·nofun
 ·rw [if_neg h]
  apply cj
  ·nomatch [a]
  ·exact EA h
  ·rfl
theorem wJ (ps:List Pt) (z:Pt) (x:∀ p ∈ ps,Small p) (E:ps.length<=24):∃ b:Bool,fq [(.lst (ps.map Pd),.u),(Pd z,.z)]=some (.ok (.bl b,.z),[(.lst (ps.map Pd),.u),(Pd z,.z)])/\(b=true->zh ps z)/\(b=false->∃ (i j:Nat) (p q:Pt),i < j/\ps[i]?=some p/\ps[j]?=some q/\a9 p q z=0):=by
 have inner:∀ (i:Nat) (q:Pt) (v4:Option (L3.D × Fl)),ps[i]?=some q->∃ a,cI (aq 4) de ((ps.take i).map Pd) [some (.lst (ps.map Pd),.l),some (Pd z,.z),some (.int i,.z),some (Pd q,.z),v4]=some (.ok .nx,[some (.lst (ps.map Pd),.l),some (Pd z,.z),some (.int i,.z),some (Pd q,.z),a])/\(∀ j p,j < i->ps[j]?=some p->a9 p q z ≠ 0) \/
   cI (aq 4) de ((ps.take i).map Pd) [some (.lst (ps.map Pd),.l),some (Pd z,.z),some (.int i,.z),some (Pd q,.z),v4]=some (.ok (.rt (.bl false) .z),[some (.lst (ps.map Pd),.l),some (Pd z,.z),some (.int i,.z),some (Pd q,.z),a])/\∃ j p,j < i/\ps[j]?=some p/\a9 p q z=0:=by
  intro i q v4 t
  have hi:i < ps.length:=(Eo.mp t).1
  obtain ⟨ρ',h⟩:=oi (bnd:=aq 4) (b:=de) (fun m ρ=>∃ v4,ρ=[some (.lst (ps.map Pd),.l),some (Pd z,.z),some (.int i,.z),some (Pd q,.z),v4]/\∀ j p,j < m->ps[j]?=some p->a9 p q z ≠ 0)
   (fun m r f ρ=>r=.bl false/\f=.z/\∃ v4,ρ=[some (.lst (ps.map Pd),.l),some (Pd z,.z),some (.int i,.z),some (Pd q,.z),v4]/\∃ p,ps[m]?=some p/\a9 p q z=0)
   (ds:=(ps.take i).map Pd) (ρ:=[some (.lst (ps.map Pd),.l),some (Pd z,.z),some (.int i,.z),some (Pd q,.z),v4]) (k:=0) ⟨v4,rfl,fun j p h=>absurd h (Nat.not_lt_zero _)⟩ (by
    rintro m d ρ hd ⟨v4,rfl,w⟩
    rw [Et,Ef] at hd
    obtain ⟨p,g,rfl⟩:=hd
    have v:ps[m]?=some p/\m < i:=by
     rw [List.getElem?_take] at g
     split at g
     ·exact ⟨g,by assumption⟩
     ·cases g
    have sm:=Small.sub (x p (Ep v.1)) (x q (Ep t))
    have rb:=pc p q z sm.1 sm.2
    have rb:=yB (X:=.lst (ps.map Pd)) (f:=.l) (k:=.int (i:Int)) rb
    by_cases h0:a9 p q z=0
    ·rw [if_pos h0] at rb
     exact ⟨_,_,rfl,.inr ⟨.bl false,.z,rb,rfl,rfl,_,rfl,p,by simpa using v.1,h0⟩⟩
    ·rw [if_neg h0] at rb
     refine ⟨_,_,rfl,.inl ⟨.inl rb,_,rfl,fun j A s n=>?_⟩⟩
     by_cases e:j=m
     ·subst e;rw [v.1] at n;cases n;exact h0
     ·exact w j A (by omega) n)
  rcases h with ⟨e,a,rfl,h⟩ | ⟨m,r,f,hm,e,rfl,rfl,a,rfl,p,g,h0⟩
  ·exact ⟨a,.inl ⟨e,fun j p s=>h j p (by simp;omega)⟩⟩
  ·refine ⟨a,.inr ⟨e,m,p,by simp at hm;omega,by simpa using g,h0⟩⟩
 obtain ⟨ρ',h⟩:=oi (bnd:=jt 2 (cn (aq 2) (cn (aq 3) ju))) (b:=eG) (fun m ρ=>∃ v2 v3 v4,ρ=[some (.lst (ps.map Pd),.l),some (Pd z,.z),v2,v3,v4]/\∀ i j p q,i < j->j < m->ps[i]?=some p->ps[j]?=some q->a9 p q z ≠ 0)
   (fun m r f ρ=>r=.bl false/\f=.z/\∃ v2 v3 v4,ρ=[some (.lst (ps.map Pd),.l),some (Pd z,.z),v2,v3,v4]/\∃ (i j:Nat) (p q:Pt),i < j/\ps[i]?=some p/\ps[j]?=some q/\a9 p q z=0)
   (ds:=ib 0 (ps.map Pd)) (ρ:=[some (.lst (ps.map Pd),.l),some (Pd z,.z),none,none,none]) (k:=0) ⟨_,_,_,rfl,fun i j p q _ h=>absurd h (Nat.not_lt_zero _)⟩ (by
    rintro m d ρ hd ⟨v2,v3,v4,rfl,w⟩
    rw [jR,Et,Option.map_map,Ef] at hd
    obtain ⟨q,t,rfl⟩:=hd
    have hm:m < ps.length:=(Eo.mp t).1
    obtain ⟨a,h⟩:=inner m q v4 t
    have sl:=AX (xs:=ps.map Pd) (m:=m) (by simp;omega)
    rw [<- List.map_take] at sl
    rcases h with ⟨e,h⟩ | ⟨e,j,p,s,g,h0⟩
    ·refine ⟨_,[some (.lst (ps.map Pd),.l),some (Pd z,.z),some (.int m,.z),some (Pd q,.z),a],by simp [aq,jt,cn,ju];rfl,.inl ⟨.inl (by simp [eG,ae,aW,aZ,der,ac,mC,ah,mUn,af,aa,cJ,au,dy,aE,aV,sU,aP,lR,sIf,fZ,cW,lowAt,nol,frz,vo,pls,gives,pZ,orD,bL,ixD,kr,aq,ju,cn,jt,fnM,fn0,gg,fg,lU,c1,c2,jn,lQ,o6,rE,kb,mSl,slD,eY,bR,asI,cB,A7,cOr,eU,fQ,mOr,p5,mIf,di,asB,eqS,eqA,aj,prs,kD,back,fR,mR,kB,eZ,isN,AA,km,kA,zb,vT,x6,orC,qr,qp,qt,L2.atI,ixN,cP,bW,sT,-List.map_take,sl,aH,us,e]),_,_,_,rfl,fun i j p C c s hi o=>?_⟩⟩
     by_cases B:j=m
     ·subst B;rw [t] at o;cases o;exact h i p c hi
     ·exact w i j p C c (by omega) hi o
    ·refine ⟨_,[some (.lst (ps.map Pd),.l),some (Pd z,.z),some (.int m,.z),some (Pd q,.z),a],by simp [aq,jt,cn,ju];rfl,.inr ⟨.bl false,.z,by simp [eG,ae,aW,aZ,der,ac,mC,ah,mUn,af,aa,cJ,au,dy,aE,aV,sU,aP,lR,sIf,fZ,cW,lowAt,nol,frz,vo,pls,gives,pZ,orD,bL,ixD,kr,aq,ju,cn,jt,fnM,fn0,gg,fg,lU,c1,c2,jn,lQ,o6,rE,kb,mSl,slD,eY,bR,asI,cB,A7,cOr,eU,fQ,mOr,p5,mIf,di,asB,eqS,eqA,aj,prs,kD,back,fR,mR,kB,eZ,isN,AA,km,kA,zb,vT,x6,orC,qr,qp,qt,L2.atI,ixN,cP,bW,sT,-List.map_take,sl,aH,us,e],rfl,rfl,_,_,_,rfl,j,m,p,q,s,g,t,h0⟩⟩)
 rcases h with ⟨e,v2,v3,v4,rfl,h⟩ | ⟨m,r,f,hm,e,rfl,rfl,v2,v3,v4,rfl,y⟩
 ·refine ⟨true,?_,fun _ i j p q c hi s=>h i j p q c ?_ hi s,fun h=>by cases h⟩
  ·simp [fq,lw,ae,aW,aZ,der,ac,mC,ah,mUn,af,aa,cJ,au,dy,aE,aV,sU,aP,lR,sIf,fZ,cW,lowAt,nol,frz,vo,pls,gives,pZ,orD,bL,ixD,kr,aq,ju,cn,jt,fnM,fn0,gg,fg,lU,c1,c2,jn,lQ,o6,rE,kb,mSl,slD,eY,bR,asI,cB,A7,cOr,eU,fQ,mOr,p5,mIf,di,asB,eqS,eqA,aj,prs,kD,back,fR,mR,kB,eZ,isN,AA,km,kA,zb,vT,x6,orC,qr,qp,qt,L2.atI,ixN,cP,lz,aH,us,jh,ci,fu,e]
  ·have:=(Eo.mp s).1
   simp [jQ];omega
 ·refine ⟨false,?_,fun h=>(by cases h),fun _=>y⟩
  simp [fq,lw,ae,aW,aZ,der,ac,mC,ah,mUn,af,aa,cJ,au,dy,aE,aV,sU,aP,lR,sIf,fZ,cW,lowAt,nol,frz,vo,pls,gives,pZ,orD,bL,ixD,kr,aq,ju,cn,jt,fnM,fn0,gg,fg,lU,c1,c2,jn,lQ,o6,rE,kb,mSl,slD,eY,bR,asI,cB,A7,cOr,eU,fQ,mOr,p5,mIf,di,asB,eqS,eqA,aj,prs,kD,back,fR,mR,kB,eZ,isN,AA,km,kA,zb,vT,x6,orC,qr,qp,qt,L2.atI,ixN,cP,lz,aH,us,jh,ci,fu,e]
theorem sq_le {i:Nat} (h:i < 12):0<=(i:Int) * (i:Int)/\(i:Int) * (i:Int)<=144:=by
 have h1:i * i<=12 * 12:=Nat.mul_le_mul (by omega) (by omega)
 have h2:(i:Int) * (i:Int)=((i * i:Nat):Int):=by simp
 rw [h2];omega
theorem zn {i:Nat} {g kd:Int} (hi:i < 12) (c:-15<=g) (g1:g<=15) (b:0<=kd) (d:kd < 6) :
  ∃ y:Int,aA (.lst [.int g,.int g,.int ((i:Int) * i+g / 9),.int (g / 9 - (i:Int) * i),.int (((i:Int) * i+30) * (1 - 2 * ((i:Int) % 2))),.int (g * 1000)]) (.int kd)=some (.int y,.z)/\-16000<=y/\y<=16000:=by
 obtain ⟨f,h⟩:=sq_le hi
 obtain ⟨j,rfl⟩:∃ j:Nat,kd=(j:Int):=⟨kd.toNat,by omega⟩
 have a:j < 6:=by omega
 generalize (i:Int) * (i:Int)=qq at *
 have hm:(qq+30) * (1 - 2 * ((i:Int) % 2))<=16000/\-16000<=(qq+30) * (1 - 2 * ((i:Int) % 2)):=by
  rcases Int.emod_two_eq (i:Int) with e | e
  ·rw [e];simp;omega
  ·rw [e];simp;omega
 generalize (qq+30) * (1 - 2 * ((i:Int) % 2))=zz at *
 match j,a with
 | 0,_=>exact ⟨_,rfl,by omega,by omega⟩
 | 1,_=>exact ⟨_,rfl,by omega,by omega⟩
 | 2,_=>exact ⟨_,rfl,by omega,by omega⟩
 | 3,_=>exact ⟨_,rfl,by omega,by omega⟩
 | 4,_=>exact ⟨_,rfl,by omega,by omega⟩
 | 5,_=>exact ⟨_,rfl,by omega,by omega⟩
abbrev cL (n most many kd x:Int) (ps:List Pt) (v6 v7 v8 v9:Option (L3.D × Fl)):Sto:=[some (.lst [.int n],.u),some (.int most,.z),some (.int many,.z),some (.int kd,.z),some (.int x,.z),some (.lst (ps.map Pd),.u),v6,v7,v8,v9]
theorem q8 {n most many kd x y0:Int} {ps:List Pt} {v6 v7 v8:Option (L3.D × Fl)} (R:Rising ps) (h:∀ p ∈ ps,Small p) (r:ps.length<=12) :
  ∃ y,gl cv dA (cL n most many kd x ps v6 v7 v8 (some (.int y0,.z)))=some (.ok .nx,cL n most many kd x ps v6 v7 v8 (some (.int y,.z)))/\zh ps (x,y)/\y0<=y/\y<=y0+144:=by
 have f:above ps x y0<=144:=by
  have h1:=zd ps x y0
  have h2:ps.length * ps.length<=12 * 12:=Nat.mul_le_mul (by omega) (by omega)
  omega
 obtain ⟨ρ',e,y,rfl,hf,h1,h2⟩:=uo (c:=cv) (b:=dA) (fun m ρ=>∃ y:Int,ρ=cL n most many kd x ps v6 v7 v8 (some (.int y,.z))/\m=above ps x y/\y0<=y/\y+(above ps x y:Int)<=y0+(above ps x y0:Int))
  (fun ρ=>∃ y:Int,ρ=cL n most many kd x ps v6 v7 v8 (some (.int y,.z))/\zh ps (x,y)/\y0<=y/\y<=y0+144) (ρ:=cL n most many kd x ps v6 v7 v8 (some (.int y0,.z))) ⟨y0,rfl,rfl,Int.le_refl _,Int.le_refl _⟩ (by
   rintro m ρ ⟨y,rfl,rfl,h1,h2⟩
   obtain ⟨b,k,l,hf⟩:=wJ ps (x,y) h (by omega)
   have g:cv (cL n most many kd x ps v6 v7 v8 (some (.int y,.z)))=some (.ok (!b),cL n most many kd x ps v6 v7 v8 (some (.int y,.z))):=by
    unfold cv
    nomatch [k]
   cases b with
   | true=>exact .inl ⟨_,g,y,rfl,l rfl,h1,by omega⟩
   | false =>
    obtain ⟨i,j,p,q,d,e1,o,h0⟩:=hf rfl
    have a:=zc R d e1 o h0
    exact .inr ⟨_,cL n most many kd x ps v6 v7 v8 (some (.int (y+1),.z)),_,g,.inl (by unfold dA;(nofun)),a,y+1,rfl,rfl,by omega,by omega⟩)
 exact ⟨y,e,hf,h1,h2⟩
theorem wD {n most many kd x:Int} {i:Nat} {ps:List Pt} {v7 v8 v9:Option (L3.D × Fl)} (R:Rising ps) (l:∀ p ∈ ps,Small p) (k:ps.length<=12) (hi:i < 12) (s:0<=kd) (m:kd < 6) :
  ∃ (r d y:Int) (a b e:Option (L3.D × Fl)),cw (cL n most many kd x ps (some (.int i,.z)) v7 v8 v9)=some (.ok .nx,cL r most many kd (x+1+d) (ps ++ [(x+1+d,y)]) (some (.int i,.z)) a b e)/\0<=d/\d < 3/\zh ps (x+1+d,y)/\-16000<=y/\y<=16144:=by
 have t:=cX
 have C:=dC (n / 3) 31 (by decide)
 have f:=dC n 3 (by decide)
 generalize o:n / 3 % 31 - 15=G at *
 obtain ⟨y0,w,E,B⟩:=zn (i:=i) (g:=G) (kd:=kd) hi (by omega) (by omega) s m
 have h:-18446744073709551616 < (i:Int)/\(i:Int) < 18446744073709551616:=by omega
 have v:-18446744073709551616 < 1 - 2 * ((i:Int) % 2)/\1 - 2 * ((i:Int) % 2) < 18446744073709551616:=by omega
 generalize c:x+1+n % 3=X at *
 obtain ⟨y,q,hf,h1,h2⟩:=q8 (n:=n / 3 / 31) (most:=most) (many:=many) (kd:=kd) (x:=X) (y0:=y0) (ps:=ps) (v6:=some (.int i,.z)) (v7:=some (.int G,.z)) (v8:=some (.lst [.int G,.int G,.int ((i:Int) * i+G / 9),.int (G / 9 - (i:Int) * i),.int (((i:Int) * i+30) * (1 - 2 * ((i:Int) % 2))),.int (G * 1000)],.u)) R l k
 refine ⟨n / 3 / 31,n % 3,y,some (.int G,.z),some (.lst [.int G,.int G,.int ((i:Int) * i+G / 9),.int (G / 9 - (i:Int) * i),.int (((i:Int) * i+30) * (1 - 2 * ((i:Int) % 2))),.int (G * 1000)],.u),some (.int y,.z),?_,f.1,f.2,by rw [c];exact hf,by omega,by omega⟩
 rw [c]
 have A:(ps.map Pd).length < 16777216:=by simp;omega
 have j:=y9 (d:=Pd (X,y)) A
 rw [show ps.map Pd ++ [Pd (X,y)]=(ps ++ [(X,y)]).map Pd by simp] at j
 clear hi
 generalize (i:Int)=zi at *
 unfold cw
 apply ao (ρ1:=cL (n / 3) most many kd X ps (some (.int zi,.z)) v7 v8 v9)
 ·rw [<- c]
  nomatch [(t _ _ (by decide))]
 apply ao (ρ1:=cL (n / 3 / 31) most many kd X ps (some (.int zi,.z)) (some (.int G,.z)) v8 v9)
 ·rw [<- o]
  nomatch [(t _ _ (by decide))]
 apply ao (ρ1:=cL (n / 3 / 31) most many kd X ps (some (.int zi,.z)) (some (.int G,.z)) (some (.lst [.int G,.int G,.int (zi * zi+G / 9),.int (G / 9 - zi * zi)],.u)) v9)
 ·exists f9 h
 apply ao (ρ1:=cL (n / 3 / 31) most many kd X ps (some (.int zi,.z)) (some (.int G,.z)) (some (.lst [.int G,.int G,.int (zi * zi+G / 9),.int (G / 9 - zi * zi),.int ((zi * zi+30) * (1 - 2 * (zi % 2))),.int (G * 1000)],.u)) v9)
 ·exists f9 h,f9 (by decide),xP v,xP (by decide)
 apply ao (ρ1:=cL (n / 3 / 31) most many kd X ps (some (.int zi,.z)) (some (.int G,.z)) (some (.lst [.int G,.int G,.int (zi * zi+G / 9),.int (G / 9 - zi * zi),.int ((zi * zi+30) * (1 - 2 * (zi % 2))),.int (G * 1000)],.u)) (some (.int y0,.z)))
 ·exists w
 apply ao
 ·exact q
 ·exists j
theorem wH {n most many kd x:Int} (hm:0<=many/\many<=12) (w:0<=kd) (t:kd < 6) (x0:-4<=x) (x1:x<=4) :
  ∃ (h j:Int) (ps:List Pt) (v6 v7 v8 v9:Option (L3.D × Fl)),cP (bD cH (aa (ac 2) af)) (aq 6) cw (cL n most many kd x [] none none none none)=some (.ok .nx,cL h most many kd j ps v6 v7 v8 v9)/\(ps.length:Int)=many/\Rising ps/\NoLine ps/\(∀ q ∈ ps,-5<=q.1/\q.1<=100/\-17000<=q.2/\q.2<=17000):=by
 obtain ⟨ρ',e,h,j,ps,v6,v7,v8,v9,rfl,m,c,f,bnd,h1,h2⟩:=cF (bnd:=aq 6) (b:=cw) (fun i ρ=>∃ (n x:Int) (ps:List Pt) (v6 v7 v8 v9:Option (L3.D × Fl)),ρ=cL n most many kd x ps v6 v7 v8 v9/\ps.length=i/\Rising ps/\NoLine ps/\(∀ q ∈ ps,q.1<=x/\-5<=q.1/\-17000<=q.2/\q.2<=17000)/\-4<=x/\x<=4+3 * (i:Int))
  (ds:=bh 0 many.toNat) (ρ:=cL n most many kd x [] none none none none) (k:=0) ⟨n,x,[],none,none,none,none,rfl,rfl,fun _ _ _ _ _ e _=>by simp at e,fun _ _ _ _ _ _ _ _ e _ _=>by simp at e,fun _ e=>by simp at e,by omega,by omega⟩ (by
   rintro i d ρ hd ⟨n,x,ps,v6,v7,v8,v9,rfl,m,c,f,bnd,h1,h2⟩
   obtain ⟨hi,rfl⟩:=eX hd
   have l:∀ q ∈ ps,Small q:=fun q a=>by
    obtain ⟨a1,a2,p,o⟩:=bnd q a
    exact ⟨by omega,by omega,by omega,by omega⟩
   obtain ⟨h,g,y,r,s,u,e,A,d1,fr,y0,B⟩:=wD (n:=n) (most:=most) (many:=many) (kd:=kd) (x:=x) (i:=i) (ps:=ps) (v7:=v7) (v8:=v8) (v9:=v9) c l (by omega) (by omega) w t
   refine ⟨cL n most many kd x ps (some (.int i,.z)) v7 v8 v9,_,by rw [Int.zero_add];rfl,.inl e,h,x+1+g,ps ++ [(x+1+g,y)],_,_,_,_,rfl,by simp;omega,c.snoc fun q a=>?_,f.snoc fr,fun q a=>?_,by omega,by omega⟩
   ·show q.1 < x+1+g
    have:=(bnd q a).1
    omega
   ·rcases El.mp a with a | a
    ·obtain ⟨a1,a2,p,o⟩:=bnd q a
     exact ⟨by omega,by omega,by omega,by omega⟩
    ·have e:q=(x+1+g,y):=by simpa using a
     subst e
     exact ⟨Int.le_refl _,by show -5<=x+1+g;omega,by show -17000<=y;omega,by show y<=17000;omega⟩)
 rw [bK] at m h2
 have v:cH [.int many]=some (bh 0 many.toNat):=cu (by omega) rfl
 refine ⟨h,j,ps,v6,v7,v8,v9,?_,by omega,c,f,fun q a=>?_⟩
 ·apply jq
  ·(repeat' (first | with_reducible apply dU (h3:=v) | infer_instance | eq_refl))
  ·rfl
  ·exact e
 ·obtain ⟨a1,a2,p,o⟩:=bnd q a
  exact ⟨by omega,by omega,by omega,by omega⟩
abbrev scJ (p:Pt):Pt:=iP 1000000000000 1000000000 7 p
theorem pow12:rB (.int 10) (.int 12)=some (.int 1000000000000,.z):=rfl
theorem pow9:rB (.int 10) (.int 9)=some (.int 1000000000,.z):=rfl
theorem uI (ps:List Pt) (f:ps.length<=24) {n most many kd x:Int} {v6 v7 v8 v9:Option (L3.D × Fl)}:aP 5 dz (cL n most many kd x ps v6 v7 v8 v9)=some (.ok .nx,cL n most many kd x (ps.map scJ) v6 v7 v8 v9):=by
 obtain ⟨τ',e,a,b,rfl⟩:=a7 (bnd:=jt 2 (cn (aq 0) (cn (aq 1) ju))) (c:=b7) (elt:=fM) (fun τ=>∃ a b,τ=[a,b]) Pd (fun _=>true) (fun p=>Pd (scJ p)) (xs:=ps) (τ:=[none,none]) ⟨none,none,rfl⟩ (by
  rintro p g τ ⟨a,b,rfl⟩
  exact ⟨[some (.int p.1,.z),some (.int p.2,.z)],_,rfl,rfl,(fun h=>by cases h),fun _=>⟨.val (Pd (scJ p)) .z,[some (.int p.1,.z),some (.int p.2,.z)],(Pd (scJ p),.z),_,by unfold fM;(exists pow12,pow9,f9 (by decide)),rfl,rfl,_,_,rfl⟩⟩)
 rw [ET.mpr (fun _ _=>rfl)] at e
 have d:dz (cL n most many kd x ps v6 v7 v8 v9)=some (.ok (.val (.lst (ps.map fun p=>Pd (scJ p))) .u),cL n most many kd x ps v6 v7 v8 v9):=aM (rs:=[.pl 5]) (ρ1:=cL n most many kd x ps v6 v7 v8 v9) (ρ2:=[some (.lst [.int n],.u),some (.int most,.z),some (.int many,.z),some (.int kd,.z),some (.int x,.z),some (.lst (ps.map Pd),.l),v6,v7,v8,v9]) rfl e (by simp;omega) rfl
 rw [show (ps.map fun p=>Pd (scJ p))=(ps.map scJ).map Pd by simp] at d
 exact p9 d rfl (Nat.le_of_ble_eq_true rfl) rfl
theorem uH (n most:Int) (h1:1<=most) (h2:most<=12):∃ (b:Int) (ps:List Pt),fk [(.lst [.int n],.u),(.int most,.z)]=some (.ok (.tup (ps.map Pd),.z),[(.lst [.int b],.u),(.int most,.z)])/\GoodSh ps/\(ps.length:Int)<=most:=by
 have t:=cX
 have p:=dC n most (by omega)
 have h:=dC (n / most) 6 (by decide)
 have o:=dC (n / most / 6) 9 (by decide)
 obtain ⟨b,j,ps,v6,v7,v8,v9,e,m,c,d,bnd⟩:=wH (n:=n / most / 6 / 9) (most:=most) (many:=1+n % most) (kd:=n / most % 6) (x:=n / most / 6 % 9 - 4) ⟨by omega,by omega⟩ h.1 h.2 (by omega) (by omega)
 have good:GoodSh ps:=⟨by omega,by omega,fun q g=>by
  obtain ⟨a1,a2,l,k⟩:=bnd q g
  exact ⟨by omega,by omega,by omega,by omega⟩,c,d⟩
 have a:GoodSh (ps.map scJ):=⟨by simpa using good.pos,by simpa using good.most,fun q g=>by
  obtain ⟨r,f,rfl⟩:=Es.mp g
  obtain ⟨a1,a2,l,k⟩:=bnd r f
  exact ⟨by show -(2 ^ 62) < (1000000000000:Int) * r.1+7;omega,by show (1000000000000:Int) * r.1+7 < 2 ^ 62;omega,by show -(2 ^ 62) < (1000000000:Int) * r.2;omega,by show (1000000000:Int) * r.2 < 2 ^ 62;omega⟩,c.scale (by decide),d.scale (by decide) (by decide)⟩
 have pre:∀ {r:Option (Except L3.D Flw × Sto)},aE (sIf (cB (ah eqX (aj aT (aa (ac 0) (aa (mC (.int 6)) af))) (mC (.int 5)))) (aP 5 dz) dy) (aV 2 (au lN (aa (ac 5) af))) (cL b most (1+n % most) (n / most % 6) j ps v6 v7 v8 v9)=r->mM [some (.lst [.int n],.u),some (.int most,.z),none,none,none,none,none,none,none,none]=r:=by
  intro r f
  apply ao (ρ1:=[some (.lst [.int (n / most)],.u),some (.int most,.z),some (.int (1+n % most),.z),none,none,none,none,none,none,none])
  ·nomatch [(t n most (by omega))]
  apply ao (ρ1:=[some (.lst [.int (n / most / 6)],.u),some (.int most,.z),some (.int (1+n % most),.z),some (.int (n / most % 6),.z),none,none,none,none,none,none])
  ·nomatch [(t _ _ (by decide))]
  apply ao (ρ1:=[some (.lst [.int (n / most / 6 / 9)],.u),some (.int most,.z),some (.int (1+n % most),.z),some (.int (n / most % 6),.z),some (.int (n / most / 6 % 9 - 4),.z),none,none,none,none,none])
  ·nomatch [(t _ _ (by decide))]
  apply ao (ρ1:=cL (n / most / 6 / 9) most (1+n % most) (n / most % 6) (n / most / 6 % 9 - 4) [] none none none none)
  ·nofun
  exact ao e f
 by_cases i:b % 6=5
 ·refine ⟨b / 6,ps.map scJ,?_,a,by rw [En];omega⟩
  apply aG (ρ:=[some (.lst [.int n],.u),some (.int most,.z),none,none,none,none,none,none,none,none]) rfl rfl
  ·apply pre
   apply ao
   ·apply dn
    ·nomatch [(t _ _ (by decide))]
    ·exact Ez i
    ·exact uI ps (by omega)
   ·nofun
  ·rfl
 ·refine ⟨b / 6,ps,?_,good,by omega⟩
  apply aG (ρ:=[some (.lst [.int n],.u),some (.int most,.z),none,none,none,none,none,none,none,none]) rfl rfl
  ·apply pre
   apply ao
   ·apply cj
    ·nomatch [(t _ _ (by decide))]
    ·exact EA i
    ·rfl
   ·nofun
  ·rfl
def bC (ps:List Pt) (i:Nat):Pt:=ps.getD i (0,0)
theorem pA {ps:List Pt} {i:Nat} (h:i < ps.length):ps[i]?=some (bC ps i):=by
 simp [bC,List.getD,Ej h]
theorem fJ {ps:List Pt} {i:Nat} (a:∀ p ∈ ps,Small p) (h:i < ps.length):Small (bC ps i):=a _ (Ep (pA h))
theorem jA {ps:List Pt} {i:Nat} (h:i < ps.length):aA (Shd ps) (.int i)=some (Pd (bC ps i),.z):=dg (vK (pA h))
def tq (ps:List Pt) (t:Tri):Int:=oT (bC ps t.1) (bC ps t.2.1) (bC ps t.2.2)
abbrev tk (t:Tri):List Key:=[.inl (t.1:Int),.inl (t.2.1:Int),.inl (t.2.2:Int)]
theorem vV {t u:Tri} (h:tk t=tk u):t=u:=by
 simp only [tk,List.cons.injEq,Sum.inl.injEq,and_true] at h
 exact Prod.ext (by omega) (Prod.ext (by omega) (by omega))
def tb (ps:List Pt) (l:List Tri):List (List Key × L3.D):=l.map fun t=>(tk t,.int (tq ps t))
theorem CL {ps:List Pt} {l:List Tri} {t:Tri} (h:t ∉ l):pv (tb ps l) (tk t) (.int (tq ps t))=tb ps (l ++ [t]):=by
 have a:¬ ((tb ps l).any fun c=>decide (c.1=tk t))=true:=by
  intro d
  obtain ⟨x,b,e⟩:=List.any_eq_true.mp d
  obtain ⟨u,hu,rfl⟩:=Es.mp b
  exact h (vV (of_decide_eq_true e) ▸ hu)
 unfold pv
 rw [if_neg a]
 unfold tb
 rw [List.map_append]
 rfl
theorem yA {ps:List Pt} {t:Tri}:∀ {l:List Tri},t ∈ l->lA (tb ps l) (tk t)=some (.int (tq ps t))
 | u :: l,h=>by
  unfold lA tb
  rw [Ey,List.find?_cons]
  by_cases e:tk u=tk t
  ·rw [vV e];simp
  ·have:t ∈ l:=by
    rcases Ei.mp h with rfl | h
    ·exact absurd rfl e
    ·exact h
   have a:=yA (ps:=ps) this
   unfold lA tb at a
   simp only [e,decide_false]
   exact a
theorem Ce {ps:List Pt} {l:List Tri} {t:Tri} (h:t ∉ l) (a:l.length < 16777216):zJ (.dt (tb ps l)) [Td t,.int (tq ps t)]=some (.dt (tb ps (l ++ [t])),.non):=by
 show (if (tb ps l).length < 16777216 then some (L3.D.dt (pv (tb ps l) (tk t) (.int (tq ps t))),L3.D.non) else none)=_
 rw [if_pos (by unfold tb;rw [En];exact a),CL h]
theorem qQ:∀ n:Nat,n<=8->(iO n).Nodup
 | 0,_=>by decide +kernel
 | 1,_=>by decide +kernel
 | 2,_=>by decide +kernel
 | 3,_=>by decide +kernel
 | 4,_=>by decide +kernel
 | 5,_=>by decide +kernel
 | 6,_=>by decide +kernel
 | 7,_=>by decide +kernel
 | 8,_=>by decide +kernel
 | n+9,h=>absurd h (by omega)
theorem vU:∀ n:Nat,n<=8->(iO n).length<=56
 | 0,_=>by decide +kernel
 | 1,_=>by decide +kernel
 | 2,_=>by decide +kernel
 | 3,_=>by decide +kernel
 | 4,_=>by decide +kernel
 | 5,_=>by decide +kernel
 | 6,_=>by decide +kernel
 | 7,_=>by decide +kernel
 | 8,_=>by decide +kernel
 | n+9,h=>absurd h (by omega)
theorem ux {α:Type} {l:List α} {m:Nat} {t:α} (h:l[m]?=some t):l.take (m+1)=l.take m ++ [t]:=by
 rw [List.take_add_one,h];rfl
theorem rJ {α:Type} {l:List α} {m:Nat} {t:α} (nd:l.Nodup) (h:l[m]?=some t):t ∉ l.take m:=by
 rw [<- List.take_append_drop m l] at nd
 intro hm
 refine (List.nodup_append.mp nd).2.2 t hm t ?_ rfl
 refine Ep (i:=0) ?_
 rw [List.getElem?_drop]
 exact h
theorem vN {ps:List Pt} (g:GoodSh ps) {t:Tri} (h1:t.1 < t.2.1) (h2:t.2.1 < t.2.2) (h3:t.2.2 < ps.length) {l:List Tri} (b:t ∉ l) (a:l.length < 16777216):cz [some (Shd ps,.z),some (.dt (tb ps l),.u),some (Td t,.z)]=some (.ok .nx,[some (Shd ps,.z),some (.dt (tb ps (l ++ [t])),.u),some (Td t,.z)]):=by
 obtain ⟨i,j,k⟩:=t
 dsimp only at h1 h2 h3
 have f:dG [(Shd ps,.z),(Td (i,j,k),.z)]=some (.ok (.int (tq ps (i,j,k)),.z),[(Shd ps,.z),(Td (i,j,k),.z)]):=q5 (jA (ps:=ps) (i:=i) (by omega)) (jA (ps:=ps) (i:=j) (by omega)) (jA (ps:=ps) (i:=k) (by omega)) (fJ g.small (show i < ps.length by omega)) (fJ g.small (show j < ps.length by omega))
 have e:=Ce (ps:=ps) b a
 unfold cz
 have c:aj dG (aa (ac 0) (aa (ac 2) af)) [some (Shd ps,.z),some (.dt (tb ps l),.u),some (Td (i,j,k),.z)]=some (.ok (.val (.int (tq ps (i,j,k))) .z),[some (Shd ps,.z),some (.dt (tb ps l),.u),some (Td (i,j,k),.z)]):=by (nomatch [f])
 exact Bz (i:=1) (ρ2:=[some (Shd ps,.z),some (.dt (tb ps l),.u),some (Td (i,j,k),.z)]) (ρ3:=[some (Shd ps,.z),some (.dt (tb ps l),.u),some (Td (i,j,k),.z)]) c rfl (ay (i:=2) rfl) rfl rfl e
theorem wN {ps:List Pt} (g:GoodSh ps) (f:ps.length<=8):eL [(Shd ps,.z)]=some (.ok (.dt (tb ps (iO ps.length)),.u),[(Shd ps,.z)]):=by
 have nd:=qQ ps.length f
 have l:=vU ps.length f
 obtain ⟨ρ',e,v2,rfl⟩:=cF (bnd:=aq 2) (b:=cz) (fun m ρ=>∃ v2,ρ=[some (Shd ps,.z),some (.dt (tb ps ((iO ps.length).take m)),.u),v2]) (ds:=(iO ps.length).map Td) (ρ:=[some (Shd ps,.z),some (.dt [],.u),none]) (k:=0) ⟨none,rfl⟩ (by
  rintro m d ρ hd ⟨v2,rfl⟩
  rw [EC]
  rw [Et] at hd
  obtain ⟨t,a,rfl⟩:=Ef.mp hd
  obtain ⟨h,i,j⟩:=pQ (Ep a)
  rw [ux a]
  exact ⟨_,_,rfl,.inl (vN g h i j (rJ nd a) (by rw [EG];omega)),_,rfl⟩)
 rw [EC,En,List.take_length] at e
 have c:=uM g
 have th:=kZ ps.length (by omega)
 have hlen:bZ [Shd ps]=some (.int (ps.length:Nat),.z):=by simp [kA,c1]
 apply aG (ρ:=[some (Shd ps,.z),none,none]) rfl rfl
 ·apply ao (ρ1:=[some (Shd ps,.z),none,none])
  ·exact yt (ak c (av (ay rfl) aR) rfl rfl rfl)
  ·apply ao (ρ1:=[some (Shd ps,.z),some (.dt [],.u),none])
   ·rfl
   ·apply ao
    ·apply jq
     ·nomatch [th],[hlen]
     ·rfl
     ·exact e
    ·nofun
 ·rfl
abbrev k3 (i j k:Nat):List Key:=[.inl (i:Int),.inl (j:Int),.inl (k:Int)]
structure Sg where
 length:Nat
 f:Nat->Nat->Nat->Int
def trn (ps:Sg) (i j k:Nat):Int:=ps.f i j k
def qI (ps:Sg) (T:List (List Key × L3.D)):Prop:=∀ i j k,i < j->j < k->k < ps.length->lA T (k3 i j k)=some (.int (trn ps i j k))
theorem uZ {n i j k:Nat} (h1:i < j) (h2:j < k) (h3:k < n):(i,j,k) ∈ iO n:=by
 refine EU.mpr ⟨i,List.mem_range.mpr (by omega),EU.mpr ⟨j - (i+1),List.mem_range.mpr (by omega),Es.mpr ⟨k - (j+1),List.mem_range.mpr (by omega),?_⟩⟩⟩
 refine Prod.ext rfl (Prod.ext ?_ ?_) <;> simp <;> omega
theorem sub3 {kvs:List (List Key × L3.D)} {i j k:Nat} {d:L3.D} (h:lA kvs (k3 i j k)=some d):aA (.dt kvs) (.tup [.int i,.int j,.int k])=some (d,.z):=by
 show (lA kvs (k3 i j k)).map (fun d=>(d,Fl.z))=_
 rw [h];rfl
def sgn (ps:List Pt):Sg:=⟨ps.length,fun i j k=>oT (bC ps i) (bC ps j) (bC ps k)⟩
theorem oS (ps:List Pt):qI (sgn ps) (tb ps (iO ps.length)):=fun i j k h1 h2 h3=>yA (t:=(i,j,k)) (uZ h1 h2 h3)
abbrev Nd (l:List Nat):List L3.D:=l.map fun (i:Nat)=>L3.D.int (i:Int)
def el (L:List Nat) (i:Nat):Nat:=L.getD i 0
theorem oj {L:List Nat} {i:Nat} (h:i < L.length):L[i]?=some (el L i):=by simp [el,List.getD,h]
theorem lH {L:List Nat} {i:Nat} (h:i < L.length):el L i ∈ L:=Ep (oj h)
theorem uL {i n:Int} (h0:0<=i) (h1:i < n):dZ [(.int i,.z),(.int n,.z)]=some (.ok (.bl true,.z),[(.int i,.z),(.int n,.z)]):=by
 have b:leI (.int 0) (.int i)=some (.bl true,.z):=by simp [bL,h0]
 have a:ltI (.int i) (.int n)=some (.bl true,.z):=by simp [bL,h1]
 apply aG (ρ:=[some (.int i,.z),some (.int n,.z)]) rfl rfl
 ·apply a8
  ·apply jp
   ·nomatch [(mn _)]
   ·rfl
   ·rfl
   ·exact og i_c (ay rfl) rfl rfl b (ay rfl) rfl rfl a
  ·rfl
 ·rfl
theorem uk {α:Type} (b:α->Bool):∀ xs:List α,iM (xs.map fun x=>L3.D.bl (b x))=some (xs.map b)
 | []=>rfl
 | x :: xs=>by simp [iM,uk b xs]
theorem eV {α:Type} (b:α->Bool) (xs:List α):oM [.lst (xs.map fun x=>L3.D.bl (b x))]=some (.bl (xs.all b),.z):=by
 show (iM _).map _=_
 rw [uk]
 simp [List.all_map]
theorem iU {xs:List L3.D} {i:Nat} {d:L3.D} (h:xs[i]?=some d):L2.atI xs (i:Int)=some d:=by
 have lt:=(Eo.mp h).1
 unfold L2.atI L2.ixN
 rw [if_pos (by omega),if_pos (by omega)]
 simpa using h
theorem zf {r:List Nat} {i:Nat} (h:i < r.length):(Nd r)[i]?=some (.int (el r i)):=by rw [Et,oj h];rfl
theorem jB {r:List Nat} {i:Nat} (h:i < r.length):aA (.tup (Nd r)) (.int (i:Int))=some (.int (el r i),.z):=dg (iU (zf h))
theorem kR {xs:List L3.D} {d:L3.D} (h:xs[xs.length - 1]?=some d):L2.atI xs (-1)=some d:=by
 have lt:=(Eo.mp h).1
 unfold L2.atI L2.ixN
 rw [if_neg (by decide),if_pos (by omega)]
 rw [show ((-1:Int)+(xs.length:Int)).toNat=xs.length - 1 by omega,Option.bind_some]
 exact h
structure Ris (n:Nat) (r:List Nat):Prop where
 up:r.Pairwise (· < ·)
 lt:∀ x ∈ r,x < n
theorem Ris.at {n:Nat} {r:List Nat} (h:Ris n r) {i j:Nat} (a:i < j) (c:j < r.length):el r i < el r j:=by
 have:=List.pairwise_iff_getElem.mp h.up i j (by omega) c a
 have e1:=oj (L:=r) (i:=i) (by omega)
 have b:=oj (L:=r) (i:=j) c
 rw [Ej (by omega)] at e1 b
 injection e1 with e1
 injection b with b
 omega
theorem Ris.sub {n:Nat} {r q:List Nat} (h:Ris n r) (s:q.Sublist r):Ris n q:=⟨h.up.sublist s,fun x a=>h.lt x (s.subset a)⟩
theorem sY {n:Nat}:∀ (r:List Nat) (a:Nat),r.Pairwise (· < ·)->(∀ x ∈ r,a<=x/\x < n)->r.length<=n - a
 | [],a,_,_=>Nat.zero_le _
 | x :: r,a,hp,hb=>by
  rw [List.pairwise_cons] at hp
  have h0:=hb x Ec
  have:=sY r (x+1) hp.2 fun y b=>⟨hp.1 y b,(hb y (Ed _ b)).2⟩
  rw [EF]
  omega
theorem Ris.len {n:Nat} {r:List Nat} (h:Ris n r):r.length<=n:=sY r 0 h.up fun x a=>⟨Nat.zero_le _,h.lt x a⟩
theorem sV {n:Nat} {r:List Nat} (h:Ris n r) (m:n<=24):aC [(.tup (Nd r),.z),(.int (n:Int),.z)]=some (.ok (.bl true,.z),[(.tup (Nd r),.z),(.int (n:Int),.z)]):=by
 have o:=h.len
 obtain ⟨τ',e,a,rfl⟩:=a7 (bnd:=aq 0) (c:=b7) (elt:=aF) (fun τ=>∃ a,τ=[a,some (.int (n:Int),.z)]) (fun i:Nat=>L3.D.int (i:Int)) (fun _=>true) (fun _=>.bl true) (xs:=r) (τ:=[none,some (.int (n:Int),.z)]) ⟨none,rfl⟩ (by
  rintro k d τ ⟨a,rfl⟩
  have:=h.lt k d
  have pl:=uL (i:=(k:Int)) (n:=(n:Int)) (by omega) (by omega)
  exact ⟨[some (.int (k:Int),.z),some (.int (n:Int),.z)],_,rfl,rfl,(fun h=>by cases h),fun _=>⟨.val (.bl true) .z,[some (.int (k:Int),.z),some (.int (n:Int),.z)],(.bl true,.z),_,by unfold aF;(nomatch [pl]),rfl,rfl,_,rfl⟩⟩)
 rw [ET.mpr (fun _ _=>rfl)] at e
 have e1:bf [some (.tup (Nd r),.z),some (.int (n:Int),.z)]=some (.ok (.val (.lst (r.map fun _=>.bl true)) .u),[some (.tup (Nd r),.z),some (.int (n:Int),.z)]):=aM (rs:=[.pl 0]) (ρ1:=[some (.tup (Nd r),.z),some (.int (n:Int),.z)]) (ρ2:=[some (.tup (Nd r),.z),some (.int (n:Int),.z)]) rfl e (by rw [En];omega) rfl
 have a1:=eV (fun _:Nat=>true) r
 rw [List.all_eq_true.mpr (fun _ _=>rfl)] at a1
 obtain ⟨τ2,f,b,rfl⟩:=a7 (bnd:=aq 0) (c:=b7) (elt:=bI) (fun τ=>∃ a,τ=[a,some (.tup (Nd r),.z)]) (fun i:Nat=>L3.D.int (0+(i:Int))) (fun _=>true) (fun _=>.bl true) (xs:=List.range (r.length - 1)) (τ:=[none,some (.tup (Nd r),.z)]) ⟨none,rfl⟩ (by
  rintro k d τ ⟨a,rfl⟩
  rw [List.mem_range] at d
  rw [Int.zero_add]
  have g1:=jB (r:=r) (i:=k) (by omega)
  have g2:aA (.tup (Nd r)) (.int ((k:Int)+1))=some (.int (el r (k+1)),.z):=by
   have:=jB (r:=r) (i:=k+1) (by omega)
   rw [Int.natCast_add] at this
   exact this
  have g:ltI (.int (el r k)) (.int (el r (k+1)))=some (.bl true,.z):=by
   have:=h.at (show k < k+1 by omega) (by omega)
   simp [bL];omega
  exact ⟨[some (.int (k:Int),.z),some (.tup (Nd r),.z)],_,rfl,rfl,(fun h=>by cases h),fun _=>⟨.val (.bl true) .z,[some (.int (k:Int),.z),some (.tup (Nd r),.z)],(.bl true,.z),_,cE (cE (ay rfl) (ay rfl) rfl rfl g1) (cE (ay rfl) (cE (ay rfl) i_c rfl rfl rfl) rfl rfl g2) rfl rfl g,rfl,rfl,_,rfl⟩⟩)
 rw [ET.mpr (fun _ _=>rfl)] at f
 have j:cH [.int (((Nd r).length:Int) - 1)]=some (bh 0 (r.length - 1)):=cu (by first | (simp;done) | (simp;omega)) (by first | (simp;done) | (simp;omega))
 have l:bH [some (.tup (Nd r),.z),some (.int (n:Int),.z)]=some (.ok (.val (.lst ((List.range (r.length - 1)).map fun _=>.bl true)) .u),[some (.tup (Nd r),.z),some (.int (n:Int),.z)]):=aM (rs:=[]) (ρ1:=[some (.tup (Nd r),.z),some (.int (n:Int),.z)]) (ds:=bh 0 (r.length - 1)) (by (repeat' (first | with_reducible apply dU (h3:=j) | infer_instance | eq_refl))) f (by rw [bK];omega) rfl
 have a2:=eV (fun _:Nat=>true) (List.range (r.length - 1))
 rw [List.all_eq_true.mpr (fun _ _=>rfl)] at a2
 apply aG (ρ:=[some (.tup (Nd r),.z),some (.int (n:Int),.z)]) rfl rfl
 ·apply ao (ρ1:=[some (.tup (Nd r),.z),some (.int (n:Int),.z)])
  ·apply cj
   ·apply dW (b:=false)
    ·nofun
    ·rfl
    ·exact bj (cD (aY (av e1 aR) rfl a1) rfl)
   ·rfl
   ·rfl
  ·exact a8 (aY (av l aR) rfl a2) rfl
 ·rfl
theorem cut3 {xs:List L3.D} {a:Nat} (b:a+3<=xs.length):slD (.tup xs) (some (a:Int)) (some ((a:Int)+3))=some (.tup ((xs.drop a).take 3),.z):=by
 have e:cK xs (some (a:Int)) (some ((a:Int)+3))=(xs.drop a).take 3:=by
  unfold cK
  rw [show ((a:Int)+3)=((a+3:Nat):Int) by omega,HT.sIx_nat,HT.sIx_nat]
  by_cases h:a+3<=xs.length
  ·rw [show min a xs.length=a by omega,show min (a+3) xs.length=a+3 by omega,show a+3 - a=3 by omega]
  ·omega
 show some ((.tup (cK xs (some (a:Int)) (some ((a:Int)+3))),.z):L3.D × Fl)=_
 rw [e]
theorem vW {r:List Nat} {a:Nat} (h:a+3<=r.length):((Nd r).drop a).take 3=[.int (el r a),.int (el r (a+1)),.int (el r (a+2))]:=by
 have e:∀ i,i < r.length->(Nd r)[i]?=some (.int (el r i)):=fun i hi=>zf hi
 have l:(Nd r).length=r.length:=by simp
 apply List.ext_getElem?
 intro i
 rw [List.getElem?_take,List.getElem?_drop]
 match i with
 | 0=>simpa using e a (by omega)
 | 1=>simpa using e (a+1) (by omega)
 | 2=>simpa using e (a+2) (by omega)
 | i+3=>simp;omega
def rb (s:Sg) (row:List Nat) (way:Int):Bool:=(List.range (row.length - 2)).all fun a=>decide (s.f (el row a) (el row (a+1)) (el row (a+2))=way)
theorem Ci {s:Sg} {T:List (List Key × L3.D)} (j:qI s T) {row:List Nat} (h:Ris s.length row) (n:s.length<=24) {way:Int}:eK [(.dt T,.u),(.tup (Nd row),.z),(.int way,.z)]=some (.ok (.bl (rb s row way),.z),[(.dt T,.u),(.tup (Nd row),.z),(.int way,.z)]):=by
 have o:=h.len
 have l:(Nd row).length=row.length:=by simp
 obtain ⟨τ',e,a,rfl⟩:=a7 (bnd:=aq 0) (c:=b7) (elt:=dN) (fun τ=>∃ a,τ=[a,some (.int way,.z),some (.dt T,.u),some (.tup (Nd row),.z)]) (fun i:Nat=>L3.D.int (0+(i:Int))) (fun _=>true) (fun a=>.bl (decide (s.f (el row a) (el row (a+1)) (el row (a+2))=way))) (xs:=List.range (row.length - 2)) (τ:=[none,some (.int way,.z),some (.dt T,.u),some (.tup (Nd row),.z)]) ⟨none,rfl⟩ (by
  rintro k d τ ⟨a,rfl⟩
  rw [List.mem_range] at d
  rw [Int.zero_add]
  have c:=cut3 (xs:=Nd row) (a:=k) (by omega)
  rw [vW (by omega)] at c
  have g:=sub3 (j (el row k) (el row (k+1)) (el row (k+2)) (h.at (by omega) (by omega)) (h.at (by omega) (by omega)) (h.lt _ (lH (by omega))))
  have q:eqX (.int (s.f (el row k) (el row (k+1)) (el row (k+2)))) (.int way)=some (.bl (decide (s.f (el row k) (el row (k+1)) (el row (k+2))=way)),.z):=rfl
  refine ⟨[some (.int (k:Int),.z),some (.int way,.z),some (.dt T,.u),some (.tup (Nd row),.z)],_,rfl,rfl,(fun h=>by cases h),fun _=>⟨.val (.bl _) .z,[some (.int (k:Int),.z),some (.int way,.z),some (.dt T,.u),some (.tup (Nd row),.z)],(.bl _,.z),_,?_,rfl,rfl,_,rfl⟩⟩
  unfold dN
  (exists c,g,q))
 rw [ET.mpr (fun _ _=>rfl)] at e
 have b:cH [.int (((Nd row).length:Int) - 2)]=some (bh 0 (row.length - 2)):=cu (by omega) (by omega)
 have m:gv [some (.dt T,.u),some (.tup (Nd row),.z),some (.int way,.z)]=some (.ok (.val (.lst ((List.range (row.length - 2)).map fun a=>.bl (decide (s.f (el row a) (el row (a+1)) (el row (a+2))=way)))) .u),[some (.dt T,.u),some (.tup (Nd row),.z),some (.int way,.z)]):=aM (rs:=[]) (ρ1:=[some (.dt T,.u),some (.tup (Nd row),.z),some (.int way,.z)]) (ds:=bh 0 (row.length - 2)) (by (repeat' (first | with_reducible apply dU (h3:=b) | infer_instance | eq_refl))) e (by rw [bK];omega) rfl
 have al:=eV (fun a=>decide (s.f (el row a) (el row (a+1)) (el row (a+2))=way)) (List.range (row.length - 2))
 apply aG (ρ:=[some (.dt T,.u),some (.tup (Nd row),.z),some (.int way,.z)]) rfl rfl
 ·exact a8 (aY (av m aR) rfl al) rfl
 ·rfl
def sd (s:Sg) (a:Nat) (b:List Nat) (z:Nat) (way:Int):List Nat:=[a] ++ b.filter (fun p=>decide (s.f a p z=way)) ++ [z]
theorem ua (a z:Nat) (b:List Nat):slD (.tup (Nd ([a] ++ b ++ [z]))) (some 1) (some (-1))=some (.tup (Nd b),.z):=by
 have e:cK (Nd ([a] ++ b ++ [z])) (some 1) (some (-1))=Nd b:=by
  unfold cK
  have l:(Nd ([a] ++ b ++ [z])).length=b.length+2:=by simp
  rw [l]
  have h1:HT.sIx (b.length+2) 0 (some 1)=1:=by
   have:=HT.sIx_nat (b.length+2) 0 1
   rw [show min 1 (b.length+2)=1 by omega] at this
   exact this
  have h2:HT.sIx (b.length+2) (b.length+2) (some (-1))=b.length+1:=by
   unfold HT.sIx
   simp
   omega
  rw [h1,h2]
  simp
 show some ((.tup (cK (Nd ([a] ++ b ++ [z])) (some 1) (some (-1))),.z):L3.D × Fl)=_
 rw [e]
theorem xQ {n a z:Nat} {b:List Nat} (h:Ris n ([a] ++ b ++ [z])):z < n/\a < z/\∀ x ∈ b,a < x/\x < z:=by
 have p:=h.up
 rw [List.pairwise_append] at p
 obtain ⟨e,_,f⟩:=p
 have d:∀ x ∈ [a] ++ b,x < z:=fun x c=>f x c z (by simp)
 rw [List.singleton_append,List.pairwise_cons] at e
 exact ⟨h.lt z (by simp),d a (by simp),fun x c=>⟨e.1 x c,d x (by simp [c])⟩⟩
theorem qZ {s:Sg} {a z:Nat} {b:List Nat} {way:Int} (h:Ris s.length ([a] ++ b ++ [z])):Ris s.length (sd s a b z way) :=
 h.sub (((List.Sublist.refl [a]).append List.filter_sublist).append (List.Sublist.refl [z]))
theorem DT (a b:List Nat):Nd (a ++ b)=Nd a ++ Nd b:=by simp
theorem wE {s:Sg} {T:List (List Key × L3.D)} (w:qI s T) {a z:Nat} {b:List Nat} (h:Ris s.length ([a] ++ b ++ [z])) (I:s.length<=24) {way:Int}:fW [(.dt T,.u),(.tup (Nd ([a] ++ b ++ [z])),.z),(.int way,.z)]=some (.ok (.tup (Nd (sd s a b z way)),.z),[(.dt T,.u),(.tup (Nd ([a] ++ b ++ [z])),.z),(.int way,.z)]):=by
 obtain ⟨hz,o,hm⟩:=xQ h
 have G:=h.len
 have y:b.length<=24:=by simp at G;omega
 have fl:(b.filter fun p=>decide (s.f a p z=way)).length<=24:=ES (List.length_filter_le _ _) y
 have r:=ua a z b
 have A:aA (.tup (Nd ([a] ++ b ++ [z]))) (.int 0)=some (.int a,.z):=dg (iU (i:=0) (by simp))
 have g1:aA (.tup (Nd ([a] ++ b ++ [z]))) (.int (-1))=some (.int z,.z):=dg (kR (by simp))
 obtain ⟨τ',e,v,rfl⟩:=a7 (bnd:=aq 0) (c:=cR) (elt:=eP) (fun τ=>∃ v,τ=[v,some (.int way,.z),some (.dt T,.u),some (.int a,.z),some (.int z,.z)]) (fun i:Nat=>L3.D.int (i:Int)) (fun p=>decide (s.f a p z=way)) (fun i:Nat=>L3.D.int (i:Int)) (xs:=b) (τ:=[none,some (.int way,.z),some (.dt T,.u),some (.int a,.z),some (.int z,.z)]) ⟨none,rfl⟩ (by
  rintro x k τ ⟨v,rfl⟩
  have g:=sub3 (w a x z (hm x k).1 (hm x k).2 hz)
  have q:eqX (.int (trn s a x z)) (.int way)=some (.bl (decide (s.f a x z=way)),.z):=rfl
  refine ⟨[some (.int (x:Int),.z),some (.int way,.z),some (.dt T,.u),some (.int a,.z),some (.int z,.z)],[some (.int (x:Int),.z),some (.int way,.z),some (.dt T,.u),some (.int a,.z),some (.int z,.z)],rfl,?_,fun _=>⟨_,rfl⟩,fun _=>⟨_,_,(.int (x:Int),.z),[some (.int (x:Int),.z),some (.int way,.z),some (.dt T,.u),some (.int a,.z),some (.int z,.z)],ay rfl,rfl,rfl,_,rfl⟩⟩
  unfold cR
  (exists g,q))
 have d:(Nd b).length < 16777216:=by rw [En];omega
 have j:Nd (sd s a b z way)=([.int a] ++ Nd (b.filter fun p=>decide (s.f a p z=way))) ++ [.int z]:=by simp [sd]
 rw [j]
 generalize J:b.filter (fun p=>decide (s.f a p z=way))=F at *
 have l:aO (.tup [.int a]) (.tup (Nd F))=some (.tup ([.int a] ++ Nd F),.z):=cU (by simp;omega)
 have t:aO (.tup ([.int a] ++ Nd F)) (.tup [.int z])=some (.tup (([.int a] ++ Nd F) ++ [.int z]),.z):=cU (by simp;omega)
 have C:lN [.lst (Nd F)]=some (.tup (Nd F),.z):=rfl
 generalize H:L3.D.tup (Nd ([a] ++ b ++ [z]))=R at *
 generalize B:Nd b=M at *
 have m:bQ (aq 0) cR eP M [none,some (.int way,.z),some (.dt T,.u),some (.int a,.z),some (.int z,.z)]=some (.ok (Nd F),[v,some (.int way,.z),some (.dt T,.u),some (.int a,.z),some (.int z,.z)]):=by rw [<- B];exact e
 have E:iK [some (.dt T,.u),some (R,.z),some (.int way,.z),some (.int a,.z),some (.int z,.z)]=some (.ok (.val (.lst (Nd F)) .u),[some (.dt T,.u),some (R,.z),some (.int way,.z),some (.int a,.z),some (.int z,.z)]):=aM (rs:=[.val (.tup M) .z]) (ρ1:=[some (.dt T,.u),some (R,.z),some (.int way,.z),some (.int a,.z),some (.int z,.z)]) (by (exists r)) m d rfl
 apply aG (ρ:=[some (.dt T,.u),some (R,.z),some (.int way,.z),none,none]) (ρ1:=[some (.dt T,.u),some (R,.z),some (.int way,.z),some (.int a,.z),some (.int z,.z)]) rfl rfl
 ·unfold ll
  apply ao (ρ1:=[some (.dt T,.u),some (R,.z),some (.int way,.z),some (.int a,.z),none])
  ·exists A
  apply ao (ρ1:=[some (.dt T,.u),some (R,.z),some (.int way,.z),some (.int a,.z),some (.int z,.z)])
  ·exists g1
  ·have d1:(bp (aa (ac 3) af)) [some (.dt T,.u),some (R,.z),some (.int way,.z),some (.int a,.z),some (.int z,.z)]=some (.ok (.val (.tup [.int a]) .z),[some (.dt T,.u),some (R,.z),some (.int way,.z),some (.int a,.z),some (.int z,.z)]):=by (nofun)
   have n:(bp (aa (ac 4) af)) [some (.dt T,.u),some (R,.z),some (.int way,.z),some (.int a,.z),some (.int z,.z)]=some (.ok (.val (.tup [.int z]) .z),[some (.dt T,.u),some (R,.z),some (.int way,.z),some (.int a,.z),some (.int z,.z)]):=by (nofun)
   exact a8 (cE (cE d1 (aY (av E aR) rfl C) rfl rfl l) n rfl rfl t) rfl
 ·rfl
def k9 (s:Sg) (a:Nat) (b:List Nat) (z:Nat):Bool:=rb s (sd s a b z 1) 1 && rb s (sd s a b z (-1)) (-1)
theorem wG {s:Sg} {T:List (List Key × L3.D)} (j:qI s T) {a z:Nat} {d:List Nat} (h:Ris s.length ([a] ++ d ++ [z])) (h3:d ≠ []) (g:s.length<=24):bV [(.dt T,.u),(.tup (Nd ([a] ++ d ++ [z])),.z),(.int (s.length:Int),.z)]=some (.ok (.bl (k9 s a d z),.z),[(.dt T,.u),(.tup (Nd ([a] ++ d ++ [z])),.z),(.int (s.length:Int),.z)]):=by
 have m:=sV h g
 have n:=h.len
 have f:∀ way:Int,cb [some (.int way,.z),some (.dt T,.u),some (.tup (Nd ([a] ++ d ++ [z])),.z)]=some (.ok (.val (.bl (rb s (sd s a d z way) way)) .z),[some (.int way,.z),some (.dt T,.u),some (.tup (Nd ([a] ++ d ++ [z])),.z)]):=fun way=>by
  have e1:=wE (way:=way) j h g
  have i:=Ci (way:=way) j (qZ (way:=way) h) g
  generalize L3.D.tup (Nd ([a] ++ d ++ [z]))=R at *
  generalize L3.D.tup (Nd (sd s a d z way))=R2 at *
  unfold cb
  nomatch [i,e1]
 have k:ltI (.int ((Nd ([a] ++ d ++ [z])).length:Int)) (.int 3)=some (.bl false,.z):=by
  have:0 < d.length:=List.length_pos_iff.mpr h3
  simp [bL];omega
 have ln:bZ [.tup (Nd ([a] ++ d ++ [z]))]=some (.int ((Nd ([a] ++ d ++ [z])).length:Int),.z):=rfl
 generalize ((Nd ([a] ++ d ++ [z])).length:Int)=N at *
 generalize L3.D.tup (Nd ([a] ++ d ++ [z]))=R at *
 obtain ⟨τ',e,v,rfl⟩:=a7 (bnd:=aq 0) (c:=b7) (elt:=cb) (fun τ=>∃ v,τ=[v,some (.dt T,.u),some (R,.z)]) L3.D.int (fun _=>true) (fun way=>.bl (rb s (sd s a d z way) way)) (xs:=[1,-1]) (τ:=[none,some (.dt T,.u),some (R,.z)]) ⟨none,rfl⟩ (by
  rintro way hw τ ⟨v,rfl⟩
  exact ⟨[some (.int way,.z),some (.dt T,.u),some (R,.z)],_,rfl,rfl,(fun h=>by cases h),fun _=>⟨_,[some (.int way,.z),some (.dt T,.u),some (R,.z)],(.bl _,.z),_,f way,rfl,rfl,_,rfl⟩⟩)
 rw [ET.mpr (fun _ _=>rfl)] at e
 have i:gb [some (.dt T,.u),some (R,.z),some (.int (s.length:Int),.z)]=some (.ok (.val (.lst ([1,-1].map fun way=>.bl (rb s (sd s a d z way) way))) .u),[some (.dt T,.u),some (R,.z),some (.int (s.length:Int),.z)]):=aM (rs:=[.val (.tup [.int 1,.int (-1)]) .z]) (ρ1:=[some (.dt T,.u),some (R,.z),some (.int (s.length:Int),.z)]) (by (nofun)) e (by decide) rfl
 have al:=eV (fun way=>rb s (sd s a d z way) way) [1,-1]
 have l:[1,-1].all (fun way=>rb s (sd s a d z way) way)=k9 s a d z:=by simp [k9]
 rw [l] at al
 generalize L3.D.int (s.length:Int)=LN at *
 apply aG (ρ:=[some (.dt T,.u),some (R,.z),some (LN,.z)]) rfl rfl
 ·apply ao (ρ1:=[some (.dt T,.u),some (R,.z),some (LN,.z)])
  ·refine cj (b:=false) (dW (b:=false) (ρ1:=[some (.dt T,.u),some (R,.z),some (LN,.z)]) ?_ rfl ?_) rfl rfl
   ·exact bj (cD (ak m (av (ay rfl) (av (ay rfl) aR)) rfl rfl rfl) rfl)
   ·exists ln,k
  ·exact a8 (aY (av i aR) rfl al) rfl
 ·rfl
theorem fl_nx {bnd:L3.D->Sto->Option Sto} {b:SM} {d:L3.D} {ds:List L3.D} {ρ ρ1 ρ2:Sto} {x:Option (Except L3.D Flw × Sto)} (h1:bnd d ρ=some ρ1) (h2:b ρ1=some (.ok .nx,ρ2)) (h3:cI bnd b ds ρ2=x):cI bnd b (d :: ds) ρ=x:=by
 simp only [cI,h1,ae,h2,h3]
theorem fl_rt {bnd:L3.D->Sto->Option Sto} {b:SM} {d:L3.D} {ds:List L3.D} {ρ ρ1 ρ2:Sto} {y:L3.D} {g:Fl} (h1:bnd d ρ=some ρ1) (h2:b ρ1=some (.ok (.rt y g),ρ2)):cI bnd b (d :: ds) ρ=some (.ok (.rt y g),ρ2):=by
 simp only [cI,h1,ae,h2];rfl
theorem xj {α:Type} (f:α->Int):∀ l:List α,∃ qs,d6 (l.map fun x=>L3.D.int (f x))=some qs/\PyData.canLayAll0 qs=true/\PyData.depthAll qs<=10/\qs.length=l.length
 | []=>⟨[],rfl,rfl,by decide,rfl⟩
 | x :: l=>by
  obtain ⟨qs,e1,b,c,a⟩:=xj f l
  refine ⟨.int (f x) :: qs,?_,?_,?_,?_⟩
  ·show (match pyD (.int (f x)),d6 (l.map fun x=>L3.D.int (f x)) with | some p,some ps=>some (p :: ps) | _,_=>none)=_
   rw [e1];rfl
  ·simp [PyData.canLayAll0,PyData.canLay0,b]
  ·simp [PyData.depthAll,PyData.depth];omega
  ·simp [a]
theorem vt {d:L3.D} {p:PyData} (b:eqS d d=none) (h:pyD d=some p) (a:p.canLay0=true) (hd:p.depth<=30):eqX d d=some (.bl true,.z):=by
 have h1:eqA d d=some true:=by
  unfold eqA
  rw [b]
  exact yI h a hd
 show (eqA d d).map _=_
 rw [h1];rfl
theorem nP:∀ (l ns:List Int),l.Nodup->(∀ x ∈ l,x ∉ ns)->l.foldl met ns=ns ++ l
 | [],ns,_,_=>by simp
 | x :: l,ns,hd,hx=>by
  rw [List.nodup_cons] at hd
  rw [List.foldl_cons,show met ns x=ns ++ [x] from if_neg (hx x Ec),nP l (ns ++ [x]) hd.2 fun y a h=>?_]
  ·simp
  ·rcases El.mp h with h | h
   ·exact hx y (Ed _ a) h
   ·exact hd.1 (EJ.mp h ▸ a)
theorem ss_is {n:Nat} {r:List Nat} (h:Ris n r) (d:n<=24):ssD [.tup (Nd r)]=some (.lst (Nd r),.u):=by
 have c:=h.len
 have b:bv (Nd r)=some (r.map fun x:Nat=>(x:Int)):=by
  clear h c
  induction r with
  | nil=>rfl
  | cons x r ih=>simp [bv,ih]
 have up:(r.map fun x:Nat=>(x:Int)).Pairwise (· < ·):=List.pairwise_map.mpr (h.up.imp fun a=>by omega)
 have m:=nP (r.map fun x:Nat=>(x:Int)) [] (up.imp fun a=>by omega) (fun _ _=>List.not_mem_nil)
 rw [List.nil_append] at m
 have st:srt (r.map fun x:Nat=>(x:Int))=r.map fun x:Nat=>(x:Int):=d9 (dJ _) (dI _) (up.imp fun a=>by omega)
 show (bv (Nd r)).bind _=_
 rw [b]
 show (if (r.map fun x:Nat=>(x:Int)).length < 64 then some ((.lst ((srt ((r.map fun x:Nat=>(x:Int)).foldl met [])).map .int),.u):L3.D × Fl) else none)=_
 rw [if_pos (by rw [En];omega),m,st,EV]
 rfl
theorem AW (r:List Nat):eqX (.lst (Nd r)) (.lst (Nd r))=some (.bl true,.z):=by
 obtain ⟨qs,e1,a,d,c⟩:=xj (fun i:Nat=>(i:Int)) r
 have b:pyD (.lst (Nd r))=some (.list qs):=by unfold pyD;rw [e1];rfl
 exact vt rfl b (by simp [PyData.canLay0,a]) (by simp [PyData.depth];omega)
theorem qd {α:Type} {bnd:L3.D->Sto->Option Sto} {b:SM} (D:α->L3.D) (t:α->Bool) (P:Sto->Prop) {r:L3.D} {f:Fl}:∀ {xs:List α} {ρ:Sto},P ρ->(∀ x ∈ xs,∀ ρ,P ρ->∃ ρ1 ρ2,bnd (D x) ρ=some ρ1/\b ρ1=some (.ok (if t x=true then .nx else .rt r f),ρ2)/\P ρ2)->∃ ρ',cI bnd b (xs.map D) ρ=some (.ok (if xs.all t=true then .nx else .rt r f),ρ')/\P ρ'
 | [],ρ,h0,_=>⟨ρ,rfl,h0⟩
 | x :: xs,ρ,h0,hs=>by
  obtain ⟨ρ1,ρ2,e1,a,h1⟩:=hs x Ec ρ h0
  rw [Ey,List.all_cons]
  cases c:t x with
  | true =>
   rw [c] at a
   obtain ⟨ρ',e,h3⟩:=qd D t P (xs:=xs) (ρ:=ρ2) h1 fun y d=>hs y (Ed _ d)
   exact ⟨ρ',fl_nx e1 a (by rw [Bool.true_and];exact e),h3⟩
  | false =>
   rw [c] at a
   exact ⟨ρ2,fl_rt e1 a,h1⟩
theorem q9 (i:Int):fj [(.int i,.z)]=some (.ok (.bl true,.z),[(.int i,.z)]):=by kernel_rfl
theorem k4 {n:Nat} {r:List Nat} (h:Ris n r) (l:n<=24):bm [(.tup (Nd r),.z),(.int (n:Int),.z)]=some (.ok (.bl true,.z),[(.tup (Nd r),.z),(.int (n:Int),.z)]):=by
 have o:=h.len
 obtain ⟨τ',e,a,rfl⟩:=a7 (bnd:=aq 0) (c:=b7) (elt:=bu) (fun τ=>∃ a,τ=[a]) (fun i:Nat=>L3.D.int (i:Int)) (fun _=>true) (fun _=>.bl true) (xs:=r) (τ:=[none]) ⟨none,rfl⟩ (by
  rintro k g τ ⟨a,rfl⟩
  have w:=q9 (k:Int)
  exact ⟨[some (.int (k:Int),.z)],_,rfl,rfl,(fun h=>by cases h),fun _=>⟨.val (.bl true) .z,[some (.int (k:Int),.z)],(.bl true,.z),_,by unfold bu;(nomatch [w]),rfl,rfl,_,rfl⟩⟩)
 rw [ET.mpr (fun _ _=>rfl)] at e
 have a1:=eV (fun _:Nat=>true) r
 rw [List.all_eq_true.mpr (fun _ _=>rfl)] at a1
 have e1:cS [some (.tup (Nd r),.z),some (.int (n:Int),.z)]=some (.ok (.val (.lst (r.map fun _=>.bl true)) .u),[some (.tup (Nd r),.z),some (.int (n:Int),.z)]):=aM (rs:=[.pl 0]) (ρ1:=[some (.tup (Nd r),.z),some (.int (n:Int),.z)]) (ρ2:=[some (.tup (Nd r),.z),some (.int (n:Int),.z)]) rfl e (by rw [En];omega) rfl
 obtain ⟨τ2,f,v,rfl⟩:=a7 (bnd:=aq 0) (c:=b8) (elt:=eR) (fun τ=>∃ a,τ=[a,some (.int (n:Int),.z)]) (fun i:Nat=>L3.D.int (i:Int)) (fun _=>false) (fun _=>.non) (xs:=r) (τ:=[none,some (.int (n:Int),.z)]) ⟨none,rfl⟩ (by
  rintro k g τ ⟨a,rfl⟩
  have lt:=h.lt k g
  have j:ltI (.int (k:Int)) (.int 0)=some (.bl false,.z):=by simp [bL]
  have c1:geI (.int (k:Int)) (.int (n:Int))=some (.bl false,.z):=by simp [bL];omega
  refine ⟨[some (.int (k:Int),.z),some (.int (n:Int),.z)],[some (.int (k:Int),.z),some (.int (n:Int),.z)],rfl,?_,fun _=>⟨_,rfl⟩,fun h=>by cases h⟩
  unfold b8
  refine dW (b:=false) (ρ1:=[some (.int (k:Int),.z),some (.int (n:Int),.z)]) ?_ rfl ?_
  ·exists j
  ·(exists c1))
 rw [List.filter_eq_nil_iff.mpr (fun _ _=>by decide)] at f
 have m:eQ [some (.tup (Nd r),.z),some (.int (n:Int),.z)]=some (.ok (.val (.lst []) .u),[some (.tup (Nd r),.z),some (.int (n:Int),.z)]):=aM (rs:=[.pl 0]) (ρ1:=[some (.tup (Nd r),.z),some (.int (n:Int),.z)]) (ρ2:=[some (.tup (Nd r),.z),some (.int (n:Int),.z)]) rfl f (by rw [En];omega) rfl
 have ss:=ss_is h l
 have li:u9 [.tup (Nd r)]=some (.lst (Nd r),.u):=rfl
 have eq:=AW r
 have z:neX (.lst []) (.lst [])=some (.bl false,.z):=by kernel_rfl
 have d:fR "tuple" (.tup (Nd r))=some (.bl true,.z):=rfl
 generalize L3.D.lst (Nd r)=RL at *
 generalize L3.D.tup (Nd r)=R at *
 generalize L3.D.int (n:Int)=N at *
 apply aG (ρ:=[some (R,.z),some (N,.z)]) (ρ1:=[some (R,.z),some (N,.z)]) rfl rfl
 ·unfold dO
  apply ao (ρ1:=[some (R,.z),some (N,.z)])
  ·refine cj (b:=false) (dW (b:=false) (ρ1:=[some (R,.z),some (N,.z)]) ?_ rfl ?_) rfl rfl
   ·exact bj (cD (r0 (ay rfl) rfl d) rfl)
   ·exact bj (cD (aY (av e1 aR) rfl a1) rfl)
  apply ao (ρ1:=[some (R,.z),some (N,.z)])
  ·exact cj (b:=false) (cD (cE m rfl rfl rfl z) rfl) rfl rfl
  ·apply a8
   ·exists ss,li,eq
   ·rfl
 ·rfl
theorem wC {ps:List Pt} (g:GoodSh ps) {i j k:Nat} (h1:i < ps.length) (h2:j < ps.length) (h3:k < ps.length):jY [(Shd ps,.z),(.int i,.z),(.int j,.z),(.int k,.z)]=some (.ok (.bl (decide (a9 (bC ps i) (bC ps j) (bC ps k) > 0)),.z),[(Shd ps,.z),(.int i,.z),(.int j,.z),(.int k,.z)]):=by
 have s:=Small.sub (fJ g.small h1) (fJ g.small h2)
 have b:=pc (bC ps i) (bC ps j) (bC ps k) s.1 s.2
 have a1:=jA h1
 have a2:=jA h2
 have a:=jA h3
 generalize bC ps i=p at *
 generalize bC ps j=q at *
 generalize bC ps k=r at *
 have z:gtI (.int (a9 p q r)) (.int 0)=some (.bl (decide (a9 p q r > 0)),.z):=rfl
 generalize Shd ps=H at *
 generalize decide (a9 p q r > 0)=B at *
 generalize a9 p q r=M at *
 generalize Pd p=p at *
 generalize Pd q=q at *
 generalize Pd r=r at *
 apply aG (ρ:=[some (H,.z),some (.int i,.z),some (.int j,.z),some (.int k,.z)]) (ρ1:=[some (H,.z),some (.int i,.z),some (.int j,.z),some (.int k,.z)]) rfl rfl
 ·apply a8
  ·nomatch [b],[a1,a2,a,z]
  ·rfl
 ·rfl
def way (b:Bool):Int:=if b then 1 else -1
theorem BE (ps:List Pt) (i j k:Nat) (b:Bool):decide (decide (a9 (bC ps i) (bC ps j) (bC ps k) > 0)=b)=decide ((sgn ps).f i j k=way b):=by
 show _=decide ((if 0 < a9 (bC ps i) (bC ps j) (bC ps k) then (1:Int) else -1)=way b)
 by_cases h:0 < a9 (bC ps i) (bC ps j) (bC ps k)
 ·rw [if_pos h,Ez (show a9 (bC ps i) (bC ps j) (bC ps k) > 0 from h)]
  cases b <;> rfl
 ·rw [if_neg h,EA (show ¬ a9 (bC ps i) (bC ps j) (bC ps k) > 0 from h)]
  cases b <;> rfl
theorem iS (ps:List Pt):bZ [Shd ps]=some (.int (ps.length:Int),.z):=by simp [kA,c1]
theorem sG {ps:List Pt} (g:GoodSh ps) {row:List Nat} (h:Ris ps.length row) {k:Nat} (c:k+2 < row.length) {b:Bool}:cx [some (Shd ps,.z),some (.tup (Nd row),.z),some (.bl b,.z),some (.int (k:Int),.z)]=some (.ok (if decide ((sgn ps).f (el row k) (el row (k+1)) (el row (k+2))=way b)=true then .nx else .rt (.bl false) .z),[some (Shd ps,.z),some (.tup (Nd row),.z),some (.bl b,.z),some (.int (k:Int),.z)]):=by
 have f:=wC g (h.lt _ (lH (L:=row) (i:=k) (by omega))) (h.lt _ (lH (L:=row) (i:=k+1) (by omega))) (h.lt _ (lH (L:=row) (i:=k+2) (by omega)))
 have s0:=jB (r:=row) (i:=k) (by omega)
 have s1:aA (.tup (Nd row)) (.int ((k:Int)+1))=some (.int (el row (k+1)),.z):=jB (r:=row) (i:=k+1) (by omega)
 have s2:aA (.tup (Nd row)) (.int ((k:Int)+2))=some (.int (el row (k+2)),.z):=jB (r:=row) (i:=k+2) (by omega)
 have a:=BE ps (el row k) (el row (k+1)) (el row (k+2)) b
 rw [<- a]
 generalize decide (a9 (bC ps (el row k)) (bC ps (el row (k+1))) (bC ps (el row (k+2))) > 0)=u at *
 have ne:neX (.bl u) (.bl b)=some (.bl (!decide (u=b)),.z):=rfl
 generalize Shd ps=H at *
 generalize L3.D.tup (Nd row)=R at *
 unfold cx
 cases hd:decide (u=b) with
 | true =>
  rw [hd] at ne
  refine cj (b:=false) ?_ rfl rfl
  nomatch [f],[s0,s1,s2,ne]
 | false =>
  rw [hd] at ne
  refine dn (b:=true) ?_ rfl (a8 i_c rfl)
  nomatch [f],[s0,s1,s2,ne]
theorem k6 {ps:List Pt} (g:GoodSh ps) {row:List Nat} (h:Ris ps.length row) (h2:2<=row.length) {b:Bool}:ft [(Shd ps,.z),(.tup (Nd row),.z),(.bl b,.z)]=some (.ok (.bl (rb (sgn ps) row (way b)),.z),[(Shd ps,.z),(.tup (Nd row),.z),(.bl b,.z)]):=by
 have n:=g.most
 have o:=h.len
 have m:=k4 h (by omega)
 have ln:=iS ps
 have a:bZ [.tup (Nd row)]=some (.int (row.length:Int),.z):=by simp [kA,c1]
 have c2:ltI (.int (row.length:Int)) (.int 2)=some (.bl false,.z):=by simp [bL];omega
 have d:cH [.int ((row.length:Int) - 2)]=some (bh 0 (row.length - 2)):=cu (by omega) (by omega)
 obtain ⟨ρ',e,v,rfl⟩:=qd (bnd:=aq 3) (b:=cx) (fun i:Nat=>L3.D.int (0+(i:Int))) (fun k=>decide ((sgn ps).f (el row k) (el row (k+1)) (el row (k+2))=way b)) (fun ρ=>∃ v,ρ=[some (Shd ps,.z),some (.tup (Nd row),.z),some (.bl b,.z),v]) (r:=.bl false) (f:=.z) (xs:=List.range (row.length - 2)) (ρ:=[some (Shd ps,.z),some (.tup (Nd row),.z),some (.bl b,.z),none]) ⟨none,rfl⟩ (by
  rintro k l ρ ⟨v,rfl⟩
  rw [List.mem_range] at l
  rw [Int.zero_add]
  exact ⟨_,_,rfl,sG g h (k:=k) (by omega),_,rfl⟩)
 have c:(List.range (row.length - 2)).all (fun k=>decide ((sgn ps).f (el row k) (el row (k+1)) (el row (k+2))=way b))=rb (sgn ps) row (way b):=rfl
 rw [c] at e
 have j:cI (aq 3) cx (bh 0 (row.length - 2)) [some (Shd ps,.z),some (.tup (Nd row),.z),some (.bl b,.z),none]=some (.ok (if rb (sgn ps) row (way b)=true then .nx else .rt (.bl false) .z),[some (Shd ps,.z),some (.tup (Nd row),.z),some (.bl b,.z),v]):=e
 generalize rb (sgn ps) row (way b)=B at *
 generalize Shd ps=H at *
 generalize L3.D.tup (Nd row)=R at *
 generalize L3.D.int (ps.length:Int)=N at *
 generalize (row.length:Int)=M at *
 apply aG (ρ:=[some (H,.z),some (R,.z),some (.bl b,.z),none]) (ρ1:=[some (H,.z),some (R,.z),some (.bl b,.z),v]) rfl rfl
 ·unfold mN
  apply ao (ρ1:=[some (H,.z),some (R,.z),some (.bl b,.z),none])
  ·refine cj (b:=false) (dW (b:=false) (ρ1:=[some (H,.z),some (R,.z),some (.bl b,.z),none]) ?_ rfl ?_) rfl rfl
   ·exact bj (cD (ak m (av (ay rfl) (av (aY (av (ay rfl) aR) rfl ln) aR)) rfl rfl rfl) rfl)
   ·exists a,c2
  cases B with
  | true =>
   apply ao (ρ1:=[some (H,.z),some (R,.z),some (.bl b,.z),v])
   ·apply jq
    ·(repeat' (first | with_reducible apply dU (h3:=d) | infer_instance | exact a | eq_refl))
    ·rfl
    ·exact j
   ·exact a8 i_c rfl
  | false =>
   apply cO
   apply jq
   ·(repeat' (first | with_reducible apply dU (h3:=d) | infer_instance | exact a | eq_refl))
   ·rfl
   ·exact j
 ·rfl
theorem mq {ps:List Pt} (g:GoodSh ps) {a z:Nat} {d:List Nat} (h:Ris ps.length ([a] ++ d ++ [z])) {b:Bool}:dX [(Shd ps,.z),(.tup (Nd ([a] ++ d ++ [z])),.z),(.bl b,.z)]=some (.ok (.tup (Nd (sd (sgn ps) a d z (way b))),.z),[(Shd ps,.z),(.tup (Nd ([a] ++ d ++ [z])),.z),(.bl b,.z)]):=by
 obtain ⟨hz,t,hm⟩:=xQ h
 have J:=g.most
 have G:=h.len
 have B:d.length<=24:=by simp at G;omega
 have fl:(d.filter fun p=>decide ((sgn ps).f a p z=way b)).length<=24:=ES (List.length_filter_le _ _) B
 have y:=ua a z d
 have n:aA (.tup (Nd ([a] ++ d ++ [z]))) (.int 0)=some (.int a,.z):=dg (iU (i:=0) (by simp))
 have g1:aA (.tup (Nd ([a] ++ d ++ [z]))) (.int (-1))=some (.int z,.z):=dg (kR (by simp))
 generalize I:L3.D.tup (Nd ([a] ++ d ++ [z]))=R at *
 obtain ⟨τ',e,v,rfl⟩:=a7 (bnd:=aq 0) (c:=eE) (elt:=gz) (fun τ=>∃ v,τ=[v,some (.bl b,.z),some (Shd ps,.z),some (R,.z)]) (fun i:Nat=>L3.D.int (i:Int)) (fun p=>decide ((sgn ps).f a p z=way b)) (fun i:Nat=>L3.D.int (i:Int)) (xs:=d) (τ:=[none,some (.bl b,.z),some (Shd ps,.z),some (R,.z)]) ⟨none,rfl⟩ (by
  rintro x o τ ⟨v,rfl⟩
  have f:=wC g (i:=a) (j:=x) (k:=z) (by omega) (by have:=(hm x o).2;omega) hz
  have w:=BE ps a x z b
  rw [<- w]
  generalize decide (a9 (bC ps a) (bC ps x) (bC ps z) > 0)=u at *
  have eq:eqX (.bl u) (.bl b)=some (.bl (decide (u=b)),.z):=rfl
  generalize Shd ps=H at *
  refine ⟨[some (.int (x:Int),.z),some (.bl b,.z),some (H,.z),some (R,.z)],[some (.int (x:Int),.z),some (.bl b,.z),some (H,.z),some (R,.z)],rfl,?_,fun _=>⟨_,rfl⟩,fun _=>⟨_,_,(.int (x:Int),.z),[some (.int (x:Int),.z),some (.bl b,.z),some (H,.z),some (R,.z)],ay rfl,rfl,rfl,_,rfl⟩⟩
  unfold eE
  (nomatch [f],[n,g1,eq]))
 have l:(Nd d).length < 16777216:=by rw [En];omega
 have m:Nd (sd (sgn ps) a d z (way b))=([.int a] ++ Nd (d.filter fun p=>decide ((sgn ps).f a p z=way b))) ++ [.int z]:=by simp [sd]
 rw [m]
 have r:bQ (aq 0) eE gz (Nd d) [none,some (.bl b,.z),some (Shd ps,.z),some (R,.z)]=some (.ok (Nd (d.filter fun p=>decide ((sgn ps).f a p z=way b))),[v,some (.bl b,.z),some (Shd ps,.z),some (R,.z)]):=e
 generalize K:d.filter (fun p=>decide ((sgn ps).f a p z=way b))=F at *
 have q:aO (.lst [.int a]) (.lst (Nd F))=some (.lst ([.int a] ++ Nd F),.u):=iH (by simp;omega)
 have A:aO (.lst ([.int a] ++ Nd F)) (.lst [.int z])=some (.lst (([.int a] ++ Nd F) ++ [.int z]),.u):=iH (by simp;omega)
 have E:lN [.lst (([.int a] ++ Nd F) ++ [.int z])]=some (.tup (([.int a] ++ Nd F) ++ [.int z]),.z):=rfl
 generalize Shd ps=H at *
 have C:kh [some (H,.z),some (R,.z),some (.bl b,.z),none]=some (.ok (.val (.lst (Nd F)) .u),[some (H,.z),some (R,.z),some (.bl b,.z),none]):=aM (rs:=[.val (.tup (Nd d)) .z]) (ρ1:=[some (H,.z),some (R,.z),some (.bl b,.z),none]) (by (exists y)) r l rfl
 have d1:(cA (aa (ah aA (ac 1) (mC (.int 0))) af)) [some (H,.z),some (R,.z),some (.bl b,.z),some (.lst (Nd F),.u)]=some (.ok (.val (.lst [.int a]) .u),[some (H,.z),some (R,.z),some (.bl b,.z),some (.lst (Nd F),.u)]):=by (exists n)
 have s:(cA (aa (ah aA (ac 1) (mUn eZ (mC (.int 1)))) af)) [some (H,.z),some (R,.z),some (.bl b,.z),some (.lst (Nd F),.u)]=some (.ok (.val (.lst [.int z]) .u),[some (H,.z),some (R,.z),some (.bl b,.z),some (.lst (Nd F),.u)]):=by (exists g1)
 apply aG (ρ:=[some (H,.z),some (R,.z),some (.bl b,.z),none]) (ρ1:=[some (H,.z),some (R,.z),some (.bl b,.z),some (.lst (Nd F),.u)]) rfl rfl
 ·unfold pW
  apply ao (ρ1:=[some (H,.z),some (R,.z),some (.bl b,.z),some (.lst (Nd F),.u)])
  ·exact p9 C rfl (Nat.le_of_ble_eq_true rfl) rfl
  ·exact a8 (aY (av (cE (cE d1 (ay rfl) rfl rfl q) s rfl rfl A) aR) rfl E) rfl
 ·rfl
theorem wI {ps:List Pt} (g:GoodSh ps) {a z:Nat} {c:List Nat} (h:Ris ps.length ([a] ++ c ++ [z])) (h3:c ≠ []):bc [(Shd ps,.z),(.tup (Nd ([a] ++ c ++ [z])),.z)]=some (.ok (.bl (k9 (sgn ps) a c z),.z),[(Shd ps,.z),(.tup (Nd ([a] ++ c ++ [z])),.z)]):=by
 have k:=g.most
 have l:=h.len
 have i:=k4 h (by omega)
 have ln:=iS ps
 have e:bZ [.tup (Nd ([a] ++ c ++ [z]))]=some (.int (([a] ++ c ++ [z]).length:Int),.z):=by simp only [kA,c1,En]
 have c2:ltI (.int (([a] ++ c ++ [z]).length:Int)) (.int 3)=some (.bl false,.z):=by
  have:0 < c.length:=List.length_pos_iff.mpr h3
  simp [bL];omega
 have s1:=mq g h (b:=true)
 have s2:=mq g h (b:=false)
 have b1:=k6 g (qZ (s:=sgn ps) (way:=way true) h) (by simp [sd]) (b:=true)
 have b2:=k6 g (qZ (s:=sgn ps) (way:=way false) h) (by simp [sd]) (b:=false)
 have f:k9 (sgn ps) a c z=(rb (sgn ps) (sd (sgn ps) a c z (way true)) (way true) && rb (sgn ps) (sd (sgn ps) a c z (way false)) (way false)):=rfl
 rw [f]
 generalize rb (sgn ps) (sd (sgn ps) a c z (way true)) (way true)=B1 at *
 generalize rb (sgn ps) (sd (sgn ps) a c z (way false)) (way false)=B2 at *
 generalize L3.D.tup (Nd (sd (sgn ps) a c z (way true)))=R1 at *
 generalize L3.D.tup (Nd (sd (sgn ps) a c z (way false)))=R2 at *
 generalize (([a] ++ c ++ [z]).length:Int)=M at *
 generalize L3.D.tup (Nd ([a] ++ c ++ [z]))=R at *
 generalize Shd ps=H at *
 generalize L3.D.int (ps.length:Int)=N at *
 apply aG (ρ:=[some (H,.z),some (R,.z)]) (ρ1:=[some (H,.z),some (R,.z)]) rfl rfl
 ·unfold eF
  apply ao (ρ1:=[some (H,.z),some (R,.z)])
  ·refine cj (b:=false) (dW (b:=false) (ρ1:=[some (H,.z),some (R,.z)]) ?_ rfl ?_) rfl rfl
   ·exact bj (cD (ak i (av (ay rfl) (av (aY (av (ay rfl) aR) rfl ln) aR)) rfl rfl rfl) rfl)
   ·exists e,c2
  have d:=ak b1 (ρ:=[some (H,.z),some (R,.z)]) (ρ1:=[some (H,.z),some (R,.z)]) (ρ2:=[some (H,.z),some (R,.z)]) (ms:=aa (ac 0) (aa (aj dX (aa (ac 0) (aa (ac 1) (aa (mC (.bl true)) af)))) (aa (mC (.bl true)) af))) (rs:=[.pl 0,.val R1 .z,.val (.bl true) .z]) (by (nomatch [s1])) rfl rfl rfl
  have j:=ak b2 (ρ:=[some (H,.z),some (R,.z)]) (ρ1:=[some (H,.z),some (R,.z)]) (ρ2:=[some (H,.z),some (R,.z)]) (ms:=aa (ac 0) (aa (aj dX (aa (ac 0) (aa (ac 1) (aa (mC (.bl false)) af)))) (aa (mC (.bl false)) af))) (rs:=[.pl 0,.val R2 .z,.val (.bl false) .z]) (by (nomatch [s2])) rfl rfl rfl
  cases B1 with
  | true =>
   apply ao (ρ1:=[some (H,.z),some (R,.z)])
   ·exact cj (b:=false) (bj (cD d rfl)) rfl rfl
   ·rw [Bool.true_and]
    exact a8 j rfl
  | false=>exact cO (dn (b:=true) (bj (cD d rfl)) rfl (a8 i_c rfl))
 ·rfl
def isR (s:Sg) (r:List Nat):Bool:=if 3<=r.length then k9 s (r.headD 0) (r.tail.dropLast) (r.getLastD 0) else false
theorem Dw (s:Sg) {a z:Nat} {b:List Nat} (h3:b ≠ []):isR s ([a] ++ b ++ [z])=k9 s a b z:=by
 have:0 < b.length:=List.length_pos_iff.mpr h3
 unfold isR
 rw [if_pos (by simp;omega)]
 have e1:([a] ++ b ++ [z]).getLastD 0=z:=by
  rw [List.getLastD_eq_getLast?,List.getLast?_append]
  rfl
 rw [e1]
 simp
theorem mU (s:Sg) {r:List Nat} (h:r.length < 3):isR s r=false:=if_neg (by omega)
theorem xC {r:List Nat} (h:3<=r.length):∃ a d z,r=[a] ++ d ++ [z]/\d ≠ []:=by
 match r,h with
 | a :: b :: c :: t,_ =>
  refine ⟨a,(b :: c :: t).dropLast,(b :: c :: t).getLast (by simp),?_,?_⟩
  ·rw [List.append_assoc,List.dropLast_concat_getLast];rfl
  ·simp
theorem both {ps:List Pt} (g:GoodSh ps) {T:List (List Key × L3.D)} (f:qI (sgn ps) T) {r:List Nat} (h:Ris ps.length r):bc [(Shd ps,.z),(.tup (Nd r),.z)]=some (.ok (.bl (isR (sgn ps) r),.z),[(Shd ps,.z),(.tup (Nd r),.z)])/\bV [(.dt T,.u),(.tup (Nd r),.z),(.int (ps.length:Int),.z)]=some (.ok (.bl (isR (sgn ps) r),.z),[(.dt T,.u),(.tup (Nd r),.z),(.int (ps.length:Int),.z)]):=by
 have k:=g.most
 by_cases h3:3<=r.length
 ·obtain ⟨a,j,z,rfl,hm⟩:=xC h3
  rw [Dw _ hm]
  exact ⟨wI g h hm,wG f h hm (show ps.length<=24 by omega)⟩
 ·rw [mU _ (by omega)]
  have l:=h.len
  have i:=sV h (by omega)
  have e:=k4 h (by omega)
  have d:=iS ps
  have c:ltI (.int ((Nd r).length:Int)) (.int 3)=some (.bl true,.z):=by simp [bL];omega
  have ln:bZ [.tup (Nd r)]=some (.int ((Nd r).length:Int),.z):=rfl
  generalize ((Nd r).length:Int)=N at *
  generalize L3.D.tup (Nd r)=R at *
  generalize L3.D.int (ps.length:Int)=LN at *
  generalize Shd ps=H at *
  constructor
  ·apply aG (ρ:=[some (H,.z),some (R,.z)]) (ρ1:=[some (H,.z),some (R,.z)]) rfl rfl
   ·unfold eF
    refine cO (dn (b:=true) (dW (b:=false) (ρ1:=[some (H,.z),some (R,.z)]) ?_ rfl ?_) rfl (a8 i_c rfl))
    ·exact bj (cD (ak e (av (ay rfl) (av (aY (av (ay rfl) aR) rfl d) aR)) rfl rfl rfl) rfl)
    ·exists ln,c
   ·rfl
  ·apply aG (ρ:=[some (.dt T,.u),some (R,.z),some (LN,.z)]) (ρ1:=[some (.dt T,.u),some (R,.z),some (LN,.z)]) rfl rfl
   ·unfold fP
    refine cO (dn (b:=true) (dW (b:=false) (ρ1:=[some (.dt T,.u),some (R,.z),some (LN,.z)]) ?_ rfl ?_) rfl (a8 i_c rfl))
    ·exact bj (cD (ak i (av (ay rfl) (av (ay rfl) aR)) rfl rfl rfl) rfl)
    ·exists ln,c
   ·rfl
def lx:Nat->Nat->List (List Nat)
 | 0,_=>[[]]
 | k+1,a=>[] :: ((lx k (a+1)).map (fun r=>a :: r) ++ (lx k (a+1)).tail)
abbrev Pl (l:List (List Nat)):List L3.D:=l.map fun p=>L3.D.tup (Nd p)
theorem x5:∀ (k a:Nat),∀ r ∈ lx k a,r.Pairwise (· < ·)/\∀ x ∈ r,a<=x/\x < a+k
 | 0,a,r,h=>by
  rcases EJ.mp h with rfl
  exact ⟨.nil,fun x b=>by cases b⟩
 | k+1,a,r,h=>by
  rcases Ei.mp h with rfl | h
  ·exact ⟨.nil,fun x b=>by cases b⟩
  rcases El.mp h with h | h
  ·obtain ⟨q,c,rfl⟩:=Es.mp h
   obtain ⟨h1,h2⟩:=x5 k (a+1) q c
   refine ⟨List.pairwise_cons.mpr ⟨fun x b=>?_,h1⟩,fun x b=>?_⟩
   ·have:=h2 x b;omega
   ·rcases Ei.mp b with rfl | b
    ·omega
    ·have:=h2 x b;omega
  ·obtain ⟨h1,h2⟩:=x5 k (a+1) r (List.mem_of_mem_tail h)
   exact ⟨h1,fun x b=>by have:=h2 x b;omega⟩
theorem nV {n:Nat} {r:List Nat} (h:r ∈ lx n 0):Ris n r:=by
 obtain ⟨h1,h2⟩:=x5 n 0 r h
 exact ⟨h1,fun x a=>by have:=h2 x a;omega⟩
theorem x4:∀ n:Nat,∃ l,lx n 0=[] :: l
 | 0=>⟨_,rfl⟩
 | n+1=>⟨_,rfl⟩
theorem md:∀ ns:List (List Int),j0 (ns.map ntD)=some ns
 | []=>rfl
 | n :: ns=>by
  have a:=md ns
  have e:bv (n.map L3.D.int)=some n:=by
   clear a
   induction n with
   | nil=>rfl
   | cons x n a=>simp [bv,a]
  show (bv (n.map L3.D.int)).bind (fun n=>(j0 (ns.map ntD)).map (n :: ·))=_
  rw [e,a];rfl
theorem mi {ns:List (List Int)} {is:List Nat} (h1:yo ns=true) (h2:ns.length<=16777216) (h3:bA ns=some is) (b:is.length<=16777216) (a:(is.all fun i=>decide (i < ns.length))=true):kW [.lst (ns.map ntD)]=some (.lst (is.map fun i=>ntD (ns.getD i [])),.u):=by
 show (j0 (ns.map ntD)).bind _=_
 rw [md]
 show (if (yo ns && decide (ns.length<=16777216))=true then _ else _)=_
 rw [h1,Ez h2,Bool.and_self,if_pos rfl,h3]
 show (if (decide (is.length<=16777216) && is.all fun i=>decide (i < ns.length))=true then _ else _)=_
 rw [a,Ez b,Bool.and_self,if_pos rfl]
theorem fp1:bd [(.int (1:Int),.z)]=some (.ok (.lst (Pl (lx 1 0)),.u),[(.int (1:Int),.z)]):=by kernel_rfl
theorem fp2:bd [(.int (2:Int),.z)]=some (.ok (.lst (Pl (lx 2 0)),.u),[(.int (2:Int),.z)]):=by kernel_rfl
theorem fp3:bd [(.int (3:Int),.z)]=some (.ok (.lst (Pl (lx 3 0)),.u),[(.int (3:Int),.z)]):=by kernel_rfl
theorem fp4:bd [(.int (4:Int),.z)]=some (.ok (.lst (Pl (lx 4 0)),.u),[(.int (4:Int),.z)]):=by kernel_rfl
theorem fp5:bd [(.int (5:Int),.z)]=some (.ok (.lst (Pl (lx 5 0)),.u),[(.int (5:Int),.z)]):=by kernel_rfl
theorem fq6:(cP (bD cH (aa (ac 0) af)) (aq 2) fO) [some (.int (6:Int),.z),some (.lst [.tup []],.u),none]=some (.ok .nx,[some (.int (6:Int),.z),some (.lst (U6.map ntD),.u),some (.int (5:Int),.z)]):=by kernel_rfl
theorem fr6:(L6_4.map fun i=>ntD (U6.getD i []))=Pl (lx 6 0):=by kernel_rfl
theorem fs6:kW [.lst (U6.map ntD)]=some (.lst (Pl (lx 6 0)),.u):=by
 rw [<- fr6]
 exact mi (by kernel_rfl) (by decide) sort6 (by decide) (by decide +kernel)
theorem fp6:bd [(.int (6:Int),.z)]=some (.ok (.lst (Pl (lx 6 0)),.u),[(.int (6:Int),.z)]):=by
 have s:=fs6
 have q:=fq6
 generalize L3.D.lst (U6.map ntD)=A at *
 generalize L3.D.lst (Pl (lx 6 0))=B at *
 apply aG (ρ:=[some (.int (6:Int),.z),none,none]) (ρ1:=[some (.int (6:Int),.z),some (A,.u),some (.int (5:Int),.z)]) rfl rfl
 ·unfold jG
  refine ao (ρ1:=[some (.int (6:Int),.z),some (.lst [.tup []],.u),none]) rfl ?_
  refine ao q ?_
  exact a8 (aY (av (ay rfl) aR) rfl s) rfl
 ·rfl
theorem fq7:(cP (bD cH (aa (ac 0) af)) (aq 2) fO) [some (.int (7:Int),.z),some (.lst [.tup []],.u),none]=some (.ok .nx,[some (.int (7:Int),.z),some (.lst (U7.map ntD),.u),some (.int (6:Int),.z)]):=by kernel_rfl
theorem fr7:(L7_10.map fun i=>ntD (U7.getD i []))=Pl (lx 7 0):=by kernel_rfl
theorem fs7:kW [.lst (U7.map ntD)]=some (.lst (Pl (lx 7 0)),.u):=by
 rw [<- fr7]
 exact mi (by kernel_rfl) (by decide) sort7 (by decide) (by decide +kernel)
theorem fp7:bd [(.int (7:Int),.z)]=some (.ok (.lst (Pl (lx 7 0)),.u),[(.int (7:Int),.z)]):=by
 have s:=fs7
 have q:=fq7
 generalize L3.D.lst (U7.map ntD)=A at *
 generalize L3.D.lst (Pl (lx 7 0))=B at *
 apply aG (ρ:=[some (.int (7:Int),.z),none,none]) (ρ1:=[some (.int (7:Int),.z),some (A,.u),some (.int (6:Int),.z)]) rfl rfl
 ·unfold jG
  refine ao (ρ1:=[some (.int (7:Int),.z),some (.lst [.tup []],.u),none]) rfl ?_
  refine ao q ?_
  exact a8 (aY (av (ay rfl) aR) rfl s) rfl
 ·rfl
theorem mo:∀ n:Nat,1<=n->n<=7->bd [(.int (n:Int),.z)]=some (.ok (.lst (Pl (lx n 0)),.u),[(.int (n:Int),.z)])
 | 0,h,_=>absurd h (by decide)
 | 1,_,_=>fp1
 | 2,_,_=>fp2
 | 3,_,_=>fp3
 | 4,_,_=>fp4
 | 5,_,_=>fp5
 | 6,_,_=>fp6
 | 7,_,_=>fp7
 | n+8,_,h=>absurd h (by omega)
def Kd (Q:List Nat->Prop) (d:L3.D):Prop:=∃ r,Q r/\d=.tup (Nd r)
theorem tU:∀ r:List Nat,bv (Nd r)=some (r.map fun x:Nat=>(x:Int))
 | []=>rfl
 | x :: r=>by
  have a:=tU r
  simp [bv] at a ⊢
  exact a
theorem Bt {Q:List Nat->Prop}:∀ {X:List L3.D},(∀ d ∈ X,Kd Q d)->∃ qs,d6 X=some qs/\PyData.canLayAll0 qs=true/\PyData.depthAll qs<=20/\qs.length=X.length
 | [],_=>⟨[],rfl,rfl,by decide,rfl⟩
 | d :: X,h=>by
  obtain ⟨qs,e1,e,g,b⟩:=Bt (X:=X) fun x a=>h x (Ed _ a)
  obtain ⟨r,_,rfl⟩:=h d Ec
  obtain ⟨ps,f1,f2,f,f4⟩:=xj (fun i:Nat=>(i:Int)) r
  refine ⟨.tuple ps :: qs,?_,?_,?_,?_⟩
  ·have c:pyD (.tup (Nd r))=some (.tuple ps):=by unfold pyD;rw [f1];rfl
   show (match pyD (.tup (Nd r)),d6 X with | some p,some ps=>some (p :: ps) | _,_=>none)=_
   rw [c,e1]
  ·simp [PyData.canLayAll0,PyData.canLay0,e,f2]
  ·simp [PyData.depthAll,PyData.depth];omega
  ·simp [b]
theorem AC {X:List L3.D} {Q:List Nat->Prop} (b:∀ d ∈ X,Kd Q d):neX (.lst X) (.lst [])=some (.bl (!decide (X=[])),.z):=by
 obtain ⟨qs,e1,c,f,a⟩:=Bt b
 have e:pyD (.lst X)=some (.list qs):=by unfold pyD;rw [e1];rfl
 have h:eqP (.lst X) (.lst [])=some (decide (X=[])):=by
  have p2:pyD (.lst [])=some (.list []):=rfl
  unfold eqP
  rw [e,p2]
  have:((PyData.list qs).canLay0 && (PyData.list []).canLay0 && decide (min (PyData.list qs).depth (PyData.list []).depth<=30))=true:=by
   simp [PyData.canLay0,c,PyData.depth,PyData.canLayAll0];omega
  show (if _ then _ else _)=_
  rw [if_pos this]
  cases X with
  | nil =>
   have:qs=[]:=EX.mp a
   subst this
   rfl
  | cons x L =>
   cases qs with
   | nil=>simp at a
   | cons y qs =>
    have:decide (x :: L=[])=false:=by simp
    rw [this];rfl
 show (eqA (.lst X) (.lst [])).map _=_
 have h1:eqA (.lst X) (.lst [])=some (decide (X=[])):=h
 rw [h1];rfl
theorem rT:∀ n:Nat,n<=7->(lx n 0).length<=128
 | 0,_=>by decide +kernel
 | 1,_=>by decide +kernel
 | 2,_=>by decide +kernel
 | 3,_=>by decide +kernel
 | 4,_=>by decide +kernel
 | 5,_=>by decide +kernel
 | 6,_=>by decide +kernel
 | 7,_=>by decide +kernel
 | n+8,h=>absurd h (by omega)
abbrev rgs (ps:List Pt):List (List Nat):=(lx ps.length 0).filter (isR (sgn ps))
theorem uJ {ps:List Pt} (g:GoodSh ps) (a:ps.length<=7):fm [(Shd ps,.z)]=some (.ok (.lst (Pl (rgs ps)),.u),[(Shd ps,.z)]):=by
 have pr:=mo ps.length g.pos a
 have ln:=iS ps
 have d:=rT ps.length a
 obtain ⟨τ',e,v,rfl⟩:=a7 (bnd:=aq 0) (c:=fN) (elt:=jj) (fun τ=>∃ v,τ=[v,some (Shd ps,.z)]) (fun r:List Nat=>L3.D.tup (Nd r)) (isR (sgn ps)) (fun r:List Nat=>L3.D.tup (Nd r)) (xs:=lx ps.length 0) (τ:=[none,some (Shd ps,.z)]) ⟨none,rfl⟩ (by
  rintro r b τ ⟨v,rfl⟩
  have f:=(both g (oS ps) (nV b)).1
  generalize isR (sgn ps) r=B at *
  generalize L3.D.tup (Nd r)=R at *
  generalize Shd ps=H at *
  refine ⟨[some (R,.z),some (H,.z)],[some (R,.z),some (H,.z)],rfl,?_,fun _=>⟨_,rfl⟩,fun _=>⟨_,_,(R,.z),[some (R,.z),some (H,.z)],ay rfl,rfl,rfl,_,rfl⟩⟩
  unfold fN
  (nomatch [f]))
 have h:ji [some (Shd ps,.z)]=some (.ok (.val (.lst (Pl (rgs ps))) .u),[some (Shd ps,.z)]):=by
  refine aM (rs:=[.val (.lst (Pl (lx ps.length 0))) .u]) (ρ1:=[some (Shd ps,.z)]) ?_ e (by rw [En];omega) rfl
  clear e d
  unfold Pl at pr ⊢
  generalize Shd ps=H at *
  generalize L3.D.int (ps.length:Int)=N at *
  generalize (lx ps.length 0).map (fun r:List Nat=>L3.D.tup (Nd r))=A at *
  nomatch [pr],[ln]
 apply aG (ρ:=[some (Shd ps,.z)]) (ρ1:=[some (Shd ps,.z)]) rfl rfl
 ·exact a8 h rfl
 ·rfl
def nox:L3.D->Bool
 | .exc _ _=>false
 | _=>true
def wh:L3.D->Bool
 | .int _=>true
 | _=>false
theorem wh_l {d:L3.D} (h:nox d=true):fj [(d,.z)]=some (.ok (.bl (wh d),.z),[(d,.z)]):=by
 cases d <;> first | exact (Ev h).elim | kernel_rfl
theorem wh_p {d:L3.D} (h:nox d=true):bT [(d,.z)]=some (.ok (.bl (wh d),.z),[(d,.z)]):=by
 cases d <;> first | exact (Ev h).elim | kernel_rfl
def plc (n:Int):L3.D->Bool
 | .int i=>decide (0<=i) && decide (i < n)
 | _=>false
theorem yw {f b:L3.D->L3.D->Option (L3.D × Fl)} {ma mb mc:EM} {ra rb:R3} {ρ ρ1 ρ2:Sto} {da db:L3.D} {fl:Fl} (h1:ma ρ=some (.ok ra,ρ1)) (h2:mb ρ1=some (.ok rb,ρ2)) (h3:der ra ρ2=some (.ok da,ρ2)) (c:der rb ρ2=some (.ok db,ρ2)) (a:f da db=some (.bl false,fl)):di f b ma mb mc ρ=some (.ok (.val (.bl false) .z),ρ2):=by
 simp only [di,ae,h1,h2,h3,c,a,aZ,Option.bind_some,asB,EH,EK,if_false]
 rfl
theorem mE {d:L3.D} (h:nox d=true) (n:Int):dZ [(d,.z),(.int n,.z)]=some (.ok (.bl (plc n d),.z),[(d,.z),(.int n,.z)]):=by
 have w:=wh_p h
 by_cases hd:∃ i,d=.int i
 ·obtain ⟨i,rfl⟩:=hd
  by_cases h0:0<=i
  ·have a:leI (.int 0) (.int i)=some (.bl true,.z):=by simp [bL,h0]
   have c:ltI (.int i) (.int n)=some (.bl (decide (i < n)),.z):=by simp [bL]
   have e:plc n (.int i)=decide (i < n):=by simp [plc,h0]
   rw [e]
   apply aG (ρ:=[some (.int i,.z),some (.int n,.z)]) rfl rfl
   ·apply a8
    ·apply jp
     ·nomatch [w]
     ·rfl
     ·rfl
     ·exact og i_c (ay rfl) rfl rfl a (ay rfl) rfl rfl c
    ·rfl
   ·rfl
  ·have a:leI (.int 0) (.int i)=some (.bl false,.z):=by simp [bL,h0]
   have e:plc n (.int i)=false:=by simp [plc,h0]
   rw [e]
   apply aG (ρ:=[some (.int i,.z),some (.int n,.z)]) (ρ1:=[some (.int i,.z),some (.int n,.z)]) rfl rfl
   ·apply a8
    ·apply jp
     ·nomatch [w]
     ·rfl
     ·rfl
     ·exact yw i_c (ay rfl) rfl rfl a
    ·rfl
   ·rfl
 ·have e:plc n d=false:=by
   cases d <;> first | rfl | exact absurd ⟨_,rfl⟩ hd
  have b:wh d=false:=by
   cases d <;> first | rfl | exact absurd ⟨_,rfl⟩ hd
  rw [b] at w
  rw [e]
  apply aG (ρ:=[some (d,.z),some (.int n,.z)]) (ρ1:=[some (d,.z),some (.int n,.z)]) rfl rfl
  ·apply a8
   ·apply AS
    ·nomatch [w]
    ·rfl
    ·rfl
   ·rfl
  ·rfl
theorem kN (xs:List L3.D):xs.map (fun x=>x)=xs:=List.map_id xs
theorem ye {xs:List L3.D} (f:∀ x ∈ xs,nox x=true) (i:xs.length<=30) (hw:xs.all wh=false) (N:L3.D):bm [(.tup xs,.z),(N,.z)]=some (.ok (.bl false,.z),[(.tup xs,.z),(N,.z)]):=by
 obtain ⟨τ',e,a,rfl⟩:=a7 (bnd:=aq 0) (c:=b7) (elt:=bu) (fun τ=>∃ a,τ=[a]) (fun x:L3.D=>x) (fun _=>true) (fun x=>.bl (wh x)) (xs:=xs) (τ:=[none]) ⟨none,rfl⟩ (by
  rintro k g τ ⟨a,rfl⟩
  have w:=wh_l (f k g)
  exact ⟨[some (k,.z)],_,rfl,rfl,(fun h=>by cases h),fun _=>⟨.val (.bl (wh k)) .z,[some (k,.z)],(.bl (wh k),.z),_,by unfold bu;(nomatch [w]),rfl,rfl,_,rfl⟩⟩)
 rw [ET.mpr (fun _ _=>rfl),kN] at e
 have a1:=eV wh xs
 rw [hw] at a1
 have e1:cS [some (.tup xs,.z),some (N,.z)]=some (.ok (.val (.lst (xs.map fun x=>.bl (wh x))) .u),[some (.tup xs,.z),some (N,.z)]):=aM (rs:=[.pl 0]) (ρ1:=[some (.tup xs,.z),some (N,.z)]) (ρ2:=[some (.tup xs,.z),some (N,.z)]) rfl e (by omega) rfl
 have d:fR "tuple" (.tup xs)=some (.bl true,.z):=rfl
 generalize L3.D.tup xs=R at *
 apply aG (ρ:=[some (R,.z),some (N,.z)]) (ρ1:=[some (R,.z),some (N,.z)]) rfl rfl
 ·unfold dO
  refine cO (dn (b:=true) (dW (b:=false) (ρ1:=[some (R,.z),some (N,.z)]) ?_ rfl ?_) rfl (a8 i_c rfl))
  ·exact bj (cD (r0 (ay rfl) rfl d) rfl)
  ·exact bj (cD (aY (av e1 aR) rfl a1) rfl)
 ·rfl
theorem pB {xs:List L3.D} (f:∀ x ∈ xs,nox x=true) (i:xs.length<=30) (n:Int) (hw:xs.all (plc n)=false):aC [(.tup xs,.z),(.int n,.z)]=some (.ok (.bl false,.z),[(.tup xs,.z),(.int n,.z)]):=by
 obtain ⟨τ',e,a,rfl⟩:=a7 (bnd:=aq 0) (c:=b7) (elt:=aF) (fun τ=>∃ a,τ=[a,some (.int n,.z)]) (fun x:L3.D=>x) (fun _=>true) (fun x=>.bl (plc n x)) (xs:=xs) (τ:=[none,some (.int n,.z)]) ⟨none,rfl⟩ (by
  rintro k g τ ⟨a,rfl⟩
  have pl:=mE (f k g) n
  exact ⟨[some (k,.z),some (.int n,.z)],_,rfl,rfl,(fun h=>by cases h),fun _=>⟨.val (.bl (plc n k)) .z,[some (k,.z),some (.int n,.z)],(.bl (plc n k),.z),_,by unfold aF;(nomatch [pl]),rfl,rfl,_,rfl⟩⟩)
 rw [ET.mpr (fun _ _=>rfl),kN] at e
 have a1:=eV (plc n) xs
 rw [hw] at a1
 have e1:bf [some (.tup xs,.z),some (.int n,.z)]=some (.ok (.val (.lst (xs.map fun x=>.bl (plc n x))) .u),[some (.tup xs,.z),some (.int n,.z)]):=aM (rs:=[.pl 0]) (ρ1:=[some (.tup xs,.z),some (.int n,.z)]) (ρ2:=[some (.tup xs,.z),some (.int n,.z)]) rfl e (by omega) rfl
 have d:fR "tuple" (.tup xs)=some (.bl true,.z):=rfl
 generalize L3.D.tup xs=R at *
 generalize L3.D.int n=N at *
 apply aG (ρ:=[some (R,.z),some (N,.z)]) (ρ1:=[some (R,.z),some (N,.z)]) rfl rfl
 ·unfold bY
  refine cO (dn (b:=true) (dW (b:=false) (ρ1:=[some (R,.z),some (N,.z)]) ?_ rfl ?_) rfl (a8 i_c rfl))
  ·exact bj (cD (r0 (ay rfl) rfl d) rfl)
  ·exact bj (cD (aY (av e1 aR) rfl a1) rfl)
 ·rfl
abbrev Id' (zs:List Int):List L3.D:=zs.map L3.D.int
theorem xk:∀ zs:List Int,d6 (Id' zs)=some (zs.map PyData.int)/\PyData.canLayAll0 (zs.map PyData.int)=true/\PyData.depthAll (zs.map PyData.int)=0
 | []=>⟨rfl,rfl,rfl⟩
 | z :: zs=>by
  obtain ⟨a,b,c⟩:=xk zs
  refine ⟨?_,by simp [PyData.canLayAll0,PyData.canLay0,b],by simp [PyData.depthAll,PyData.depth,c]⟩
  show (match pyD (.int z),d6 (Id' zs) with | some p,some ps=>some (p :: ps) | _,_=>none)=_
  rw [a]
  rfl
theorem yG:∀ l m:List Int,PyData.eqvAll (l.map PyData.int) (m.map PyData.int)=decide (l=m)
 | [],[]=>by simp [PyData.eqvAll]
 | [],_ :: _=>by simp [PyData.eqvAll]
 | _ :: _,[]=>by simp [PyData.eqvAll]
 | a :: l,b :: m=>by
  rw [Ey,Ey,PyData.eqvAll,yG l m]
  simp [PyData.eqv,Bool.decide_and]
  rfl
theorem yK (l m:List Int):eqA (.lst (Id' l)) (.lst (Id' m))=some (decide (l=m)):=by
 obtain ⟨a,b,c⟩:=xk l
 obtain ⟨e,f,d⟩:=xk m
 have g:pyD (.lst (Id' l))=some (.list (l.map PyData.int)):=by unfold pyD;rw [a];rfl
 have p2:pyD (.lst (Id' m))=some (.list (m.map PyData.int)):=by unfold pyD;rw [e];rfl
 show eqP _ _=_
 unfold eqP
 rw [g,p2]
 have:((PyData.list (l.map PyData.int)).canLay0 && (PyData.list (m.map PyData.int)).canLay0 && decide (min (PyData.list (l.map PyData.int)).depth (PyData.list (m.map PyData.int)).depth<=30))=true:=by
  simp [PyData.canLay0,b,f,PyData.depth,c,d]
 show (if _ then _ else _)=_
 rw [if_pos this,PyData.eqv,yG]
theorem wh_Id (zs:List Int):(Id' zs).all wh=true:=by simp [wh]
theorem xM {zs:List Int}:∀ x ∈ Id' zs,nox x=true:=by
 intro x a
 obtain ⟨z,_,rfl⟩:=Es.mp a
 rfl
abbrev oor (n z:Int):Bool:=decide (z < 0) || decide (z ≥ n)
theorem AO (zs:List Int):bv (Id' zs)=some zs:=by
 induction zs with
 | nil=>rfl
 | cons z zs ih=>simp [bv,ih]
theorem vd {zs:List Int} (q:zs.length<=30) (n:Int):bm [(.tup (Id' zs),.z),(.int n,.z)]=some (.ok (.bl (!zs.any (oor n) && decide (zs=srt (zs.foldl met []))),.z),[(.tup (Id' zs),.z),(.int n,.z)]):=by
 obtain ⟨τ',e,a,rfl⟩:=a7 (bnd:=aq 0) (c:=b7) (elt:=bu) (fun τ=>∃ a,τ=[a]) (fun x:L3.D=>x) (fun _=>true) (fun x=>.bl (wh x)) (xs:=Id' zs) (τ:=[none]) ⟨none,rfl⟩ (by
  rintro k m τ ⟨a,rfl⟩
  have w:=wh_l (xM k m)
  exact ⟨[some (k,.z)],_,rfl,rfl,(fun h=>by cases h),fun _=>⟨.val (.bl (wh k)) .z,[some (k,.z)],(.bl (wh k),.z),_,by unfold bu;(nomatch [w]),rfl,rfl,_,rfl⟩⟩)
 rw [ET.mpr (fun _ _=>rfl),kN] at e
 have a1:=eV wh (Id' zs)
 rw [wh_Id] at a1
 have e1:cS [some (.tup (Id' zs),.z),some (.int n,.z)]=some (.ok (.val (.lst ((Id' zs).map fun x=>.bl (wh x))) .u),[some (.tup (Id' zs),.z),some (.int n,.z)]):=aM (rs:=[.pl 0]) (ρ1:=[some (.tup (Id' zs),.z),some (.int n,.z)]) (ρ2:=[some (.tup (Id' zs),.z),some (.int n,.z)]) rfl e (by rw [En];omega) rfl
 obtain ⟨τ2,f,v,rfl⟩:=a7 (bnd:=aq 0) (c:=b8) (elt:=eR) (fun τ=>∃ a,τ=[a,some (.int n,.z)]) (fun i:Int=>L3.D.int i) (oor n) (fun i:Int=>L3.D.int i) (xs:=zs) (τ:=[none,some (.int n,.z)]) ⟨none,rfl⟩ (by
  rintro k m τ ⟨a,rfl⟩
  have g:ltI (.int k) (.int 0)=some (.bl (decide (k < 0)),.z):=by simp [bL]
  have c1:geI (.int k) (.int n)=some (.bl (decide (k ≥ n)),.z):=by simp [bL]
  refine ⟨[some (.int k,.z),some (.int n,.z)],[some (.int k,.z),some (.int n,.z)],rfl,?_,fun _=>⟨_,rfl⟩,fun _=>⟨_,_,(.int k,.z),[some (.int k,.z),some (.int n,.z)],ay rfl,rfl,rfl,_,rfl⟩⟩
  unfold b8
  by_cases h0:k < 0
  ·have:oor n k=true:=by simp [h0]
   rw [this]
   rw [Ez h0] at g
   exact qa (b:=true) (by (exists g)) rfl
  ·have:oor n k=decide (k ≥ n):=by simp [h0]
   rw [this]
   rw [EA h0] at g
   refine dW (b:=false) (ρ1:=[some (.int k,.z),some (.int n,.z)]) ?_ rfl ?_
   ·exists g
   ·(exists c1))
 have o:eQ [some (.tup (Id' zs),.z),some (.int n,.z)]=some (.ok (.val (.lst (Id' (zs.filter (oor n)))) .u),[some (.tup (Id' zs),.z),some (.int n,.z)]):=aM (rs:=[.pl 0]) (ρ1:=[some (.tup (Id' zs),.z),some (.int n,.z)]) (ρ2:=[some (.tup (Id' zs),.z),some (.int n,.z)]) rfl f (by rw [En];omega) rfl
 have ne:neX (.lst (Id' (zs.filter (oor n)))) (.lst [])=some (.bl (!decide (zs.filter (oor n)=[])),.z):=by
  have:=yK (zs.filter (oor n)) []
  show (eqA _ _).map _=_
  rw [show (L3.D.lst [])=L3.D.lst (Id' []) from rfl,this]
  rfl
 have ss:ssD [.tup (Id' zs)]=some (.lst (Id' (srt (zs.foldl met []))),.u):=by
  show (bv (Id' zs)).bind _=_
  rw [AO]
  show (if zs.length < 64 then some ((.lst ((srt (zs.foldl met [])).map .int),.u):L3.D × Fl) else none)=_
  rw [if_pos (by omega)]
 have li:u9 [.tup (Id' zs)]=some (.lst (Id' zs),.u):=rfl
 have eq:eqX (.lst (Id' zs)) (.lst (Id' (srt (zs.foldl met []))))=some (.bl (decide (zs=srt (zs.foldl met []))),.z):=by
  show (eqA _ _).map _=_
  rw [yK]
  rfl
 have d:(!decide (zs.filter (oor n)=[]))=zs.any (oor n):=by
  cases h:zs.any (oor n) with
  | true =>
   obtain ⟨x,j,p⟩:=List.any_eq_true.mp h
   have:zs.filter (oor n) ≠ []:=fun z=>by
    have:=EL.mpr ⟨j,p⟩
    rw [z] at this
    cases this
   simp [this]
  | false =>
   have:zs.filter (oor n)=[]:=List.filter_eq_nil_iff.mpr fun x j=>by
    have:=List.any_eq_false.mp h x j
    exact this
   simp [this]
 rw [d] at ne
 have l:fR "tuple" (.tup (Id' zs))=some (.bl true,.z):=rfl
 generalize decide (zs=srt (zs.foldl met []))=Bq at *
 generalize zs.any (oor n)=Ba at *
 generalize L3.D.lst (Id' (srt (zs.foldl met [])))=RS at *
 generalize L3.D.lst (Id' (zs.filter (oor n)))=RF at *
 generalize L3.D.lst (Id' zs)=RL at *
 generalize L3.D.tup (Id' zs)=R at *
 generalize L3.D.int n=N at *
 apply aG (ρ:=[some (R,.z),some (N,.z)]) (ρ1:=[some (R,.z),some (N,.z)]) rfl rfl
 ·unfold dO
  apply ao (ρ1:=[some (R,.z),some (N,.z)])
  ·refine cj (b:=false) (dW (b:=false) (ρ1:=[some (R,.z),some (N,.z)]) ?_ rfl ?_) rfl rfl
   ·exact bj (cD (r0 (ay rfl) rfl l) rfl)
   ·exact bj (cD (aY (av e1 aR) rfl a1) rfl)
  cases Ba with
  | true=>exact cO (dn (b:=true) (cD (cE o rfl rfl rfl ne) rfl) rfl (a8 i_c rfl))
  | false =>
   apply ao (ρ1:=[some (R,.z),some (N,.z)])
   ·exact cj (b:=false) (cD (cE o rfl rfl rfl ne) rfl) rfl rfl
   ·apply a8
    ·exists ss,li,eq
    ·rfl
 ·rfl
def ez (zs:List Int) (i:Nat):Int:=zs.getD i 0
theorem DF {zs:List Int} {i:Nat} (h:i < zs.length):zs[i]?=some (ez zs i):=by simp [ez,List.getD,h]
theorem we {zs:List Int} {i:Nat} (h:i < zs.length):aA (.tup (Id' zs)) (.int (i:Int))=some (.int (ez zs i),.z):=dg (iU (by rw [Et,DF h];rfl))
def stp (zs:List Int) (a:Nat):Bool:=decide (ez zs a < ez zs (a+1))
theorem uN {zs:List Int} (g:zs.length<=30) (n:Int) (hw:(Id' zs).all (plc n)=true):aC [(.tup (Id' zs),.z),(.int n,.z)]=some (.ok (.bl ((List.range (zs.length - 1)).all (stp zs)),.z),[(.tup (Id' zs),.z),(.int n,.z)]):=by
 obtain ⟨τ',e,a,rfl⟩:=a7 (bnd:=aq 0) (c:=b7) (elt:=aF) (fun τ=>∃ a,τ=[a,some (.int n,.z)]) (fun x:L3.D=>x) (fun _=>true) (fun x=>.bl (plc n x)) (xs:=Id' zs) (τ:=[none,some (.int n,.z)]) ⟨none,rfl⟩ (by
  rintro k d τ ⟨a,rfl⟩
  have pl:=mE (xM k d) n
  exact ⟨[some (k,.z),some (.int n,.z)],_,rfl,rfl,(fun h=>by cases h),fun _=>⟨.val (.bl (plc n k)) .z,[some (k,.z),some (.int n,.z)],(.bl (plc n k),.z),_,by unfold aF;(nomatch [pl]),rfl,rfl,_,rfl⟩⟩)
 rw [ET.mpr (fun _ _=>rfl),kN] at e
 have a1:=eV (plc n) (Id' zs)
 rw [hw] at a1
 have e1:bf [some (.tup (Id' zs),.z),some (.int n,.z)]=some (.ok (.val (.lst ((Id' zs).map fun x=>.bl (plc n x))) .u),[some (.tup (Id' zs),.z),some (.int n,.z)]):=aM (rs:=[.pl 0]) (ρ1:=[some (.tup (Id' zs),.z),some (.int n,.z)]) (ρ2:=[some (.tup (Id' zs),.z),some (.int n,.z)]) rfl e (by rw [En];omega) rfl
 obtain ⟨τ2,f,b,rfl⟩:=a7 (bnd:=aq 0) (c:=b7) (elt:=bI) (fun τ=>∃ a,τ=[a,some (.tup (Id' zs),.z)]) (fun i:Nat=>L3.D.int (0+(i:Int))) (fun _=>true) (fun i:Nat=>.bl (stp zs i)) (xs:=List.range (zs.length - 1)) (τ:=[none,some (.tup (Id' zs),.z)]) ⟨none,rfl⟩ (by
  rintro k d τ ⟨a,rfl⟩
  rw [List.mem_range] at d
  rw [Int.zero_add]
  have g1:=we (zs:=zs) (i:=k) (by omega)
  have g2:aA (.tup (Id' zs)) (.int ((k:Int)+1))=some (.int (ez zs (k+1)),.z):=by
   have:=we (zs:=zs) (i:=k+1) (by omega)
   rw [Int.natCast_add] at this
   exact this
  have g:ltI (.int (ez zs k)) (.int (ez zs (k+1)))=some (.bl (stp zs k),.z):=by simp [bL,stp]
  exact ⟨[some (.int (k:Int),.z),some (.tup (Id' zs),.z)],_,rfl,rfl,(fun h=>by cases h),fun _=>⟨.val (.bl (stp zs k)) .z,[some (.int (k:Int),.z),some (.tup (Id' zs),.z)],(.bl (stp zs k),.z),_,cE (cE (ay rfl) (ay rfl) rfl rfl g1) (cE (ay rfl) (cE (ay rfl) i_c rfl rfl rfl) rfl rfl g2) rfl rfl g,rfl,rfl,_,rfl⟩⟩)
 rw [ET.mpr (fun _ _=>rfl)] at f
 have j:cH [.int (((Id' zs).length:Int) - 1)]=some (bh 0 (zs.length - 1)):=cu (by first | (simp;done) | (simp;omega)) (by first | (simp;done) | (simp;omega))
 have l:bH [some (.tup (Id' zs),.z),some (.int n,.z)]=some (.ok (.val (.lst ((List.range (zs.length - 1)).map fun i=>.bl (stp zs i))) .u),[some (.tup (Id' zs),.z),some (.int n,.z)]):=aM (rs:=[]) (ρ1:=[some (.tup (Id' zs),.z),some (.int n,.z)]) (ds:=bh 0 (zs.length - 1)) (by (repeat' (first | with_reducible apply dU (h3:=j) | infer_instance | eq_refl))) f (by rw [bK];omega) rfl
 have a2:=eV (stp zs) (List.range (zs.length - 1))
 generalize (List.range (zs.length - 1)).all (stp zs)=B at *
 apply aG (ρ:=[some (.tup (Id' zs),.z),some (.int n,.z)]) rfl rfl
 ·apply ao (ρ1:=[some (.tup (Id' zs),.z),some (.int n,.z)])
  ·apply cj
   ·apply dW (b:=false)
    ·nofun
    ·rfl
    ·exact bj (cD (aY (av e1 aR) rfl a1) rfl)
   ·rfl
   ·rfl
  ·exact a8 (aY (av l aR) rfl a2) rfl
 ·rfl
theorem qm:∀ zs:List Int,(∀ a,a+1 < zs.length->ez zs a < ez zs (a+1))->zs.Pairwise (· < ·)
 | [],_=>.nil
 | [x],_=>List.pairwise_singleton _ _
 | x :: y :: t,h=>by
  have b:=qm (y :: t) fun a c=>h (a+1) (by simp at c ⊢;omega)
  have h0:x < y:=h 0 (by simp)
  refine List.pairwise_cons.mpr ⟨fun z hz=>?_,b⟩
  rcases Ei.mp hz with rfl | hz
  ·exact h0
  ·have:=(List.pairwise_cons.mp b).1 z hz
   omega
theorem mK:∀ (l ns:List Int),ns.Nodup->(l.foldl met ns).Nodup
 | [],_,h=>h
 | x :: l,ns,h=>by
  rw [List.foldl_cons]
  refine mK l _ ?_
  unfold met
  split
  ·exact h
  ·rename_i d
   refine List.nodup_append.mpr ⟨h,by simp,fun a e b c=>?_⟩
   simp at c
   rintro rfl
   exact d (c ▸ e)
theorem up_ss (zs:List Int):zs=srt (zs.foldl met []) ↔ zs.Pairwise (· < ·):=by
 constructor
 ·intro h
  have s:=dI (zs.foldl met [])
  have d:(srt (zs.foldl met [])).Nodup:=(dJ _).nodup_iff.mpr (mK zs [] .nil)
  rw [<- h] at s d
  exact (s.and d).imp fun a=>by omega
 ·intro up
  have m:=nP zs [] (up.imp fun a=>by omega) (fun _ _=>List.not_mem_nil)
  rw [List.nil_append] at m
  rw [m]
  exact (d9 (dJ _) (dI _) (up.imp fun a=>by omega)).symm
theorem xO:∀ {zs:List Int},(∀ z ∈ zs,0<=z)->∃ r:List Nat,Id' zs=Nd r/\zs=r.map fun x:Nat=>(x:Int)
 | [],_=>⟨[],rfl,rfl⟩
 | z :: zs,h=>by
  obtain ⟨r,e,b⟩:=xO (zs:=zs) fun x a=>h x (Ed _ a)
  have:=h z Ec
  refine ⟨z.toNat :: r,?_,?_⟩
  ·show L3.D.int z :: Id' zs=L3.D.int (z.toNat:Int) :: Nd r
   rw [e,Int.toNat_of_nonneg this]
  ·rw [Ey,Int.toNat_of_nonneg this,<- b]
theorem wU {n:Nat} {xs:List L3.D} (b:∀ x ∈ xs,nox x=true) (c:xs.length<=30):(∃ r,xs=Nd r/\Ris n r)\/(bm [(.tup xs,.z),(.int (n:Int),.z)]=some (.ok (.bl false,.z),[(.tup xs,.z),(.int (n:Int),.z)])/\aC [(.tup xs,.z),(.int (n:Int),.z)]=some (.ok (.bl false,.z),[(.tup xs,.z),(.int (n:Int),.z)])):=by
 cases hw:xs.all wh with
 | false =>
  refine .inr ⟨ye b c hw _,pB b c _ ?_⟩
  obtain ⟨x,h1,h2⟩:=List.all_eq_false.mp hw
  refine List.all_eq_false.mpr ⟨x,h1,fun h=>h2 ?_⟩
  cases x <;> first | rfl | exact (Ev h).elim
 | true =>
  obtain ⟨zs,rfl⟩:∃ zs,xs=Id' zs:=by
   clear b c
   induction xs with
   | nil=>exact ⟨[],rfl⟩
   | cons x xs ih =>
    rw [List.all_cons,Bool.and_eq_true] at hw
    obtain ⟨zs,rfl⟩:=ih hw.2
    cases x <;> first | exact (Ev hw.1).elim | exact ⟨_ :: zs,rfl⟩
  rw [En] at c
  have L:=vd c (n:Int)
  by_cases f:zs.any (oor (n:Int))=true
  ·refine .inr ⟨?_,pB b (by rw [En];exact c) _ ?_⟩
   ·rw [f] at L;exact L
   ·obtain ⟨z,h1,h2⟩:=List.any_eq_true.mp f
    refine List.all_eq_false.mpr ⟨.int z,Es.mpr ⟨z,h1,rfl⟩,fun h=>?_⟩
    simp only [plc,Bool.and_eq_true,decide_eq_true_eq] at h
    simp only [oor,Bool.or_eq_true,decide_eq_true_eq] at h2
    omega
  ·have f:zs.any (oor (n:Int))=false:=by simpa using f
   have d:∀ z ∈ zs,0<=z/\z < n:=fun z hz=>by
    have:=List.any_eq_false.mp f z hz
    simp only [oor,Bool.or_eq_true,decide_eq_true_eq] at this
    omega
   have i:(Id' zs).all (plc (n:Int))=true:=List.all_eq_true.mpr fun x b=>by
    obtain ⟨z,hz,rfl⟩:=Es.mp b
    have:=d z hz
    simp only [plc,Bool.and_eq_true,decide_eq_true_eq]
    exact this
   have P:=uN c (n:Int) i
   by_cases up:zs.Pairwise (· < ·)
   ·obtain ⟨r,e,g⟩:=xO fun z hz=>(d z hz).1
    refine .inl ⟨r,e,?_,fun x b=>?_⟩
    ·rw [g,List.pairwise_map] at up
     exact up.imp fun j=>by omega
    ·have:=d (x:Int) (by rw [g];exact Es.mpr ⟨x,b,rfl⟩)
     omega
   ·refine .inr ⟨?_,?_⟩
    ·have:decide (zs=srt (zs.foldl met []))=false:=EA fun h=>up ((up_ss zs).mp h)
     rw [this,Bool.and_false] at L
     exact L
    ·have:(List.range (zs.length - 1)).all (stp zs)=false:=by
      cases h:(List.range (zs.length - 1)).all (stp zs) with
      | false=>rfl
      | true =>
       refine absurd (qm zs fun a f=>?_) up
       have:=List.all_eq_true.mp h a (List.mem_range.mpr (by omega))
       exact of_decide_eq_true this
     rw [this] at P
     exact P
def Th (d:L3.D):Prop:=nox d=true/\∀ xs,d=.tup xs->(∀ x ∈ xs,nox x=true)/\xs.length<=30
theorem Cs {d:L3.D} (h:nox d=true) (c:∀ xs,d ≠ .tup xs) (N:L3.D):bm [(d,.z),(N,.z)]=some (.ok (.bl false,.z),[(d,.z),(N,.z)])/\aC [(d,.z),(N,.z)]=some (.ok (.bl false,.z),[(d,.z),(N,.z)]):=by
 have a:fR "tuple" d=some (.bl false,.z):=by
  cases d <;> first | exact (Ev h).elim | exact absurd rfl (c _) | rfl
 clear h c
 constructor
 ·apply aG (ρ:=[some (d,.z),some (N,.z)]) (ρ1:=[some (d,.z),some (N,.z)]) rfl rfl
  ·unfold dO
   refine cO (dn (b:=true) (qa (b:=true) ?_ rfl) rfl (a8 i_c rfl))
   exact bj (cD (r0 (ay rfl) rfl a) rfl)
  ·rfl
 ·apply aG (ρ:=[some (d,.z),some (N,.z)]) (ρ1:=[some (d,.z),some (N,.z)]) rfl rfl
  ·unfold bY
   refine cO (dn (b:=true) (qa (b:=true) ?_ rfl) rfl (a8 i_c rfl))
   exact bj (cD (r0 (ay rfl) rfl a) rfl)
  ·rfl
theorem wV {ps:List Pt} (g:GoodSh ps) (m:ps.length<=7) {d:L3.D} (h:Th d):∃ b,bc [(Shd ps,.z),(d,.z)]=some (.ok (.bl b,.z),[(Shd ps,.z),(d,.z)])/\dH [(d,.z),(Shd ps,.z)]=some (.ok (.bl b,.z),[(d,.z),(Shd ps,.z)]):=by
 have at':=wN g (by omega)
 have f:=iS ps
 have up:∀ b,bc [(Shd ps,.z),(d,.z)]=some (.ok (.bl b,.z),[(Shd ps,.z),(d,.z)])->bV [(.dt (tb ps (iO ps.length)),.u),(d,.z),(.int (ps.length:Int),.z)]=some (.ok (.bl b,.z),[(.dt (tb ps (iO ps.length)),.u),(d,.z),(.int (ps.length:Int),.z)])->∃ b,bc [(Shd ps,.z),(d,.z)]=some (.ok (.bl b,.z),[(Shd ps,.z),(d,.z)])/\dH [(d,.z),(Shd ps,.z)]=some (.ok (.bl b,.z),[(d,.z),(Shd ps,.z)]):=fun b h1 h2=>by
  refine ⟨b,h1,?_⟩
  clear h1 h
  generalize tb ps (iO ps.length)=T at *
  generalize L3.D.int (ps.length:Int)=LN at *
  generalize Shd ps=H at *
  apply aG (ρ:=[some (d,.z),some (H,.z)]) (ρ1:=[some (d,.z),some (H,.z)]) rfl rfl
  ·unfold mO
   apply a8
   ·exact ak h2 (av (ak at' (av (ay rfl) aR) rfl rfl rfl) (av (ay rfl) (av (aY (av (ay rfl) aR) rfl f) aR))) rfl rfl rfl
   ·rfl
  ·rfl
 have no:bm [(d,.z),(.int (ps.length:Int),.z)]=some (.ok (.bl false,.z),[(d,.z),(.int (ps.length:Int),.z)])->aC [(d,.z),(.int (ps.length:Int),.z)]=some (.ok (.bl false,.z),[(d,.z),(.int (ps.length:Int),.z)])->∃ b,bc [(Shd ps,.z),(d,.z)]=some (.ok (.bl b,.z),[(Shd ps,.z),(d,.z)])/\dH [(d,.z),(Shd ps,.z)]=some (.ok (.bl b,.z),[(d,.z),(Shd ps,.z)]):=fun a c=>by
  refine up false ?_ ?_
  ·clear up h at'
   generalize L3.D.int (ps.length:Int)=LN at *
   generalize Shd ps=H at *
   apply aG (ρ:=[some (H,.z),some (d,.z)]) (ρ1:=[some (H,.z),some (d,.z)]) rfl rfl
   ·unfold eF
    refine cO (dn (b:=true) (qa (b:=true) ?_ rfl) rfl (a8 i_c rfl))
    exact bj (cD (ak a (av (ay rfl) (av (aY (av (ay rfl) aR) rfl f) aR)) rfl rfl rfl) rfl)
   ·rfl
  ·clear up h at'
   generalize tb ps (iO ps.length)=T at *
   generalize L3.D.int (ps.length:Int)=LN at *
   apply aG (ρ:=[some (.dt T,.u),some (d,.z),some (LN,.z)]) (ρ1:=[some (.dt T,.u),some (d,.z),some (LN,.z)]) rfl rfl
   ·unfold fP
    refine cO (dn (b:=true) (qa (b:=true) ?_ rfl) rfl (a8 i_c rfl))
    exact bj (cD (ak c (av (ay rfl) (av (ay rfl) aR)) rfl rfl rfl) rfl)
   ·rfl
 by_cases i:∃ xs,d=.tup xs
 ·obtain ⟨xs,rfl⟩:=i
  obtain ⟨k,j⟩:=h.2 xs rfl
  rcases wU (n:=ps.length) k j with ⟨r,rfl,l⟩ | ⟨a,c⟩
  ·obtain ⟨b1,b2⟩:=both g (oS ps) l
   exact up _ b1 b2
  ·exact no a c
 ·obtain ⟨a,c⟩:=Cs h.1 (fun xs e=>i ⟨xs,e⟩) (.int (ps.length:Int))
  exact no a c
theorem pC {m:Nat}:∀ {ts:List Str},(∀ t ∈ ts,t.length<=m)->piled ts<=ts.length * (m+2)
 | [],_=>by simp [piled]
 | t :: ts,h=>by
  have h1:=h t Ec
  have h2:=pC (ts:=ts) fun u hu=>h u (Ed _ hu)
  rw [piled_cons,EF,Nat.succ_mul]
  omega
theorem qO {m:Nat} {ts:List Str} (h:∀ t ∈ ts,t.length<=m):(tupleText ts).length<=ts.length * (m+2)+3:=by
 have a:=pC h
 have b:(Str.join ", " ts).length<=ts.length * (m+2):=by
  by_cases e:ts=[]
  ·subst e;exact Nat.zero_le _
  ·have:=join_length_add ts e
   omega
 unfold tupleText
 rw [strLen_append,strLen_append]
 have e1:(("(":String):Str).length=1:=rfl
 have c:((if ts.length == 1 then ",)" else ")":String):Str).length<=2:=by
  cases ts.length == 1 <;> decide
 omega
theorem j3 {m:Nat}:∀ {ts:List Str} {k:Nat} {acc:Str},(∀ t ∈ ts,t.length<=m)->(textFrom k acc ts).length<=acc.length+ts.length * (m+2)
 | [],_,_,_=>by simp [textFrom]
 | t :: ts,k,acc,h=>by
  have h1:=h t Ec
  have h2:=j3 (ts:=ts) (k:=k+1) (acc:=acc ++ (if k > 0 then ", " else "":String) ++ t) fun u hu=>h u (Ed _ hu)
  have b:((if k > 0 then ", " else "":String):Str).length<=2:=by
   by_cases a:k > 0
   ·rw [if_pos a] <;> decide
   ·rw [if_neg a] <;> decide
  rw [strLen_append,strLen_append] at h2
  rw [EF,Nat.succ_mul]
  show (textFrom (k+1) _ ts).length<=_
  omega
mutual
theorem xl:∀ (d:L3.D) (p:PyData),pyD d=some p->p.hasDict=false
 | .non,p,e=>by unfold pyD at e;cases e;rfl
 | .bl _,p,e=>by unfold pyD at e;cases e;rfl
 | .int _,p,e=>by unfold pyD at e;cases e;rfl
 | .str _,p,e=>by unfold pyD at e;cases e;rfl
 | .tup xs,p,e=>by
  unfold pyD at e
  obtain ⟨ps,e1,rfl⟩:=Ef.mp e
  simpa [PyData.hasDict] using kK xs ps e1
 | .lst xs,p,e=>by
  unfold pyD at e
  obtain ⟨ps,e1,rfl⟩:=Ef.mp e
  simpa [PyData.hasDict] using kK xs ps e1
 | .fls xs,p,e=>by
  unfold pyD at e
  obtain ⟨ps,e1,rfl⟩:=Ef.mp e
  simpa [PyData.hasDict] using kK xs ps e1
 | .dk _,p,e=>by unfold pyD at e;cases e
 | .dt _,p,e=>by unfold pyD at e;cases e
 | .exc _ _,p,e=>by unfold pyD at e;cases e
theorem kK:∀ (ds:List L3.D) (ps:List PyData),d6 ds=some ps->PyData.hasDictAll ps=false
 | [],ps,e=>by unfold d6 at e;cases e;rfl
 | d :: ds,ps,e=>by
  unfold d6 at e
  cases h1:pyD d with
  | none=>rw [h1] at e;cases e
  | some p =>
   cases h2:d6 ds with
   | none=>rw [h1,h2] at e;cases e
   | some qs =>
    rw [h1,h2] at e
    cases e
    simp [PyData.hasDictAll,xl d p h1,kK ds qs h2]
end
def sm (f:L3.D->Option PyData) (k m:Nat) (d:L3.D):Bool:=match f d with
 | some p=>p.showable && decide (p.depth<=k) && decide (p.shown.length<=m)
 | none=>false
structure Sml (k m:Nat) (p:PyData):Prop where
 s:p.showable=true
 d:p.depth<=k
 l:p.shown.length<=m
theorem nt {f:L3.D->Option PyData} {k m:Nat} {d:L3.D} (h:sm f k m d=true):∃ p,f d=some p/\Sml k m p:=by
 unfold sm at h
 cases e:f d with
 | none=>rw [e] at h;cases h
 | some p =>
  rw [e] at h
  simp only [Bool.and_eq_true,decide_eq_true_eq] at h
  exact ⟨p,rfl,h.1.1,h.1.2,h.2⟩
theorem wl {f:L3.D->Option PyData} {k m:Nat} {d:L3.D} {p:PyData} (e:f d=some p) (h:Sml k m p):sm f k m d=true:=by
 unfold sm
 rw [e]
 simp [h.s,h.d,h.l]
theorem bN {f:L3.D->Option PyData} {k m a b:Nat} {d:L3.D} (h:sm f k m d=true) (c:k<=a) (hm:m<=b):sm f a b d=true:=by
 obtain ⟨p,e,q⟩:=nt h
 exact wl e ⟨q.s,ES q.d c,ES q.l hm⟩
structure Rdg (f:L3.D->Option PyData) (fs:List L3.D->Option (List PyData)):Prop where
 n:fs []=some []
 c:∀ d ds p ps,f d=some p->fs ds=some ps->fs (d :: ds)=some (p :: ps)
 t:∀ xs ps,fs xs=some ps->f (.tup xs)=some (.tuple ps)
theorem rdD:Rdg pyD d6:=⟨rfl,fun d ds p ps h1 h2=>by unfold d6;rw [h1,h2],fun xs ps h=>by unfold pyD;rw [h];rfl⟩
theorem rdN:Rdg pyN pj:=⟨rfl,fun d ds p ps h1 h2=>by unfold pj;rw [h1,h2],fun xs ps h=>by unfold pyN;rw [h];rfl⟩
theorem qY {f:L3.D->Option PyData} {fs:List L3.D->Option (List PyData)} (R:Rdg f fs) {k m:Nat}:∀ {xs:List L3.D},(∀ x ∈ xs,sm f k m x=true)->∃ ps,fs xs=some ps/\PyData.showableAll ps=true/\PyData.depthAll ps<=k/\(∀ t ∈ PyData.shownAll ps,t.length<=m)/\(PyData.shownAll ps).length=xs.length
 | [],_=>⟨[],R.n,rfl,Nat.zero_le _,(fun t a=>by cases a),rfl⟩
 | x :: xs,h=>by
  obtain ⟨p,a1,a2⟩:=nt (h x Ec)
  obtain ⟨ps,b1,b2,i,b,e⟩:=qY R (xs:=xs) fun y g=>h y (Ed _ g)
  refine ⟨p :: ps,R.c _ _ _ _ a1 b1,by simp [PyData.showableAll,a2.s,b2],by have:=a2.d;simp only [PyData.depthAll];omega,fun t a=>?_,by simp [PyData.shownAll,e]⟩
  rcases Ei.mp (show t ∈ p.shown :: PyData.shownAll ps from a) with rfl | a
  ·exact a2.l
  ·exact b t a
theorem qX {f:L3.D->Option PyData} {fs:List L3.D->Option (List PyData)} (R:Rdg f fs) {k m:Nat} {xs:List L3.D} (h:∀ x ∈ xs,sm f k m x=true):sm f (k+1) (xs.length * (m+2)+3) (.tup xs)=true:=by
 obtain ⟨ps,b1,b2,c,a,b⟩:=qY R h
 have:=qO a
 rw [b] at this
 exact wl (R.t xs ps b1) ⟨by simpa [PyData.showable] using b2,by simp only [PyData.depth];omega,by simpa only [PyData.shown] using this⟩
theorem Ca {k m:Nat} {xs:List L3.D} (h:∀ x ∈ xs,sm pyD k m x=true):sm pyD (k+1) (xs.length * (m+2)+3) (.lst xs)=true:=by
 obtain ⟨ps,b1,b2,d,a,b⟩:=qY rdD h
 have h1:=j3 (k:=0) (acc:="[") a
 rw [b] at h1
 have e1:(("[":String):Str).length=1:=rfl
 have e:(("]":String):Str).length=1:=rfl
 have:(listText (PyData.shownAll ps)).length<=xs.length * (m+2)+3:=by
  unfold listText
  rw [strLen_append]
  omega
 have c:pyD (.lst xs)=some (.list ps):=by unfold pyD;rw [b1];rfl
 exact wl c ⟨by simpa [PyData.showable] using b2,by simp only [PyData.depth];omega,by simpa only [PyData.shown] using this⟩
def Sh' (d:L3.D):Prop:=∃ t,jE d=some (.str t,.z)
theorem Bo {d:L3.D} {p:PyData} (e:jE d=shA d) (h:pyA d=some p) (q:Sml 16 16777216 p):Sh' d:=⟨p.shown,by
 have a:kX p=true:=by unfold kX;simp [q.s,q.d,q.l]
 rw [e]
 unfold shA
 rw [h]
 show (if kX p=true then _ else _)=_
 rw [if_pos a]⟩
theorem sh_D {d:L3.D} (e:jE d=shA d) (h:sm pyD 16 16777216 d=true):Sh' d:=by
 obtain ⟨p,h1,q⟩:=nt h
 refine Bo e ?_ q
 unfold pyA
 rw [h1]
 show (if p.hasDict then none else some p)=_
 rw [xl d p h1]
 rfl
theorem sh_N {d:L3.D} (e:jE d=shA d) (h0:pyD d=none) (h:sm pyN 16 16777216 d=true):Sh' d:=by
 obtain ⟨p,h1,q⟩:=nt h
 refine Bo e ?_ q
 unfold pyA
 rw [h0]
 exact h1
def ov:List L3.D:=[.non,.bl true,.bl false,.int 0,.int (-1),.int 1,.str "",.str "1",.tup [],.lst [],.tup [.int 0],.tup [.int 0,.int 1],.lst [.int 0],.dk [(.inr "a",.int 1)],.int 100000000000000000000000000000,.tup [.tup [.int 0,.int 0]],.tup [.tup [.int 0,.int 1],.tup [.int 1,.int 2]],.str "0,0",.tup [.int 0,.int 1,.int 2],.dt [([.inl 0,.inl 1],.int 2)]]
theorem ov_at (i:Nat) (h:i < 20):∃ v,aA (.lst ov) (.int (i:Int))=some (v,.z)/\v ∈ ov:=by
 have a:i < ov.length:=h
 exact ⟨ov[i],iq (by
  unfold L2.atI L2.ixN
  rw [if_pos (by omega),if_pos (by omega)]
  simp [a]),List.getElem_mem a⟩
theorem zL {n m:Int} {j v:L3.D} (t:aT [(.lst [.int n],.u),(.int 20,.z)]=some (.ok (j,.z),[(.lst [.int m],.u),(.int 20,.z)])) (h:aA (.lst ov) j=some (v,.z)):jv [(.lst [.int n],.u)]=some (.ok (v,.z),[(.lst [.int m],.u)]):=by
 have a:∀ B:L3.D,(aP 1 (cA (aa (mC .non) (aa (mC (.bl true)) (aa (mC (.bl false)) (aa (mC (.int 0)) (aa (mUn eZ (mC (.int 1))) (aa (mC (.int 1)) (aa (mC (.str "")) (aa (mC (.str "1")) (aa (bp af) (aa (cA af) (aa (bp (aa (mC (.int 0)) af)) (aa (bp (aa (mC (.int 0)) (aa (mC (.int 1)) af))) (aa (cA (aa (mC (.int 0)) af)) (aa (Dp (.inr "a") 1) af)))))))))))))))) [some (B,.u),none]=some (.ok .nx,[some (B,.u),some (.lst (ov.take 14),.u)]):=fun B=>by kernel_rfl
 have b:∀ B:L3.D,(aP 1 (ah aO (ac 1) (cA (aa (ah rB (mC (.int 10)) (mC (.int 29))) (aa (bp (aa (bp (aa (mC (.int 0)) (aa (mC (.int 0)) af))) af)) (aa (bp (aa (bp (aa (mC (.int 0)) (aa (mC (.int 1)) af))) (aa (bp (aa (mC (.int 1)) (aa (mC (.int 2)) af))) af))) (aa (mC (.str "0,0")) (aa (bp (aa (mC (.int 0)) (aa (mC (.int 1)) (aa (mC (.int 2)) af)))) (aa (Do [0,1] 2) af))))))))) [some (B,.u),some (.lst (ov.take 14),.u)]=some (.ok .nx,[some (B,.u),some (.lst ov,.u)]):=fun B=>by kernel_rfl
 have a:=a (.lst [.int n])
 have b:=b (.lst [.int n])
 generalize L3.D.lst (ov.take 14)=S7 at *
 generalize L3.D.lst ov=SV at *
 apply aG (ρ:=[some (.lst [.int n],.u),none]) (ρ1:=[some (.lst [.int m],.u),some (SV,.u)]) rfl rfl
 ·unfold tL
  refine ao a ?_
  refine ao b ?_
  apply a8
  ·nomatch [t],[h]
  ·rfl
 ·rfl
theorem jS {xs:List L3.D} {d:L3.D} {lo hi:Option Int} (h:d ∈ cK xs lo hi):d ∈ xs:=by
 unfold cK at h
 first | exact List.mem_of_mem_drop (List.mem_of_mem_take h) | exact List.mem_of_mem_take (List.mem_of_mem_drop h)
def thB:L3.D->Bool
 | .exc _ _=>false
 | .tup xs=>xs.all nox && decide (xs.length<=30)
 | _=>true
theorem Bd {d:L3.D} (h:thB d=true):Th d:=by
 refine ⟨?_,?_⟩
 ·cases d <;> first | rfl | exact (Ev h).elim
 ·rintro xs rfl
  have h:(xs.all nox && decide (xs.length<=30))=true:=h
  rw [Bool.and_eq_true] at h
  exact ⟨fun x a=>List.all_eq_true.mp h.1 x a,of_decide_eq_true h.2⟩
def shB:L3.D->Bool:=fun d=>match jE d with
 | some (.str _,.z)=>true
 | _=>false
theorem sh_b {d:L3.D} (h:shB d=true):Sh' d:=by
 unfold shB at h
 split at h
 ·exact ⟨_,by assumption⟩
 ·cases h
def inB (d:L3.D):Bool:=nox d && (sm pyD 3 100 d || ((pyD d).isNone && sm pyN 3 100 d))
def odB (d:L3.D):Bool:=thB d && shB d && inB d
theorem ov_ok:ov.map odB=ov.map fun _=>true:=by kernel_rfl
theorem xE {v:L3.D} (h:v ∈ ov):thB v=true/\shB v=true/\inB v=true:=by
 have:=List.map_inj_left.mp ov_ok v h
 unfold odB at this
 rw [Bool.and_eq_true,Bool.and_eq_true] at this
 exact ⟨this.1.1,this.1.2,this.2⟩
theorem ints8:(List.range 9).map (fun i:Nat=>(sm pyD 0 20 (.int (i:Int)),sm pyN 0 20 (.int (i:Int))))=(List.range 9).map fun _=>(true,true):=by kernel_rfl
theorem rX {i:Nat} (h:i < 9):sm pyD 0 20 (.int (i:Int))=true/\sm pyN 0 20 (.int (i:Int))=true:=by
 have:=List.map_inj_left.mp ints8 i (List.mem_range.mpr h)
 exact ⟨congrArg Prod.fst this,congrArg Prod.snd this⟩
theorem bl_sm (b:Bool):sm pyD 0 20 (.bl b)=true:=by cases b <;> kernel_rfl
theorem ni {r:List Nat} (h:∀ x ∈ r,x < 9):∀ d ∈ Nd r,sm pyD 0 20 d=true/\nox d=true/\sm pyN 0 20 d=true:=fun d hd=>by
 obtain ⟨x,a,rfl⟩:=Es.mp hd
 exact ⟨(rX (h x a)).1,rfl,(rX (h x a)).2⟩
theorem fS {xs:List L3.D} (h:∀ d ∈ xs,sm pyD 3 1000 d=true/\nox d=true) (a:xs.length<=30):Th (.tup xs)/\Sh' (.tup xs):=by
 refine ⟨⟨rfl,?_⟩,sh_D rfl (bN (qX rdD fun d hd=>(h d hd).1) (by decide) ?_)⟩
 ·intro ys e
  cases e
  exact ⟨fun d hd=>(h d hd).2,a⟩
 ·omega
theorem DB {V:L3.D} (f:V ∈ ov) {r:List Nat} (b:∀ x ∈ r,x < 9) (i:r.length<=20):Th (.tup ([V] ++ Nd r))/\Sh' (.tup ([V] ++ Nd r)):=by
 obtain ⟨_,_,hi⟩:=xE f
 unfold inB at hi
 rw [Bool.and_eq_true,Bool.or_eq_true] at hi
 obtain ⟨c,a⟩:=hi
 have g:Th (.tup ([V] ++ Nd r)):=by
  refine ⟨rfl,?_⟩
  intro ys e
  cases e
  refine ⟨fun d hd=>?_,by simp;omega⟩
  rcases El.mp hd with h | h
  ·rw [EJ.mp h];exact c
  ·exact (ni b d h).2.1
 rcases a with a | a
 ·refine fS (fun d hd=>?_) (by simp;omega)
  rcases El.mp hd with h | h
  ·rw [EJ.mp h];exact ⟨bN a (by decide) (by decide),c⟩
  ·exact ⟨bN (ni b d h).1 (by decide) (by decide),(ni b d h).2.1⟩
 ·rw [Bool.and_eq_true] at a
  refine ⟨g,sh_N rfl ?_ (bN (qX (m:=100) (k:=3) rdN fun d hd=>?_) (by decide) (by simp;omega))⟩
  ·unfold pyD
   show (d6 (V :: Nd r)).map _=none
   unfold d6
   cases e:pyD V with
   | none=>rfl
   | some p=>rw [e] at a;cases a.1
  ·rcases El.mp hd with h | h
   ·rw [EJ.mp h];exact a.2
   ·exact bN (ni b d h).2.2 (by decide) (by decide)
theorem om {xs:List L3.D} {lo hi:Option Int}:(cK xs lo hi).length<=xs.length:=by
 unfold cK
 simp only [EG,List.length_drop]
 omega
theorem xR:∀ (l ns:List Int) (x:Int),x ∈ l.foldl met ns->x ∈ ns\/x ∈ l
 | [],ns,x,h=>.inl h
 | y :: l,ns,x,h=>by
  rcases xR l (met ns y) x h with h | h
  ·unfold met at h
   split at h
   ·exact .inl h
   ·rcases El.mp h with h | h
    ·exact .inl h
    ·exact .inr (EJ.mp h ▸ Ec)
  ·exact .inr (Ed _ h)
theorem jg:∀ (l ns:List Int),(l.foldl met ns).length<=ns.length+l.length
 | [],ns=>by simp
 | y :: l,ns=>by
  have h:=jg l (met ns y)
  have:(met ns y).length<=ns.length+1:=by
   unfold met
   split <;> simp
  rw [List.foldl_cons,EF]
  omega
theorem rv_is {B N V A S:L3.D} {xs:List L3.D} {f:Fl}:p4 (ac 1) (bR (mUn eZ (mC (.int 1)))) [some (B,.u),some (.tup xs,.z),some (N,.z),some (V,.z),some (A,.z),some (S,f)]=some (.ok (.val (.tup xs.reverse) .z),[some (B,.u),some (.tup xs,.z),some (N,.z),some (V,.z),some (A,.z),some (S,f)]):=rfl
theorem iG (n:Int) {m:Nat} (h:0 < m):∃ x:Nat,x < m/\n % (m:Int)=(x:Int):=by
 have:=dC n (m:Int) (by omega)
 exact ⟨(n % (m:Int)).toNat,by omega,by omega⟩
theorem wL {M:Nat} {r:List Nat} (h:Ris M r) (h3:1<=r.length) (hM:M<=7) {V:L3.D} (hV:V ∈ ov) (n:Int):∃ n' d,jy [(.lst [.int n],.u),(.tup (Nd r),.z),(.int (M:Int),.z),(V,.z)]=some (.ok (d,.z),[(.lst [.int n'],.u),(.tup (Nd r),.z),(.int (M:Int),.z),(V,.z)])/\Th d/\Sh' d:=by
 have rl:=h.len
 have C:∀ x ∈ r,x < 9:=fun x Q=>by have:=h.lt x Q;omega
 have ln:bZ [.tup (Nd r)]=some (.int (r.length:Int),.z):=by simp [kA,c1]
 have t0:=cX n (r.length:Int) (by omega)
 obtain ⟨a,T,W⟩:=iG n (m:=r.length) (by omega)
 rw [W] at t0
 generalize n / (r.length:Int)=n1 at t0
 clear W
 have t1:=cX n1 (M:Int) (by have:=h.len;omega)
 obtain ⟨x,Q,ex⟩:=iG n1 (m:=M) (by omega)
 rw [ex] at t1
 generalize n1 / (M:Int)=n2 at t1
 clear ex
 have O:=cX n2 9 (by decide)
 obtain ⟨j,hj,P⟩:=iG n2 (m:=9) (by decide)
 rw [show ((9:Nat):Int)=9 from rfl] at P
 rw [P] at O
 generalize n2 / 9=n3 at O
 clear P
 have o:=ni C
 have nl:(Nd r).length=r.length:=En _
 have s1:slD (.tup (Nd r)) none (some (a:Int))=some (.tup (cK (Nd r) none (some (a:Int))),.z):=rfl
 have s2:slD (.tup (Nd r)) (some ((a:Int)+1)) none=some (.tup (cK (Nd r) (some ((a:Int)+1)) none),.z):=rfl
 have s3:slD (.tup (Nd r)) (some (a:Int)) none=some (.tup (cK (Nd r) (some (a:Int)) none),.z):=rfl
 have J:∀ d ∈ cK (Nd r) none (some (a:Int)),sm pyD 3 1000 d=true/\nox d=true:=fun d hd=>⟨bN (o d (jS hd)).1 (by decide) (by decide),(o d (jS hd)).2.1⟩
 have U:∀ d ∈ cK (Nd r) (some ((a:Int)+1)) none,sm pyD 3 1000 d=true/\nox d=true:=fun d hd=>⟨bN (o d (jS hd)).1 (by decide) (by decide),(o d (jS hd)).2.1⟩
 have m3:∀ d ∈ cK (Nd r) (some (a:Int)) none,sm pyD 3 1000 d=true/\nox d=true:=fun d hd=>⟨bN (o d (jS hd)).1 (by decide) (by decide),(o d (jS hd)).2.1⟩
 have l1:=om (xs:=Nd r) (lo:=none) (hi:=some (a:Int))
 have l2:=om (xs:=Nd r) (lo:=some ((a:Int)+1)) (hi:=none)
 have l3:=om (xs:=Nd r) (lo:=some (a:Int)) (hi:=none)
 generalize cK (Nd r) none (some (a:Int))=C1 at *
 generalize cK (Nd r) (some ((a:Int)+1)) none=C2 at *
 generalize cK (Nd r) (some (a:Int)) none=C3 at *
 have g:=jB (r:=r) (i:=a) T
 have he:el r a < 9:=C _ (lH T)
 generalize el r a=e at *
 have q:eqX (.int (e:Int)) (.int 1)=some (.bl (decide ((e:Int)=1)),.z):=rfl
 generalize decide ((e:Int)=1)=bq at *
 have I:∀ {i:Nat},i < 9->sm pyD 3 1000 (.int (i:Int))=true/\nox (.int (i:Int))=true:=fun hi=>⟨bN (rX hi).1 (by decide) (by decide),rfl⟩
 have L:∀ d ∈ Nd r,sm pyD 3 1000 d=true/\nox d=true:=fun d hd=>⟨bN (o d hd).1 (by decide) (by decide),(o d hd).2.1⟩
 have c1:aO (.tup C1) (.tup C2)=some (.tup (C1 ++ C2),.z):=cU (by omega)
 have T0:Th (.tup (C1 ++ C2))/\Sh' (.tup (C1 ++ C2)):=fS (fun d hd=>(El.mp hd).elim (J d) (U d)) (by simp;omega)
 have c2:aO (.tup C1) (.tup [.int (e:Int)])=some (.tup (C1 ++ [.int (e:Int)]),.z):=cU (by simp;omega)
 have c3:aO (.tup (C1 ++ [.int (e:Int)])) (.tup C3)=some (.tup (C1 ++ [.int (e:Int)] ++ C3),.z):=cU (by simp;omega)
 have T1:Th (.tup (C1 ++ [.int (e:Int)] ++ C3))/\Sh' (.tup (C1 ++ [.int (e:Int)] ++ C3)):=by
  refine fS (fun d hd=>?_) (by simp;omega)
  rcases El.mp hd with hd | hd
  ·rcases El.mp hd with hd | hd
   ·exact J d hd
   ·rw [EJ.mp hd];exact I he
  ·exact m3 d hd
 have c4:aO (.tup (Nd r)) (.tup [.int (M:Int)])=some (.tup (Nd r ++ [.int (M:Int)]),.z):=cU (by simp;omega)
 have T2:Th (.tup (Nd r ++ [.int (M:Int)]))/\Sh' (.tup (Nd r ++ [.int (M:Int)])):=by
  refine fS (fun d hd=>?_) (by simp;omega)
  rcases El.mp hd with hd | hd
  ·exact L d hd
  ·rw [EJ.mp hd];exact I (by omega)
 have li:u9 [.tup (Nd r)]=some (.lst (Nd r),.u):=rfl
 have T3:Th (.lst (Nd r))/\Sh' (.lst (Nd r)):=⟨⟨rfl,fun xs e=>by cases e⟩,sh_D rfl (bN (Ca (k:=0) (m:=20) fun d hd=>(o d hd).1) (by decide) (by rw [nl];omega))⟩
 have rv:∀ {B N V A S:L3.D} {f:Fl},p4 (ac 1) (bR (mUn eZ (mC (.int 1)))) [some (B,.u),some (.tup (Nd r),.z),some (N,.z),some (V,.z),some (A,.z),some (S,f)]=some (.ok (.val (.tup (Nd r).reverse) .z),[some (B,.u),some (.tup (Nd r),.z),some (N,.z),some (V,.z),some (A,.z),some (S,f)]):=rv_is
 have T4:Th (.tup (Nd r).reverse)/\Sh' (.tup (Nd r).reverse):=fS (fun d hd=>L d (List.mem_reverse.mp hd)) (by simp;omega)
 have c5:aO (.tup [V]) (.tup (Nd r))=some (.tup ([V] ++ Nd r),.z):=cU (by simp;omega)
 have T5:=DB hV C (by omega)
 have c6:aO (.tup C1) (.tup [.bl bq])=some (.tup (C1 ++ [.bl bq]),.z):=cU (by simp;omega)
 have c7:aO (.tup (C1 ++ [.bl bq])) (.tup C2)=some (.tup (C1 ++ [.bl bq] ++ C2),.z):=cU (by simp;omega)
 have T6:Th (.tup (C1 ++ [.bl bq] ++ C2))/\Sh' (.tup (C1 ++ [.bl bq] ++ C2)):=by
  refine fS (fun d hd=>?_) (by simp;omega)
  rcases El.mp hd with hd | hd
  ·rcases El.mp hd with hd | hd
   ·exact J d hd
   ·rw [EJ.mp hd];exact ⟨bN (bl_sm bq) (by decide) (by decide),rfl⟩
  ·exact U d hd
 have T7:Th (.tup [.tup (Nd r)])/\Sh' (.tup [.tup (Nd r)]):=by
  refine fS (fun d hd=>?_) (by simp)
  rw [EJ.mp hd]
  exact ⟨bN (qX (k:=0) (m:=20) rdD fun d hd=>(o d hd).1) (by decide) (by rw [nl];omega),rfl⟩
 have c8:aO (.tup (Nd r)) (.tup [.int (x:Int)])=some (.tup (Nd r ++ [.int (x:Int)]),.z):=cU (by simp;omega)
 obtain ⟨zs,ss,hz,K⟩:∃ zs:List Int,ssD [.tup (Nd r ++ [.int (x:Int)])]=some (.lst (Id' zs),.u)/\(∀ z ∈ zs,0<=z/\z < 9)/\zs.length<=8:=by
  have i1:bv (Nd r ++ [.int (x:Int)])=some ((r ++ [x]).map fun y:Nat=>(y:Int)):=by
   have:=tU (r ++ [x])
   rw [DT] at this
   exact this
  refine ⟨srt (((r ++ [x]).map fun y:Nat=>(y:Int)).foldl met []),?_,fun z hz=>?_,?_⟩
  ·show (bv _).bind _=_
   rw [i1]
   show (if _ < 64 then _ else none)=_
   rw [if_pos (by simp;omega)]
  ·rcases xR _ _ z ((dJ _).subset hz) with hz | hz
   ·cases hz
   ·obtain ⟨y,H,rfl⟩:=Es.mp hz
    rcases El.mp H with H | H
    ·have:=C y H;omega
    ·have:=EJ.mp H;omega
  ·have:=jg ((r ++ [x]).map fun y:Nat=>(y:Int)) []
   rw [(dJ _).length_eq]
   simp at this ⊢
   omega
 have tp:lN [.lst (Id' zs)]=some (.tup (Id' zs),.z):=rfl
 have T8:Th (.tup (Id' zs))/\Sh' (.tup (Id' zs)):=by
  refine fS (fun d hd=>?_) (by simp;omega)
  obtain ⟨z,F,rfl⟩:=Es.mp hd
  have:=hz z F
  have:=I (i:=z.toNat) (by omega)
  rwa [Int.toNat_of_nonneg (hz z F).1] at this
 clear J U m3 l1 l2 l3 C o hz K h I L nl he rl T Q
 generalize L3.D.tup (C1 ++ C2)=p at *
 generalize L3.D.tup (C1 ++ [.int (e:Int)] ++ C3)=c at *
 generalize L3.D.tup (C1 ++ [.int (e:Int)])=B1 at *
 generalize L3.D.tup (Nd r ++ [.int (M:Int)])=b at *
 generalize L3.D.lst (Nd r)=l at *
 generalize L3.D.tup (Nd r).reverse=v at *
 generalize L3.D.tup ([V] ++ Nd r)=s at *
 generalize L3.D.tup (C1 ++ [.bl bq] ++ C2)=t at *
 generalize L3.D.tup (C1 ++ [.bl bq])=B2 at *
 generalize L3.D.tup (Id' zs)=w at *
 generalize L3.D.lst (Id' zs)=Z at *
 generalize L3.D.tup (Nd r ++ [.int (x:Int)])=Y at *
 generalize L3.D.tup C1=D1 at *
 generalize L3.D.tup C2=D2 at *
 generalize L3.D.tup C3=D3 at *
 generalize L3.D.tup (Nd r)=R at *
 generalize L3.D.int (r.length:Int)=LR at *
 generalize hE:L3.D.int (e:Int)=E at *
 generalize L3.D.int (M:Int)=N at *
 generalize L3.D.int (x:Int)=X at *
 have k1:aO (.lst [p,c,b,l]) (.lst [v,s,t,.tup [R]])=some (.lst [p,c,b,l,v,s,t,.tup [R]],.u):=iH (by simp)
 have k2:vL (.lst [p,c,b,l,v,s,t,.tup [R]]) [w]=some (.lst [p,c,b,l,v,s,t,.tup [R],w],.non):=y9 (by simp)
 obtain ⟨d,gd,hd⟩:∃ d,aA (.lst [p,c,b,l,v,s,t,.tup [R],w]) (.int (j:Int))=some (d,.z)/\Th d/\Sh' d:=by
  have all:∀ d ∈ [p,c,b,l,v,s,t,.tup [R],w],Th d/\Sh' d:=by
   intro d hd
   simp only [Ei,List.not_mem_nil,or_false] at hd
   rcases hd with rfl | rfl | rfl | rfl | rfl | rfl | rfl | rfl | rfl <;> assumption
  have G:j < [p,c,b,l,v,s,t,.tup [R],w].length:=hj
  exact ⟨_,iq (iU (Ej G)),all _ (List.getElem_mem G)⟩
 refine ⟨n3,d,?_,hd⟩
 clear hd T0 T1 T2 T3 T4 T5 T6 T7 T8
 have ad:aO (.int (a:Int)) (.int 1)=some (.int ((a:Int)+1),.z):=rfl
 apply aG (ρ:=[some (.lst [.int n],.u),some (R,.z),some (N,.z),some (V,.z),none,none]) (ρ1:=[some (.lst [.int n3],.u),some (R,.z),some (N,.z),some (V,.z),some (.int (a:Int),.z),some (.lst [p,c,b,l,v,s,t,.tup [R],w],.u)]) rfl rfl
 ·unfold pX
  apply ao (ρ1:=[some (.lst [.int n1],.u),some (R,.z),some (N,.z),some (V,.z),some (.int (a:Int),.z),none])
  ·nomatch [t0],[ln]
  apply ao (ρ1:=[some (.lst [.int n1],.u),some (R,.z),some (N,.z),some (V,.z),some (.int (a:Int),.z),some (.lst [p,c,b,l],.u)])
  ·exists s1,s2,s3,c1,g,c2,c3,c4,li,ad
  apply ao (ρ1:=[some (.lst [.int n1],.u),some (R,.z),some (N,.z),some (V,.z),some (.int (a:Int),.z),some (.lst [p,c,b,l,v,s,t,.tup [R]],.u)])
  ·(repeat' (first | with_reducible exact rv | infer_instance | exact s1 | exact s2 | exact c5 | exact g | exact q | exact c6 | exact c7 | exact k1 | exact ad | eq_refl))
  apply ao (ρ1:=[some (.lst [.int n2],.u),some (R,.z),some (N,.z),some (V,.z),some (.int (a:Int),.z),some (.lst [p,c,b,l,v,s,t,.tup [R],w],.u)])
  ·nomatch [t1],[c8,ss,tp,k2]
  ·apply a8
   ·nomatch [O],[gd]
   ·rfl
 ·rfl
theorem Di (s:Str):neX (.str s) (.str s)=some (.bl false,.z):=by
 simp [eqA,eqS]
theorem jU {bnd:L3.D->Sto->Option Sto} {c:M3 Bool} {elt:EM} (P:Sto->Prop) (Q:L3.D->Prop):∀ {ds:List L3.D} {τ:Sto},P τ ->
  (∀ d ∈ ds,∀ τ,P τ->∃ τ1 τ2 r τ3 p τ4,bnd d τ=some τ1/\c τ1=some (.ok true,τ2)/\elt τ2=some (.ok r,τ3)/\cW r τ3=some (.ok p,τ4)/\Q p.1/\P τ4) ->
  ∃ out τ',bQ bnd c elt ds τ=some (.ok out,τ')/\P τ'/\(∀ d ∈ out,Q d)/\out.length=ds.length
 | [],τ,h0,_=>⟨[],τ,rfl,h0,(fun d hd=>by cases hd),rfl⟩
 | x :: xs,τ,h0,hs=>by
  obtain ⟨τ1,τ2,r,τ3,p,τ4,e1,j,h,f,q,a⟩:=hs x Ec τ h0
  obtain ⟨out,τ',e,g,i,b⟩:=jU P Q (ds:=xs) (τ:=τ4) a fun d hd=>hs d (Ed _ hd)
  refine ⟨p.1 :: out,τ',?_,g,fun d hd=>?_,by simp [b]⟩
  ·unfold bQ
   simp [e1,ae,j,h,f,e,aW]
  ·rcases Ei.mp hd with rfl | hd
   ·exact q
   ·exact i d hd
abbrev Gt (d:L3.D):Prop:=Th d/\Sh' d
theorem tV {n:Nat} {r:List Nat} (h:Ris n r) (b:n<=7):Gt (.tup (Nd r)):=by
 have c:=h.len
 have s:=ni (r:=r) fun x a=>by have:=h.lt x a;omega
 exact fS (fun d hd=>⟨bN (s d hd).1 (by decide) (by decide),(s d hd).2.1⟩) (by rw [En];omega)
theorem uG (b:Bool):iI [(.bl b,.z),(.bl b,.z)]=some (.ok (.bl true,.z),[(.bl b,.z),(.bl b,.z)]):=by
 cases b <;> kernel_rfl
theorem qR {ps:List Pt} (g:GoodSh ps) (e:ps.length<=7) {d:L3.D} (hd:Gt d) {S L B:L3.D} {v4 v5 v6 v7 v9 v10:Option (L3.D × Fl)}:∃ w,gx [some (S,.z),some (L,.z),some (B,.u),some (Shd ps,.z),v4,v5,v6,v7,some (d,.z),v9,v10]=some (.ok .nx,[some (S,.z),some (L,.z),some (B,.u),some (Shd ps,.z),v4,v5,v6,v7,some (d,.z),v9,w]):=by
 obtain ⟨b,f,i⟩:=wV g e hd.1
 obtain ⟨t,a⟩:=hd.2
 have c:nC [d]=some (.str t,.z):=a
 have h:=uG b
 have ne:=Di t
 clear a hd g
 generalize Shd ps=H at *
 refine ⟨some (.str t,.z),?_⟩
 unfold gx
 apply ao (ρ1:=[some (S,.z),some (L,.z),some (B,.u),some (H,.z),v4,v5,v6,v7,some (d,.z),v9,some (.str t,.z)])
 ·exists c
 refine cj (b:=false) (dW (b:=false) (ρ1:=[some (S,.z),some (L,.z),some (B,.u),some (H,.z),v4,v5,v6,v7,some (d,.z),v9,some (.str t,.z)]) ?_ rfl ?_) rfl rfl
 ·exact bj (cD (ak h (av (ak i (av (ay rfl) (av (ay rfl) aR)) rfl rfl rfl) (av (ak f (av (ay rfl) (av (ay rfl) aR)) rfl rfl rfl) aR)) rfl rfl rfl) rfl)
 ·exact cD (cE (aY (av (ay rfl) aR) rfl c) (ay rfl) rfl rfl ne) rfl
theorem kT {ps:List Pt} (g:GoodSh ps) (f:ps.length<=7) {ds:List L3.D} (hd:∀ d ∈ ds,Gt d) {S L B:L3.D} {v4 v5 v6 v7 v8 v9 v10:Option (L3.D × Fl)}:∃ c a,cI (aq 8) gx ds [some (S,.z),some (L,.z),some (B,.u),some (Shd ps,.z),v4,v5,v6,v7,v8,v9,v10]=some (.ok .nx,[some (S,.z),some (L,.z),some (B,.u),some (Shd ps,.z),v4,v5,v6,v7,c,v9,a]):=by
 obtain ⟨ρ',e,c,a,rfl⟩:=cF (bnd:=aq 8) (b:=gx) (fun _ ρ=>∃ c a,ρ=[some (S,.z),some (L,.z),some (B,.u),some (Shd ps,.z),v4,v5,v6,v7,c,v9,a]) (ds:=ds) (ρ:=[some (S,.z),some (L,.z),some (B,.u),some (Shd ps,.z),v4,v5,v6,v7,v8,v9,v10]) (k:=0) ⟨_,_,rfl⟩ (by
  rintro i d ρ hi ⟨c,a,rfl⟩
  obtain ⟨w,e⟩:=qR g f (hd d (Ep hi)) (S:=S) (L:=L) (B:=B) (v4:=v4) (v5:=v5) (v6:=v6) (v7:=v7) (v9:=v9) (v10:=a)
  exact ⟨_,_,rfl,.inl e,_,_,rfl⟩)
 exact ⟨c,a,e⟩
theorem Ck {k:Nat} (o:1<=k) (f:k<=7) (n:Int) {S L H V:L3.D} {v6 v7 v8 v9 v10:Option (L3.D × Fl)}:∃ b X,lp [some (S,.z),some (L,.z),some (.lst [.int n],.u),some (H,.z),some (V,.z),some (.lst (Pl (lx k 0)),.u),v6,v7,v8,v9,v10]=some (.ok (.val (.lst X) .u),[some (S,.z),some (L,.z),some (.lst [.int b],.u),some (H,.z),some (V,.z),some (.lst (Pl (lx k 0)),.u),v6,v7,v8,v9,v10])/\(∀ d ∈ X,Gt d)/\X.length=8:=by
 have p:=rT k f
 have fp:0 < (lx k 0).length:=by
  obtain ⟨l,e⟩:=x4 k
  rw [e];simp
 have ln:bZ [.lst (Pl (lx k 0))]=some (.int ((lx k 0).length:Int),.z):=by simp only [kA,c1,En]
 obtain ⟨X,τ',e,⟨v,b,rfl⟩,j,h⟩:=jU (bnd:=aq 0) (c:=b7) (elt:=lu) (fun τ=>∃ v n,τ=[v,some (.lst (Pl (lx k 0)),.u),some (.lst [.int n],.u)]) Gt (ds:=bh 0 8) (τ:=[none,some (.lst (Pl (lx k 0)),.u),some (.lst [.int n],.u)]) ⟨none,n,rfl⟩ (by
  rintro d hd τ ⟨v,n,rfl⟩
  have t:=cX n ((lx k 0).length:Int) (by omega)
  obtain ⟨i,hi,g⟩:=iG n fp
  rw [g] at t
  obtain ⟨r,a⟩:∃ r,(lx k 0)[i]?=some r:=⟨_,Ej hi⟩
  have m:aA (.lst (Pl (lx k 0))) (.int (i:Int))=some (.tup (Nd r),.z):=iq (iU (by rw [Et,a];rfl))
  have q:Gt (.tup (Nd r)):=tV (nV (Ep a)) f
  generalize n / ((lx k 0).length:Int)=n1 at *
  refine ⟨[some (d,.z),some (.lst (Pl (lx k 0)),.u),some (.lst [.int n],.u)],[some (d,.z),some (.lst (Pl (lx k 0)),.u),some (.lst [.int n],.u)],.val (.tup (Nd r)) .z,[some (d,.z),some (.lst (Pl (lx k 0)),.u),some (.lst [.int n1],.u)],(.tup (Nd r),.z),[some (d,.z),some (.lst (Pl (lx k 0)),.u),some (.lst [.int n1],.u)],rfl,rfl,?_,rfl,q,_,_,rfl⟩
  clear q a g
  generalize L3.D.lst (Pl (lx k 0))=P at *
  generalize L3.D.tup (Nd r)=R at *
  generalize L3.D.int ((lx k 0).length:Int)=N at *
  unfold lu
  (nomatch [t],[ln,m]))
 refine ⟨b,X,?_,j,by rw [h,bK]⟩
 generalize L3.D.lst (Pl (lx k 0))=P at *
 have a:cH [.int 8]=some (bh 0 8):=cu (by decide) (by decide)
 exact aM (rs:=[]) (ρ1:=[some (S,.z),some (L,.z),some (.lst [.int n],.u),some (H,.z),some (V,.z),some (P,.u),v6,v7,v8,v9,v10]) (ds:=bh 0 8) (by (repeat' (first | with_reducible apply dU (h3:=a) | infer_instance | eq_refl))) e (by rw [bK];decide) rfl
theorem Cj {ps:List Pt} (k:ps.length<=7) {r:List Nat} (h:Ris ps.length r) (h3:1<=r.length) {V:L3.D} (f:V ∈ ov) (n:Int) {S L:L3.D} {v5 v6 v7 v8 v10:Option (L3.D × Fl)}:∃ a X,pV [some (S,.z),some (L,.z),some (.lst [.int n],.u),some (Shd ps,.z),some (V,.z),v5,v6,v7,v8,some (.tup (Nd r),.z),v10]=some (.ok (.val (.lst X) .u),[some (S,.z),some (L,.z),some (.lst [.int a],.u),some (Shd ps,.z),some (V,.z),v5,v6,v7,v8,some (.tup (Nd r),.z),v10])/\(∀ d ∈ X,Gt d)/\X.length=3:=by
 have ln:=iS ps
 obtain ⟨X,τ',e,⟨v,a,rfl⟩,j,g⟩:=jU (bnd:=aq 0) (c:=b7) (elt:=lq) (fun τ=>∃ v n,τ=[v,some (.lst [.int n],.u),some (.tup (Nd r),.z),some (V,.z),some (Shd ps,.z)]) Gt (ds:=bh 0 3) (τ:=[none,some (.lst [.int n],.u),some (.tup (Nd r),.z),some (V,.z),some (Shd ps,.z)]) ⟨none,n,rfl⟩ (by
  rintro d hd τ ⟨v,n,rfl⟩
  obtain ⟨b,x,l,q⟩:=wL h h3 k f n
  refine ⟨[some (d,.z),some (.lst [.int n],.u),some (.tup (Nd r),.z),some (V,.z),some (Shd ps,.z)],[some (d,.z),some (.lst [.int n],.u),some (.tup (Nd r),.z),some (V,.z),some (Shd ps,.z)],.val x .z,[some (d,.z),some (.lst [.int b],.u),some (.tup (Nd r),.z),some (V,.z),some (Shd ps,.z)],(x,.z),[some (d,.z),some (.lst [.int b],.u),some (.tup (Nd r),.z),some (V,.z),some (Shd ps,.z)],rfl,rfl,?_,rfl,q,_,_,rfl⟩
  clear q h
  generalize L3.D.tup (Nd r)=R at *
  generalize L3.D.int (ps.length:Int)=N at *
  generalize Shd ps=H at *
  unfold lq
  exact ak l (av (ay rfl) (av (ay rfl) (av (aY (av (ay rfl) aR) rfl ln) (av (ay rfl) aR)))) rfl rfl rfl)
 refine ⟨a,X,?_,j,by rw [g,bK]⟩
 generalize L3.D.tup (Nd r)=R at *
 generalize Shd ps=H at *
 have i:cH [.int 3]=some (bh 0 3):=cu (by decide) (by decide)
 exact aM (rs:=[]) (ρ1:=[some (S,.z),some (L,.z),some (.lst [.int n],.u),some (H,.z),some (V,.z),v5,v6,v7,v8,some (R,.z),v10]) (ds:=bh 0 3) (by (repeat' (first | with_reducible apply dU (h3:=i) | infer_instance | eq_refl))) e (by rw [bK];decide) rfl
theorem Dz:[L3.D.tup [],.tup [.int 0],.tup [.int 0,.int 1]].map (fun d=>thB d && shB d)=[L3.D.tup [],.tup [.int 0],.tup [.int 0,.int 1]].map fun _=>true:=by kernel_rfl
theorem DA {d:L3.D} (h:(thB d && shB d)=true):Gt d:=by
 rw [Bool.and_eq_true] at h
 exact ⟨Bd h.1,sh_b h.2⟩
theorem Br {ps:List Pt} {r:List Nat} (h:r ∈ rgs ps):Ris ps.length r/\3<=r.length:=by
 obtain ⟨h1,h2⟩:=EL.mp h
 refine ⟨nV h1,?_⟩
 by_cases h3:3<=r.length
 ·exact h3
 ·rw [mU _ (by omega)] at h2;cases h2
theorem yh {ns:List Int} (k:Nat) {v2 v3 v4 v5 v6 v7 v8 v9 v10:Option (L3.D × Fl)}:∃ w2 w3 w4 w5 w6 w7 t w9 f,gw [some (.fls (ns.map .int),.z),some (.int k,.z),v2,v3,v4,v5,v6,v7,v8,v9,v10]=some (.ok .nx,[some (.fls (ns.map .int),.z),some (.int k,.z),w2,w3,w4,w5,w6,w7,t,w9,f]):=by
 obtain ⟨n,Z⟩:=zP ns k
 obtain ⟨K,ps,es,g,gm⟩:=uH n 7 (by decide) (by decide)
 have p:ps.length<=7:=by omega
 have t0:=cX K 20 (by decide)
 obtain ⟨a,ha,R⟩:=iG K (m:=20) (by decide)
 rw [show ((20:Nat):Int)=20 from rfl] at R
 rw [R] at t0
 clear R
 generalize K / 20=n3 at *
 obtain ⟨V,hV,hm⟩:=ov_at a ha
 have U:=zL t0 hV
 have pr:=mo ps.length g.pos p
 have ls:=iS ps
 have y:=uJ g p
 have fw:=rT ps.length p
 generalize L3.D.fls (ns.map .int)=S at *
 generalize L3.D.int (k:Int)=L at *
 obtain ⟨j,v,T,F,O⟩:=Ck g.pos p n3 (S:=S) (L:=L) (H:=Shd ps) (V:=V) (v6:=v6) (v7:=v7) (v8:=v8) (v9:=v9) (v10:=v10)
 obtain ⟨s,x1⟩:∃ r,(lx ps.length 0)[(lx ps.length 0).length - 1]?=some r:=by
  obtain ⟨l,e⟩:=x4 ps.length
  exact ⟨_,Ej (by rw [e];simp)⟩
 have g1:aA (.lst (Pl (lx ps.length 0))) (.int (-1))=some (.tup (Nd s),.z):=iq (kR (by rw [En,Et,x1];rfl))
 have q1:Gt (.tup (Nd s)):=tV (nV (Ep x1)) p
 have k1:aO (.lst v) (.lst [V,.tup [],.tup [.int 0],.tup [.int 0,.int 1],.tup (Nd s)])=some (.lst (v ++ [V,.tup [],.tup [.int 0],.tup [.int 0,.int 1],.tup (Nd s)]),.u):=iH (by simp;omega)
 have I:∀ d ∈ v ++ [V,.tup [],.tup [.int 0],.tup [.int 0,.int 1],.tup (Nd s)],Gt d:=by
  intro d hd
  rcases El.mp hd with hd | hd
  ·exact F d hd
  ·simp only [Ei,List.not_mem_nil,or_false] at hd
   rcases hd with rfl | rfl | rfl | rfl | rfl
   ·obtain ⟨o1,o2,_⟩:=xE hm
    exact ⟨Bd o1,sh_b o2⟩
   ·exact DA (List.map_inj_left.mp Dz _ (by simp))
   ·exact DA (List.map_inj_left.mp Dz _ (by simp))
   ·exact DA (List.map_inj_left.mp Dz _ (by simp))
   ·exact q1
 have al:(v ++ [V,.tup [],.tup [.int 0],.tup [.int 0,.int 1],.tup (Nd s)]).length=13:=by simp [O]
 generalize ab:v ++ [V,.tup [],.tup [.int 0],.tup [.int 0,.int 1],.tup (Nd s)]=A at *
 have ne:=AC (X:=Pl (rgs ps)) (Q:=(· ∈ rgs ps)) (fun d hd=>by
  obtain ⟨r,hr,rfl⟩:=Es.mp hd
  exact ⟨r,hr,rfl⟩)
 have rl:(rgs ps).length<=128:=ES (List.length_filter_le _ _) fw
 have first:∀ {d5:SM} {o:Except L3.D Flw × Sto},d5 [some (S,.z),some (L,.z),some (.lst [.int j],.u),some (Shd ps,.z),some (V,.z),some (.lst (Pl (lx ps.length 0)),.u),some (.lst A,.u),some (.lst (Pl (rgs ps)),.u),v8,v9,v10]=some o->(aE (aP 2 (aj jx (aa (ac 0) (aa (ac 1) af)))) (aE (aP 3 (aj fk (aa (ac 2) (aa (mC (.int 7)) af)))) (aE (aP 4 (aj jv (aa (ac 2) af))) (aE (aP 5 (aj bd (aa (au bZ (aa (ac 3) af)) af))) (aE (aP 6 (ah aO lp (cA (aa (ac 4) (aa (bp af) (aa (bp (aa (mC (.int 0)) af)) (aa (bp (aa (mC (.int 0)) (aa (mC (.int 1)) af))) (aa (ah aA (ac 5) (mUn eZ (mC (.int 1)))) af)))))))) (aE (aP 7 (aj fm (aa (ac 3) af))) d5)))))) [some (S,.z),some (L,.z),v2,v3,v4,v5,v6,v7,v8,v9,v10]=some o:=by
  intro d5 o c
  clear ne I
  apply ao (ρ1:=[some (S,.z),some (L,.z),some (.lst [.int n],.u),v3,v4,v5,v6,v7,v8,v9,v10])
  ·nomatch [Z]
  apply ao (ρ1:=[some (S,.z),some (L,.z),some (.lst [.int K],.u),some (Shd ps,.z),v4,v5,v6,v7,v8,v9,v10])
  ·nomatch [es]
  apply ao (ρ1:=[some (S,.z),some (L,.z),some (.lst [.int n3],.u),some (Shd ps,.z),some (V,.z),v5,v6,v7,v8,v9,v10])
  ·clear T y c
   generalize Shd ps=H at *
   nomatch [U]
  apply ao (ρ1:=[some (S,.z),some (L,.z),some (.lst [.int n3],.u),some (Shd ps,.z),some (V,.z),some (.lst (Pl (lx ps.length 0)),.u),v6,v7,v8,v9,v10])
  ·clear T y c g1
   generalize L3.D.lst (Pl (lx ps.length 0))=P at *
   generalize L3.D.int (ps.length:Int)=N at *
   generalize Shd ps=H at *
   exact p9 (ak pr (av (aY (av (ay rfl) aR) rfl ls) aR) rfl rfl rfl) rfl (Nat.le_of_ble_eq_true rfl) rfl
  apply ao (ρ1:=[some (S,.z),some (L,.z),some (.lst [.int j],.u),some (Shd ps,.z),some (V,.z),some (.lst (Pl (lx ps.length 0)),.u),some (.lst A,.u),v7,v8,v9,v10])
  ·clear y c pr
   generalize L3.D.lst (Pl (lx ps.length 0))=P at *
   generalize L3.D.tup (Nd s)=R1 at *
   generalize Shd ps=H at *
   (repeat' (first | with_reducible exact T | infer_instance | exact g1 | exact k1 | eq_refl))
  apply ao (ρ1:=[some (S,.z),some (L,.z),some (.lst [.int j],.u),some (Shd ps,.z),some (V,.z),some (.lst (Pl (lx ps.length 0)),.u),some (.lst A,.u),some (.lst (Pl (rgs ps)),.u),v8,v9,v10])
  ·clear c pr g1
   generalize L3.D.lst (Pl (lx ps.length 0))=P at *
   generalize L3.D.lst (Pl (rgs ps))=G at *
   generalize Shd ps=H at *
   exact p9 (ak y (av (ay rfl) aR) rfl rfl rfl) rfl (Nat.le_of_ble_eq_true rfl) rfl
  exact c
 by_cases h0:Pl (rgs ps)=[]
 ·rw [Ez h0] at ne
  obtain ⟨t,f,lo⟩:=kT g p I (S:=S) (L:=L) (B:=.lst [.int j]) (v4:=some (V,.z)) (v5:=some (.lst (Pl (lx ps.length 0)),.u)) (v6:=some (.lst A,.l)) (v7:=some (.lst (Pl (rgs ps)),.u)) (v8:=v8) (v9:=v9) (v10:=v10)
  refine ⟨some (.lst [.int j],.u),some (Shd ps,.z),some (V,.z),some (.lst (Pl (lx ps.length 0)),.u),some (.lst A,.u),some (.lst (Pl (rgs ps)),.u),t,v9,f,?_⟩
  ·unfold gw
   refine first ?_
   apply ao
   ·exact cj (b:=false) (cD (cE (ay rfl) (r9 aR rfl (Nat.le_of_ble_eq_true rfl)) rfl rfl ne) rfl) rfl rfl
   ·exact yr (is:=[6]) (ρ1:=[some (S,.z),some (L,.z),some (.lst [.int j],.u),some (Shd ps,.z),some (V,.z),some (.lst (Pl (lx ps.length 0)),.u),some (.lst A,.u),some (.lst (Pl (rgs ps)),.u),v8,v9,v10]) (ρ2:=[some (S,.z),some (L,.z),some (.lst [.int j],.u),some (Shd ps,.z),some (V,.z),some (.lst (Pl (lx ps.length 0)),.u),some (.lst A,.l),some (.lst (Pl (rgs ps)),.u),t,v9,f]) (oe (ay (i:=6) rfl) rfl rfl) rfl lo
 ·rw [EA h0] at ne
  have rp:0 < (rgs ps).length:=by
   cases hh:rgs ps with
   | nil=>rw [hh] at h0;exact absurd rfl h0
   | cons x l=>simp
  have t1:=cX j ((rgs ps).length:Int) (by omega)
  obtain ⟨i,hi,W⟩:=iG j rp
  rw [W] at t1
  clear W
  generalize j / ((rgs ps).length:Int)=n5 at *
  have M:bZ [.lst (Pl (rgs ps))]=some (.int ((rgs ps).length:Int),.z):=by simp only [kA,c1,En]
  obtain ⟨h,x2⟩:∃ r,(rgs ps)[i]?=some r:=⟨_,Ej hi⟩
  obtain ⟨q,Y⟩:∃ r,(rgs ps)[(rgs ps).length - 1]?=some r:=⟨_,Ej (by omega)⟩
  have g2:aA (.lst (Pl (rgs ps))) (.int (i:Int))=some (.tup (Nd h),.z):=iq (iU (by rw [Et,x2];rfl))
  have g3:aA (.lst (Pl (rgs ps))) (.int (-1))=some (.tup (Nd q),.z):=iq (kR (by rw [En,Et,Y];rfl))
  have i2:=Br (Ep x2)
  have i3:=Br (Ep Y)
  obtain ⟨w,J,l2,E,ar⟩:=Cj p i2.1 (by omega) hm n5 (S:=S) (L:=L) (v5:=some (.lst (Pl (lx ps.length 0)),.u)) (v6:=some (.lst A,.u)) (v7:=some (.lst (Pl (rgs ps)),.u)) (v8:=v8) (v10:=v10)
  have k2:aO (.lst A) (.lst [.tup (Nd h),.tup (Nd q)])=some (.lst (A ++ [.tup (Nd h),.tup (Nd q)]),.u):=iH (by simp;omega)
  have k3:aO (.lst (A ++ [.tup (Nd h),.tup (Nd q)])) (.lst J)=some (.lst (A ++ [.tup (Nd h),.tup (Nd q)] ++ J),.u):=iH (by simp;omega)
  have hB:∀ d ∈ A ++ [.tup (Nd h),.tup (Nd q)] ++ J,Gt d:=by
   intro d hd
   rcases El.mp hd with hd | hd
   ·rcases El.mp hd with hd | hd
    ·exact I d hd
    ·simp only [Ei,List.not_mem_nil,or_false] at hd
     rcases hd with rfl | rfl
     ·exact tV i2.1 p
     ·exact tV i3.1 p
   ·exact E d hd
  generalize A ++ [.tup (Nd h),.tup (Nd q)] ++ J=C at *
  obtain ⟨t,f,lo⟩:=kT g p hB (S:=S) (L:=L) (B:=.lst [.int w]) (v4:=some (V,.z)) (v5:=some (.lst (Pl (lx ps.length 0)),.u)) (v6:=some (.lst C,.l)) (v7:=some (.lst (Pl (rgs ps)),.u)) (v8:=v8) (v9:=some (.tup (Nd h),.z)) (v10:=v10)
  refine ⟨some (.lst [.int w],.u),some (Shd ps,.z),some (V,.z),some (.lst (Pl (lx ps.length 0)),.u),some (.lst C,.u),some (.lst (Pl (rgs ps)),.u),t,some (.tup (Nd h),.z),f,?_⟩
  ·unfold gw
   refine first ?_
   clear first I hB F E y pr U es Z
   generalize A ++ [.tup (Nd h),.tup (Nd q)]=A2 at *
   generalize L3.D.tup (Nd h)=R2 at *
   generalize L3.D.tup (Nd q)=R3 at *
   generalize L3.D.lst (Pl (lx ps.length 0))=P at *
   generalize L3.D.lst (Pl (rgs ps))=G at *
   generalize L3.D.int ((rgs ps).length:Int)=N at *
   generalize Shd ps=H at *
   apply ao (ρ1:=[some (S,.z),some (L,.z),some (.lst [.int w],.u),some (H,.z),some (V,.z),some (P,.u),some (.lst C,.u),some (G,.u),v8,some (R2,.z),v10])
   ·refine dn (b:=true) (cD (cE (ay rfl) (r9 aR rfl (Nat.le_of_ble_eq_true rfl)) rfl rfl ne) rfl) rfl ?_
    apply ao (ρ1:=[some (S,.z),some (L,.z),some (.lst [.int n5],.u),some (H,.z),some (V,.z),some (P,.u),some (.lst A,.u),some (G,.u),v8,some (R2,.z),v10])
    ·nomatch [t1],[M,g2]
    ·exists g3,k2,k3,l2
   ·exact yr (is:=[6]) (ρ1:=[some (S,.z),some (L,.z),some (.lst [.int w],.u),some (H,.z),some (V,.z),some (P,.u),some (.lst C,.u),some (G,.u),v8,some (R2,.z),v10]) (ρ2:=[some (S,.z),some (L,.z),some (.lst [.int w],.u),some (H,.z),some (V,.z),some (P,.u),some (.lst C,.l),some (G,.u),t,some (R2,.z),f]) (oe (ay (i:=6) rfl) rfl rfl) rfl lo
theorem zN (ns:List Int) (r:ns.length<=63):BI [(.fls (ns.map .int),.z)]=some (.ok (.bl true,.z),[(.fls (ns.map .int),.z)]):=by
 have c:∃ m:Nat,(if (if ((4:Int) < ((ns.map L3.D.int).length:Int)) then (4:Int) else ((ns.map L3.D.int).length:Int)) > 1 then (if ((4:Int) < ((ns.map L3.D.int).length:Int)) then (4:Int) else ((ns.map L3.D.int).length:Int)) else (1:Int))=(m:Int)/\m<=4:=by
  refine ⟨max 1 (min ns.length 4),?_,by omega⟩
  simp only [En]
  split <;> split <;> omega
 obtain ⟨m,hm,f⟩:=c
 obtain ⟨ρ',e,v1,v2,v3,v4,v5,v6,v7,v8,v9,v10,rfl⟩:=cF (bnd:=aq 1) (b:=gw) (fun _ ρ=>∃ v1 v2 v3 v4 v5 v6 v7 v8 v9 v10,ρ=[some (.fls (ns.map .int),.z),v1,v2,v3,v4,v5,v6,v7,v8,v9,v10]) (ds:=bh 0 m) (ρ:=[some (.fls (ns.map .int),.z),none,none,none,none,none,none,none,none,none,none]) (k:=0) ⟨_,_,_,_,_,_,_,_,_,_,rfl⟩ (by
  rintro i d ρ hd ⟨v1,v2,v3,v4,v5,v6,v7,v8,v9,v10,rfl⟩
  obtain ⟨hi,rfl⟩:=eX hd
  rw [Int.zero_add]
  obtain ⟨s,h,n,l,p,j,q,o,a,e⟩:=yh (ns:=ns) i (v2:=v2) (v3:=v3) (v4:=v4) (v5:=v5) (v6:=v6) (v7:=v7) (v8:=v8) (v9:=v9) (v10:=v10)
  exact ⟨_,_,rfl,.inl e,_,_,_,_,_,_,_,_,_,_,rfl⟩)
 have g:cH [.int (if (if ((4:Int) < ((ns.map L3.D.int).length:Int)) then (4:Int) else ((ns.map L3.D.int).length:Int)) > 1 then (if ((4:Int) < ((ns.map L3.D.int).length:Int)) then (4:Int) else ((ns.map L3.D.int).length:Int)) else (1:Int))]=some (bh 0 m):=by
  rw [hm]
  exact cu (by omega) (by omega)
 apply aG (ρ:=[some (.fls (ns.map .int),.z),none,none,none,none,none,none,none,none,none,none]) rfl rfl
 ·apply ao
  ·apply jq
   ·(repeat' (first | with_reducible apply dU (h3:=g) | infer_instance | eq_refl))
   ·rfl
   ·exact e
  ·nofun
 ·rfl
end Bn
end
namespace Bn
open PySem L2 L3
theorem DR {l : PySem.W.OpenLaw} {w : World} {K : FG} {h : Heap} {mg : Str -> Option Value} {fa : Addr} (X : K.In h) (G : h.Ns mainGlobals mg) (dd : mg "law" = some (.ref fa)) (e : zK K = tW) :
  ∃ fd : FuncData, (∀ (s : Shared) (v : Value), BindsTo s fd ⟨[v], []⟩ [("_law_script", v)]) /\ ∀ base : Heap, K.In base -> base.Ns mainGlobals mg -> FnOk l.prog w K mg base CX0 8 fa fd ["_law_script"] (wj K) := by
 have c : dsL.map (fun p => qe K p.1) = dsL.map (fun p => lD p.1 p.2) := congrArg (fun x => x.1) e
 have e1 : blL.map (PySem.W.nsIn K mainGlobals) = blL.map (fun _ => some none) := congrArg (fun x => x.2.1) e
 have e2 : ciL.map (fun p => n9 K p.1) = ciL.map (fun p => some p.2) := congrArg (fun x => x.2.2.1) e
 have e3 : csL.map (fun p => wg K p.1) = csL.map (fun p => some p.2) := congrArg (fun x => x.2.2.2) e
 have B : Bl mg := ⟨cg X G e1 0 rfl, cg X G e1 1 rfl, cg X G e1 2 rfl, cg X G e1 3 rfl, cg X G e1 4 rfl, cg X G e1 5 rfl, cg X G e1 6 rfl, cg X G e1 7 rfl, cg X G e1 8 rfl, cg X G e1 9 rfl, cg X G e1 10 rfl, cg X G e1 11 rfl, cg X G e1 12 rfl, cg X G e1 13 rfl, cg X G e1 14 rfl, cg X G e1 15 rfl, cg X G e1 16 rfl, cg X G e1 17 rfl, cg X G e1 18 rfl, cg X G e1 19 rfl⟩
 have D0 : Def K mg "is_whole" fE := aI X G c 0 rfl
 have D1 : Def K mg "is_point" fG := aI X G c 1 rfl
 have D2 : Def K mg "is_place" fH := aI X G c 2 rfl
 have D3 : Def K mg "are_rising_places" bz := aI X G c 3 rfl
 have D4 : Def K mg "are_points" dw := aI X G c 4 rfl
 have D5 : Def K mg "has_rising_x" cr := aI X G c 5 rfl
 have D6 : Def K mg "bend" nz := aI X G c 6 rfl
 have D7 : Def K mg "threes" i5 := aI X G c 7 rfl
 have D8 : Def K mg "first_on_line" b9 := aI X G c 8 rfl
 have D9 : Def K mg "is_sheet" fF := aI X G c 9 rfl
 have dc : Def K mg "check_sheet" cQ := aI X G c 10 rfl
 have c7 : Def K mg "turn_at" iw := aI X G c 11 rfl
 have cm : Def K mg "all_turns" eh := aI X G c 12 rfl
 have a0 : Def K mg "row_bends" ee := aI X G c 13 rfl
 have c8 : Def K mg "side_row" fB := aI X G c 14 rfl
 have c0 : Def K mg "is_ring_by" du := aI X G c 15 rfl
 have a6 : Def K mg "is_ring" iF := aI X G c 16 rfl
 have c6 : Def K mg "_law_cell" i9 := aI X G c 17 rfl
 have a3 : Def K mg "_law_mix" kH := aI X G c 18 rfl
 have b0 : Def K mg "_law_box" kI := aI X G c 19 rfl
 have c3 : Def K mg "_law_take" i6 := aI X G c 20 rfl
 have c4 : Def K mg "_law_whole" iy := aI X G c 21 rfl
 have b4 : Def K mg "_law_truth" iz := aI X G c 22 rfl
 have c5 : Def K mg "_law_bend" jb := aI X G c 23 rfl
 have b6 : Def K mg "_law_free" i8 := aI X G c 24 rfl
 have b5 : Def K mg "_law_sheet" iA := aI X G c 25 rfl
 have d0 : Def K mg "_law_odd" kG := aI X G c 26 rfl
 have b3 : Def K mg "_law_up" nw := aI X G c 27 rfl
 have dx : Def K mg "_law_rising" fD := aI X G c 28 rfl
 have ck : Def K mg "_law_bends" iD := aI X G c 29 rfl
 have dr : Def K mg "_law_parts" iC := aI X G c 30 rfl
 have bq : Def K mg "_law_side" i7 := aI X G c 31 rfl
 have a4 : Def K mg "_law_is_ring" eg := aI X G c 32 rfl
 have dV : Def K mg "_law_rings" iB := aI X G c 33 rfl
 have be : Def K mg "_law_bent" ja := aI X G c 34 rfl
 obtain ⟨f, fd, F0, hf⟩ : Def K mg "law" gk := aI X G c 35 rfl
 cases dd.symm.trans hf
 have F := F0
 obtain ⟨oc, od, kV, doc, pm, an, a5, ct, d2, ef, lk, d4⟩ := F0.ex
 subst ef
 obtain ⟨eb, Q0⟩ := nZ X G e2 0 (n := "MOST_POINTS") (v := 24) rfl
 obtain ⟨d3, Q1⟩ := nZ X G e2 1 (n := "DOWN") (v := -1) rfl
 obtain ⟨ea, Q2⟩ := nZ X G e2 2 (n := "LEAST_CORNERS") (v := 3) rfl
 obtain ⟨ec, Q3⟩ := nZ X G e2 3 (n := "UP") (v := 1) rfl
 refine ⟨PySem.W.fnOf "law" "law" (bb gk) (aU gk) (ag gk) .none kV doc pm an a5 ct, fun s v => .of_eq rfl, fun base _ _ => ?_⟩
 have m := oG (P := l.prog) (w := w) (base := base) B D0
 have ab := oI (P := l.prog) (w := w) (base := base) B D1 m
 have T := oJ (P := l.prog) (w := w) (base := base) B D2 m
 have d := gh (P := l.prog) (w := w) (base := base) B D3 T
 have z := lL (P := l.prog) (w := w) (base := base) B D4 ab Q0
 have o := jV (P := l.prog) (w := w) (base := base) B D5
 have az := yZ (P := l.prog) (w := w) (base := base) B D6
 have I := su (P := l.prog) (w := w) (base := base) B D7
 have k := js (P := l.prog) (w := w) (base := base) B D8 az I
 have S := oH (P := l.prog) (w := w) (base := base) B D9 z k o
 have q := kF (P := l.prog) (w := w) (base := base) B dc S
 have ax := qv (P := l.prog) (w := w) (base := base) B c7 az
 have J := lZ (P := l.prog) (w := w) (base := base) B cm q I ax
 have L := lX (P := l.prog) (w := w) (base := base) B a0
 have Z := oE (P := l.prog) (w := w) (base := base) B c8
 have u := lK (P := l.prog) (w := w) (base := base) B c0 d L Z Q1 Q2 Q3
 have ar := qC (P := l.prog) (w := w) (base := base) B a6 J u
 have N := sC (P := l.prog) (w := w) (base := base) B c6
 have U := vH (P := l.prog) (w := w) (base := base) B a3
 have Y := vI (P := l.prog) (w := w) (base := base) B b0 N U
 have a := sy (P := l.prog) (w := w) (base := base) B c3
 have y := qw (P := l.prog) (w := w) (base := base) B c4
 have t := qx (P := l.prog) (w := w) (base := base) B b4
 have j := sE (P := l.prog) (w := w) (base := base) B c5
 have R := sB (P := l.prog) (w := w) (base := base) B b6 j
 have D := qy (P := l.prog) (w := w) (base := base) B b5 R a
 have V := vG (P := l.prog) (w := w) (base := base) B d0 a
 have r := yY (P := l.prog) (w := w) (base := base) B b3 j
 have g := oF (P := l.prog) (w := w) (base := base) B dx y
 have C := qB (P := l.prog) (w := w) (base := base) B ck g r
 have i := qA (P := l.prog) (w := w) (base := base) B dr
 have M := sA (P := l.prog) (w := w) (base := base) B bq r
 have b := lY (P := l.prog) (w := w) (base := base) B a4 C g M
 have A := qz (P := l.prog) (w := w) (base := base) B dV b i
 have O := sD (P := l.prog) (w := w) (base := base) B be a
 exact FnOk.imp (AU (P := l.prog) (w := w) (base := base) B F O Y b V i A D a t ar) fun vs H Q E h => AJ (fun ns hn => ⟨_, zN ns hn⟩) h
theorem walkL : PySem.W.WalkO viL loL (fun _ _ => True) (fun _ h => ∃ K : FG, K.In h /\ zK K = tW) PySem.Challenge.rw_bentrows_k23_rings_known.row.toRowW ⟨"law", bb gk, aU gk, ag gk, stPos gk⟩ [] (fun f g => PySem.call f g) :=
 L2.walk_ofS (l := PySem.Challenge.rw_bentrows_k23_rings_known) (n := 63) (k := 8) (x := "_law_script") (S := fun K => zK K = tW) (CX := CX0) (sp := wj) rfl (by decide) rfl ⟨rfl, by decide, by decide, rfl⟩ (fun _ _ z => z) (fun _ _ _ _ _ e X G hm => DR X G hm e) (fun _ _ a ns b c d => ⟨a, ns, rfl, d, c, b, fun _ => rfl⟩) fun _ _ _ _ z => z
end Bn
open PySem PySem.W PyProof.Rows
set_option maxRecDepth 100000 in
set_option maxHeartbeats 0 in
theorem PySem.Challenge.cw_bentrows_k23_rings_known_holds : PySem.Challenge.rw_bentrows_k23_rings_known.Holds :=
 holds_law Bn.okL fun said => holds_open (r := PySem.Challenge.rw_bentrows_k23_rings_known.row) Bn.leftL (fun _ _ e => ⟨_, L2.fragAt_in _, e⟩) (fun _ _ _ ⟨K, X, e⟩ k => ⟨K, X.keeps k, e⟩) (fun _ _ => trivial) (fun _ _ _ _ _ => trivial) (by kernel_rfl) (by kernel_rfl) (by kernel_rfl) (fun s e => recFacts_of e) (by rfl) said (by kernel_rfl) ⟨rfl, rfl, rfl, rfl, rfl, by decide +kernel⟩ ⟨[.list []], by decide +kernel, by decide +kernel⟩ Bn.walkL
